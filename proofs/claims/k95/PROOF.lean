import PyProof.Rows.All
import Wide.All
import OpenK.AllK
import Wide.FinOn
import Lean
import PyProof.EqAt
import PyProof.EqKinds
import PyProof.TupleCall
import KE.KIsNot
import PyProof.ExcArgs
import OpenK.KOwn
import KE.LcSums
import PyProof.EnumMake
import PyProof.Draws
import PyProof.Rows.EnumRows
import PyProof.ExcBaseAll.ValueError
import PyProof.NsDelKeeps
import PyProof.Rows.SetFrom
import PyProof.WalksMore
import KE.KDictSum
import PyProof.Rows.MinMaxN
import PyProof.Rows.CallKwBuiltin
import KE.KMinKey
import KE.KSortKey
import PyProof.DictWalks
import PyProof.Rows.StrNews2
import PyProof.Rows.StrWeight2
import PyProof.Rows.FStr
import PyProof.StrLawsTight
import PyProof.StrBlockH
import PySem.Challenge.RW_ladderhall_k95_whole_texts
set_option Elab.async false
set_option linter.all false
set_option maxRecDepth 100000
set_option maxHeartbeats 0
noncomputable section
open List (range replicate)
open Int (ofNat_eq_natCast)
abbrev Y0:=PySem.Value->PySem.Shared->Prop
def Qa:=@List.length_map
def Qb:=@PySem.wpAny_bind
def Qc:=@List.mem_cons_of_mem
def Qd:=@List.mem_cons_self
def Qe:=@List.length_append
def Qf:=@Nat.le_refl
def Qg:=@List.mem_append_right
def Qh:=@PySem.Heap.get?_push_of_some
def Qi:=@List.size_toArray
def Qj:=@PyProof.Rows.boot_tuple
def Qk:=@if_pos
def Ql:=@PySem.wpAny_pure
def Qm:=@List.mem_map
def Qn:=@PySem.Heap.lt_size
def Qo:=@Nat.lt_of_lt_of_le
def Qp:=@List.mem_cons
def Qq:=@Nat.le_trans
def Qr:=@List.map_cons
def Qs:=@List.getElem?_eq_some_iff
def Qt:=@decide_eq_true
def Qu:=@List.mem_singleton
def Qv:=@PySem.PassesOwn.never
def Qw:=@if_neg
def Qx:=@Nat.lt_irrefl
def Qy:=@PySem.Heap.get?_push_size
def Qz:=@List.getElem?_eq_getElem
def QA:=@List.getElem?_eq_none
def QB:=@List.getElem?_set_self
def QC:=@List.length_set
def QF:=@List.getElem?_set_ne
def QG:=@List.map_map
def QH:=@PySem.mem_of_lookup
def QI:=@PySem.W.mg_of
def QJ:=@List.not_mem_nil
def QK:=@List.length_cons
def QL:=@List.mem_append
def QM:=@Option.some.inj
def QN:=@List.mem_range
def QO:=@List.getElem?_map
def QP:=@PySem.SeqAt.canLay_of_shaped
def QR:=@List.flatten_cons
def QS:=@Nat.ne_of_lt
def QT:=@Bool.and_eq_true_iff
def QU:=@List.all_eq_true
def QV:=@List.getElem?_append_left
def QW:=@List.mem_append_left
def QX:=@Bool.and_eq_true
def QY:=@List.append_nil
def QZ:=@PySem.W.mg_none_of
def Q0:=@List.map_congr_left
def Q1:=@List.length_range
def Q2:=@PySem.wpAny_mono
def Q3:=@PyProof.Rows.slot_tuple_getitem
def Q4:=@PySem.W.kia_one
def Q5:=@List.lookup_cons
def Q6:=@List.map_append
def Q7:=@List.length_replicate
def Q8:=@List.length_singleton
def Q9:=@PySem.wpAny_newObj_type
def Za:=@List.ext_getElem?
def Zb:=@List.getElem?_append_right
def Zc:=@List.getD_eq_getElem?_getD
def Zd:=@decide_eq_false
def Ze:=@List.getElem_mem
def Zf:=@PyProof.Rows.boot_list
def Zg:=@List.append_assoc
def Zh:=@Option.isSome_iff_exists
def Zi:=@PySem.Heap.size_push
def Zj:=@Nat.lt_trans
def Zk:=@PySem.wpAny_truthy_bool
def Zl:=@decide_eq_true_eq
def Zm:=@Option.map_eq_some_iff
def Zn:=@Function.comp_def
def Zo:=@List.replicate_succ
def Zp:=@List.getElem?_range
def Zq:=@Option.map_some
def Zr:=@congrArg
def Zs:=@PySem.call_meets
def Zt:=@Nat.lt_succ_self
def Zu:=@List.getElem?_replicate
def Zv:=@of_decide_eq_true
def Zw:=@PySem.F.plainAttrs_list
def Zx:=@List.length_eq_zero_iff
def Zy:=@beq_iff_eq
def Zz:=@List.mem_map_of_mem
def ZA:=@PyProof.Rows.callWith_type1
def ZB:=@PySem.wpAny_field
def ZC:=@Bool.false_ne_true
def ZD:=@PySem.F.slot_tuple_iterator_next
def ZE:=@PySem.F.excBase_ValueError
def ZF:=@List.findIdx?_eq_some_iff_getElem
def ZG:=@Nat.le_of_lt
def ZH:=@Nat.lt_succ_of_lt
def ZI:=@PySem.wpAny_holding
def ZJ:=@List.sum_cons
def ZK:=@List.length_take
def ZL:=@PySem.wpAny_callSpecial?_slot
def ZM:=@Ne.symm
def ZN:=@PySem.W.cellsFrom_some
def ZO:=@PySem.Heap.get?_update_other
def ZP:=@Bool.false_eq_true
def ZQ:=@PySem.wpAny_pyIter_tuple
def ZR:=@PySem.F.plainAttrs_str
def ZS:=@List.range_succ_eq_map
def ZT:=@List.nodup_cons
def ZU:=@PySem.pushCells_keeps
def ZV:=@PyProof.Rows.boot_isinstance
def ZW:=@List.all_cons
def ZX:=@PyProof.Rows.boot_str
def ZY:=@Int.toNat_natCast
def ZZ:=@if_true
def Z0:=@PySem.F.typeOf_object_class
def Z1:=@PySem.Str.length_append
def Z2:=@Nat.le_succ
def Z3:=@PySem.codeAny_call_builtin
def Z4:=@PyProof.Rows.room_in_shaped
def Z5:=@Array.getElem?_eq_some_iff
def Z6:=@List.length_drop
def Z7:=@List.map_nil
def Z8:=@beq_self_eq_true
def Z9:=@List.drop_eq_getElem_cons
def Ja:=@List.filterMap_cons
def Jb:=@List.getElem?_take_of_lt
def Jc:=@PySem.F.args_tuple_add_2
def Jd:=@PySem.wpAny_comprehension_free
def Je:=@Bool.true_and
def Jf:=@PySem.wpAny_passesOwn
def Jg:=@Nat.min_eq_left
def Jh:=@List.mem_filterMap
def Ji:=@PySem.wpAny_Call_Name_kw
def Jj:=@PySem.Obj.data_mapFields
def Jk:=@PySem.F.entry_tuple_add
def Jl:=@Nat.zero_le
def Jm:=@PySem.F.slot_tuple_add
def Jn:=@List.all_map
def Jo:=@List.mapM_cons
def Jp:=@PySem.Heap.get?_update_self
def Jq:=@PySem.wpAny_execs_cons
def Jr:=@PySem.wpAny_call_entry
def Js:=@PySem.typeIs_str
def Jt:=@PySem.F.slot_tuple_mul
def Ju:=@decide_eq_decide
def Jv:=@List.getElem_map
def Jw:=@List.mem_flatten
def Jx:=@PySem.W.Looks.of_pure
def Jy:=@PySem.sizeLine_eq
def Jz:=@PySem.Calls.evalArgs_plain
def JA:=@List.mem_of_mem_take
def JB:=@PySem.wpAny_execs_nil
def JC:=@PySem.F.slot_int_rmul
def JD:=@PySem.codeAny_builtin
def JE:=@PySem.F.args_tuple_iterator_next_1
def JF:=@Array.length_toList
def JG:=@PySem.F.slot_gs_get
def JH:=@List.length_pos_iff
def JI:=@ne_true_of_eq_false
def JJ:=@List.filter_eq_self
def JK:=@PySem.codeAny_mono
def JL:=@PySem.F.entry_tuple_iterator_next
def JM:=@List.idxOf_lt_length_of_mem
def JN:=@Array.append_assoc
def JO:=@PySem.Calls.Name_function_global
def JP:=@PySem.Calls.spliced_cons
def JQ:=@if_false
def JR:=@PySem.F.excAttr_ValueError
def JS:=@List.getElem?_take_eq_none
def JT:=@PySem.wpAny_setField
def JU:=@PySem.F.args_str_split_2
def JV:=@Int.natCast_nonneg
def JW:=@List.getElem_range
def JX:=@Int.emod_lt_of_pos
def JY:=@of_decide_eq_false
def JZ:=@PySem.StrLaws.join_split
def J0:=@List.findIdx?_cons
def J1:=@PySem.wpAny_binaryOp_repeat_ref
def J2:=@List.ne_nil_of_length_pos
def J4:=@PySem.wpAny_Assign_Name
def J6:=@PySem.W.kitx_list
def J9:=@PySem.Calls.spliced_nil
def Ya:=@PySem.F.entry_str_split
def Yb:=@PySem.wpAny_standAt
def Yc:=@PySem.noFill_tuple_add
def Yd:=@Nat.succ_le_succ
def Ye:=@PySem.isinstance_outer
def Yf:=@Nat.le_add_right
def Yg:=@List.take_length
def Yh:=@PySem.F.slot_list_count
def Yi:=@PySem.F.slot_list_index
def Yj:=@PySem.F.slot_str_split
def Yk:=@List.flatten_nil
def Yl:=@List.cons_append
def Ym:=@Nat.add_sub_cancel_left
def Yn:=@PySem.concat_meets
def Yo:=@PySem.wpAny_typeOf
def Yp:=@PySem.typeIs_int
def Yq:=@Option.map_eq_none_iff
def Yr:=@List.take_of_length_le
def Ys:=@List.of_mem_zip
def Yt:=@List.nil_append
def Yu:=@PySem.call_isinstance
def Yv:=@Nat.le_antisymm
def Yw:=@List.range_succ
def Yx:=@List.set_append
def Yy:=@Int.emod_nonneg
def Yz:=@PyProof.Rows.boot_max
def YA:=@List.length_filter_le
def YB:=@List.mem_of_getElem?
def YC:=@PySem.W.looks_subIn
def YD:=@List.drop_zero
def YE:=@List.getElem?_zipIdx
def YF:=@Option.map_map
def YG:=@List.mem_of_mem_drop
def YH:=@Array.toList_extract
def YI:=@beq_eq_false_iff_ne
def YJ:=@Int.toNat_of_nonneg
def YK:=@Bool.not_true
def YL:=@Nat.mul_comm
def YM:=@Nat.le_of_eq
def YN:=@Nat.sub_zero
def YO:=@Nat.succ.inj
namespace L2
open PySem PySem.Spec PyProof.Rows
variable {K:PySem.W.Frag}{M:Model}{N:List Str}{base:Heap}{body:List Stmt}{fp:List Addr}{g:Int->Int->Int}{i j n:Nat}{it:Addr}{kindOf:Str->Option NameKind}{mA mg:Str->Option Value}{op ky:CmpOp}{qual:Str}{sc scope:Scope}{us:List Value}{v:Value}
abbrev Key:=Sum Int Str
def Dk:Key->Value->Bool
 | .inl k,v=>Value.isInt k v
 | .inr x,v=>Value.isStrOf x v
def IW (w:World):Key->Int
 | .inl k=>hashInt k
 | .inr x=>hashStr w x
theorem nY:∀ {k:Key} {v:Value},Dk k v=true->(∃ i t,k=Sum.inl i/\v=Value.int i t)\/(∃ x t,k=Sum.inr x/\v=Value.str x t)
 | .inl i,v,h=>by obtain⟨t,e⟩:=Value.isInt_shape (k:=i) (v:=v) h;exact .inl ⟨i,t,rfl,e⟩
 | .inr x,v,h=>by obtain⟨t,e⟩:=Value.isStrOf_shape (x:=x) (v:=v) h;exact .inr ⟨x,t,rfl,e⟩
theorem IX(a b:Int):decide ((Sum.inl a:Key)=Sum.inl b)=(a==b):=by
 by_cases e:a=b
 .subst e;simp
 .have h:¬ (Sum.inl a:Key)=Sum.inl b:=λq=>e (Sum.inl.inj q);rw[Zd h];exact(YI.mpr e).symm
theorem IY(a b:Str):decide ((Sum.inr a:Key)=Sum.inr b)=decide (a=b):=by
 by_cases e:a=b
 .subst e;simp
 .have h:¬ (Sum.inr a:Key)=Sum.inr b:=λq=>e (Sum.inr.inj q);rw[Zd h,Zd e]
theorem IZ(a:Int)(b:Str):decide ((Sum.inl a:Key)=Sum.inr b)=false:=Zd (λq=>nomatch q)
theorem I0(a:Str)(b:Int):decide ((Sum.inr a:Key)=Sum.inl b)=false:=Zd (λq=>nomatch q)
def zv (prog:Program)(w:World):PySem.KeyKind prog w Key where
 is:=Dk
 hash:=IW w
 inj:=λv a b ha hb=>by
  rcases nY ha with⟨i,t,rfl,rfl⟩|⟨x,t,rfl,rfl⟩
  .rcases nY hb with⟨j,u,rfl,e⟩|⟨y,u,rfl,e⟩
   .injection e with e1 _;rw[e1]
   .exact nomatch e
  .rcases nY hb with⟨j,u,rfl,e⟩|⟨y,u,rfl,e⟩
   .exact nomatch e
   .injection e with e1 _;rw[e1]
 byValue:=λk v h=>by rcases nY h with⟨i,t,rfl,rfl⟩|⟨x,t,rfl,rfl⟩<;>rfl
 pyHash:=λhv h=>by
  rcases nY hv with⟨i,t,rfl,rfl⟩|⟨x,t,rfl,rfl⟩
  .exact wpAny_pyHash_int h
  .exact wpAny_pyHash_str h
 eqBool:=λhu hv h=>by
  rcases nY hu with⟨i,t,rfl,rfl⟩|⟨x,t,rfl,rfl⟩
  .rcases nY hv with⟨j,u,rfl,rfl⟩|⟨y,u,rfl,rfl⟩
   .rw[IX]at h;exact wpAny_eqBool_int h
   .rw[IZ]at h;exact SeqAt.EqAt.int_str i t y u _ _ _ _ h
  .rcases nY hv with⟨j,u,rfl,rfl⟩|⟨y,u,rfl,rfl⟩
   .rw[I0]at h;exact SeqAt.EqAt.str_int x t j u _ _ _ _ h
   .rw[IY]at h;exact wpAny_eqBool_str h
 «strs»:=λk x t v h=>by
  rcases nY h with⟨i,u,rfl,e⟩|⟨y,u,rfl,e⟩
  .exact nomatch e
  .injection e with e1 _;subst e1;cases v<;>rfl
inductive V where
 | aO|bl (b:Bool)|int (i:Int)|str (x:Str)|uv (b:Array UInt8)|sT (b:UInt64)|ref (a:Addr)|ty (n:String)
 deriving DecidableEq
def cE:V->Value->Prop
 | .aO,u=>u=Value.none
 | .bl b,u=>u=Value.bool b
 | .int i,u=>∃ t,u=Value.int i t
 | .str x,u=>∃ t,u=Value.str x t
 | .uv b,u=>∃ t,u=Value.bytes b t
 | .sT b,u=>∃ t,u=Value.float b t
 | .ref a,u=>u=Value.ref a
 | .ty n,u=>u=Value.type n
abbrev bf:List V->List Value->Prop:=Paired cE
theorem bf.length{xs:List V}(r:bf xs us):xs.length=us.length:=Paired.length r
theorem bf.get:∀ {xs:List V} {us:List Value} {i:Nat} {x:V},bf xs us->xs[i]? = some x->∃ u,us[i]? = some u/\cE x u
 | _,_,_,_,.nil,e=>by simp at e
 | _,_,0,_,.cons r _,e=>by simp at e;subst e;exact⟨_,rfl,r⟩
 | _,_,i+1,x,.cons _ t,e=>by obtain⟨u,h1,h2⟩:=bf.get (i:=i) (x:=x) t (by simpa using e);exact⟨u,by simpa using h1,h2⟩
theorem bf.set{x:V}{u:Value}(r:cE x u):∀ {xs:List V} {us:List Value} (i:Nat),bf xs us->bf (xs.set i x) (us.set i u)
 | _,_,_,.nil=>.nil
 | _,_,0,.cons _ t=>.cons r t
 | _,_,i+1,.cons q t=>.cons q (bf.set r i t)
theorem bf.append:∀ {xs ys:List V} {us ws:List Value},bf xs us->bf ys ws->bf (xs++ys) (us++ws)
 | _,_,_,_,.nil,s=>s
 | _,_,_,_,.cons r t,s=>.cons r (bf.append t s)
theorem bf.take:∀ {xs:List V} {us:List Value} (n:Nat),bf xs us->bf (xs.take n) (us.take n)
 | _,_,0,_=>.nil
 | _,_,_+1,.nil=>.nil
 | _,_,n+1,.cons r t=>.cons r (bf.take n t)
theorem bf.drop:∀ {xs:List V} {us:List Value} (n:Nat),bf xs us->bf (xs.drop n) (us.drop n)
 | _,_,0,r=>r
 | _,_,_+1,.nil=>.nil
 | _,_,n+1,.cons _ t=>bf.drop n t
def zw:Option V->Option Value->Prop
 | some v,some u=>cE v u
 | none,none=>True
 | _,_=>False
def KV {κ:Type}:List (κ×V)->List (κ×Value)->Prop:=Paired λ(p:κ×V) (q:κ×Value)=>p.1=q.1/\cE p.2 q.2
def kV:Key->V
 | .inl i=>.int i
 | .inr x=>.str x
inductive HO where
 | lst (xs:List V)
 | tup (xs:List V)
 | dK (cL:List (Key×V))|dT (cL:List (List Key×V))
 | set (S:Int->Bool) (n:Nat)
 | ins (C dx:Addr) (fs:List (Str×V))
 | own (x:Addr)
 | xd (fs:List (Str×V))
 | met (f x:Addr)
 | kY (lo hi:Int)
 | fF (o:Obj) (u:HO)
 | ji (ps:Array Value)
 | ext (φ:Heap->Prop)
abbrev Hp:=Addr->Option HO
def upd (H:Hp)(a:Addr)(o:HO):Hp:=λb=>if b=a then some o else H b
theorem jj{H:Hp}{a:Addr}{o:HO}:upd H a o a=some o:=by unfold upd;rw[Qk rfl]
theorem bR{H:Hp}{a b:Addr}{o:HO}(h:b≠a):upd H a o b=H b:=by unfold upd;rw[Qw h]
theorem kZ{H:Hp}{a b:Addr}{o:HO}(h:H a=some o)(h':H b=none):a≠b:=by intro e;subst e;rw[h]at h';cases h'
def jS (h:Heap)(a:Addr)(items:Array Value):Prop:=∃ o,h.get? a=some o/\o.cls=.type "tuple" /\ (∃ n,o.data=.seq items n)/\o.dict=none
theorem jS.tup{h:Heap}{a:Addr}{items:Array Value}(x:jS h a items):IsTup h a items:=let ⟨o,e,c,n,_⟩:=x;⟨o,e,c,n⟩
theorem jS.new(h:Heap)(items:Array Value):jS (h.push { cls:=.type "tuple",data:=.seq items }) h.objs.size items:=⟨_,Qy _ rfl,rfl,⟨_,rfl⟩,rfl⟩
theorem jS.lt{h:Heap}{a:Addr}{items:Array Value}(x:jS h a items):a<h.objs.size:=let ⟨_,e,_⟩:=x;Qn e
section
variable (P:Program)(w:World)
def d7 (H:Hp)(h:Heap)(a:Addr):HO->Prop
 | .lst xs=>xs.length<=sizeLine/\∃ (ar:List Value) (n:Nat),bf xs ar/\h.get? a=some { cls:=.type "list",data:=.seq ar.toArray n }
 | .tup xs=>xs.length<=sizeLine/\∃ ar:List Value,bf xs ar/\jS h a ar.toArray
 | .dK cL=>cL.length<=sizeLine/\(a==sysModules)=false/\∃ vs,KV cL vs/\h.DictOf (zv P w) a vs
 | .dT cL=>cL.length<=sizeLine/\(a==sysModules)=false/\∃ xs:List (List Key×Addr×Value),
   Paired (λ(p:List Key×V) (q:List Key×Addr×Value)=>p.1=q.1/\H q.2.1=some (.tup (p.1.map kV))/\cE p.2 q.2.2) cL xs /\
   ∃ o es ep,h.get? a=some o/\o.ExactDict/\o.data=.dict es ep/\es.toList=xs.map (entryOfKey (tupleKind (zv P w)))/\(xs.map (·.1)).Nodup
 | .set S n=>h.SetOf (intKind P w) a S n
 | .ins C dx fs=>H dx=some (.own a)/\fs.length<=1000/\dx≠a/\h.get? a=some (W.instObj C dx) /\
   ∃ mA,h.Ns1 dx mA/\(∀ f,zw (fs.lookup f) (mA f))/\PySem.Within mA (fs.map (·.1))
 | .own _=>∃ o,h.get? a=some o
 | .xd fs=>∃ mA,h.Ns1 a mA/\∀ f,zw (fs.lookup f) (mA f)
 | .kY lo hi=>∃ t u v,h.get? a=some { cls:=.type "range",data:=.fields #[.int lo t,.int hi u,.int 1 v] }
 | .fF o u=>h.get? a=some o/\d7 H h a u
 | .ji ps=>h.get? a=some { cls:=.none,data:=.fields ps }
 | .met f x=>h.get? a=some (W.methodObj (.ref f) (.ref x))
 | .ext φ=>φ h/\(∃ o,h.get? a=some o)/\∀ h1 h2:Heap,φ h1->(∀ o,h1.get? a=some o->h2.get? a=some o)->φ h2
def dN (H:Hp)(h:Heap):Prop:=∀ a o,H a=some o->d7 P w H h a o
end
section
variable {P:Program}{w:World}{H H':Hp}{h h':Heap}{a:Addr}{o:HO}
theorem d7.lt(x:d7 P w H h a o):a<h.objs.size:=by
 cases o with
 | lst xs=>obtain⟨_,_,_,_,e⟩:=x;exact Qn e
 | tup xs=>obtain⟨_,_,_,p⟩:=x;exact p.lt
 | dK cL=>obtain⟨_,_,_,_,o,_,_,e,_⟩:=x;exact Qn e
 | dT cL=>obtain⟨_,_,_,_,o,_,_,e,_⟩:=x;exact Qn e
 | set S n=>obtain⟨o,_,_,_,e,_⟩:=x;exact Qn e
 | ins C dx fs=>obtain⟨_,_,_,e,_⟩:=x;exact Qn e
 | own y=>obtain⟨_,e⟩:=x;exact Qn e
 | xd fs=>obtain⟨_,⟨_,_,_,e,_⟩,_⟩:=x;exact Qn e
 | kY lo hi=>obtain⟨_,_,_,e⟩:=x;exact Qn e
 | fF ob u=>obtain⟨e,_⟩:=x;exact Qn e
 | ji ps=>exact Qn (show h.get? a=some _ from x)
 | met f y=>exact Qn (show h.get? a=some _ from x)
 | ext φ=>obtain⟨_,⟨_,e⟩,_⟩:=x;exact Qn e
theorem Paired.uw{α β:Type}{F G:α->β->Prop}:∀ {ux:List α} {uy:List β},Paired F ux uy->(∀ a b,F a b->G a b)->Paired G ux uy
 | _,_,.nil,_=>.nil
 | _,_,.cons r t,f=>.cons (f _ _ r) (Paired.uw t f)
theorem d7.gJ(x:d7 P w H h a o)(k:∀ b u,(b=a\/H b=some (.own a))->h.get? b=some u->h'.get? b=some u)
  (ho:∀ b,H b=some (.own a)->H' b=some (.own a)) (ht:∀ b xs,H b=some (.tup xs)->H' b=some (.tup xs)):d7 P w H' h' a o:=by
 induction o with
 | lst xs=>obtain⟨z,ar,n,r,e⟩:=x;exact⟨z,ar,n,r,k _ _ (.inl rfl) e⟩
 | tup xs=>obtain⟨z,ar,r,ob,e,c⟩:=x;exact⟨z,ar,r,ob,k _ _ (.inl rfl) e,c⟩
 | dK cL=>obtain⟨z,y,vs,r,ob,es,ep,e,c⟩:=x;exact⟨z,y,vs,r,ob,es,ep,k _ _ (.inl rfl) e,c⟩
 | dT cL=>
  obtain⟨z,y,xs,r,ob,es,ep,e,c⟩:=x;exact⟨z,y,xs,Paired.uw r λp q z=>⟨z.1,ht _ _ z.2.1,z.2.2⟩,ob,es,ep,k _ _ (.inl rfl) e,c⟩
 | set S n=>obtain⟨ob,es,ep,t,e,c⟩:=x;exact⟨ob,es,ep,t,k _ _ (.inl rfl) e,c⟩
 | ins C dx fs=>
  obtain⟨d,z,ne,e,mA,⟨od,es,ep,e2,c⟩,r⟩:=x;exact⟨ho _ d,z,ne,k _ _ (.inl rfl) e,mA,⟨od,es,ep,k _ _ (.inr d) e2,c⟩,r⟩
 | own y=>obtain⟨ob,e⟩:=x;exact⟨ob,k _ _ (.inl rfl) e⟩
 | xd fs=>obtain⟨mA,⟨od,es,ep,e,c⟩,r⟩:=x;exact⟨mA,⟨od,es,ep,k _ _ (.inl rfl) e,c⟩,r⟩
 | kY lo hi=>obtain⟨t,u,v,e⟩:=x;exact⟨t,u,v,k _ _ (.inl rfl) e⟩
 | fF ob u ih=>obtain⟨e,q⟩:=x;exact⟨k _ _ (.inl rfl) e,ih q⟩
 | ji ps=>
  have e:h.get? a=some { cls:=.none,data:=.fields ps }:=x;show h'.get? a=some { cls:=.none,data:=.fields ps };exact k a _ (.inl rfl) e
 | met f y=>
  have e:h.get? a=some (W.methodObj (.ref f) (.ref y)):=x;show h'.get? a=some (W.methodObj (.ref f) (.ref y));exact k a _ (.inl rfl) e
 | ext φ=>obtain⟨p,⟨o,e⟩,st⟩:=x;exact⟨st _ _ p λo q=>k _ _ (.inl rfl) q,⟨o,k _ _ (.inl rfl) e⟩,st⟩
theorem dN.lt(x:dN P w H h)(e:H a=some o):a<h.objs.size:=(x a o e).lt
theorem dN.fresh(x:dN P w H h)(e:h.objs.size<=a):H a=none:=by
 cases q:H a with
 | none=>rfl
 | some u=>exact absurd (Qo (x.lt q) e) (Qx _)
theorem dN.kept(x:dN P w H h)(k:∀ b u,h.get? b=some u->h'.get? b=some u):dN P w H h':=λa o e=>
 (x a o e).gJ (λb u _ q=>k b u q) (λ_ q=>q) λ_ _ q=>q
theorem dN.laid(x:dN P w H h)(k:∀ b u,h.get? b=some u->h'.get? b=some u)(hp:h.objs.size<=a)(new:d7 P w (upd H a o) h' a o):dN P w (upd H a o) h':=λb u e=>by
 have hn:=x.fresh hp;by_cases hb:b=a
 .subst hb;rw[jj]at e;cases e;exact new
 .rw[bR hb]at e;exact(x b u e).gJ (λc v _ q=>k c v q) (λc q=>by rw[bR (kZ q hn)];exact q) λc xs q=>by rw[bR (kZ q hn)];exact q
end
def Rd (H:Hp)(a:Addr)(u:HO):Prop:=H a=some u\/∃ o,H a=some (.fF o u)
theorem Rd.of{H:Hp}{a:Addr}{u:HO}(h:H a=some u):Rd H a u:=.inl h
theorem Rd.ok{P:Program}{w:World}{H:Hp}{h:Heap}{a:Addr}{u:HO}(r:Rd H a u)(x:dN P w H h):d7 P w H h a u:=by
 rcases r with r|⟨o,r⟩
 .exact x a u r
 .obtain⟨_,q⟩:=x a _ r;exact q
def xm:Option HO->Prop
 | some (.lst _)=>True
 | some (.dK _)=>True
 | some (.dT _)=>True
 | some (.set _ _)=>True
 | some (.ins _ _ _)=>True
 | some (.ext _)=>True
 | _=>False
section
variable {P:Program}{w:World}{H:Hp}{h h':Heap}{x e:Addr}{o':HO}
theorem dN.write(ok:dN P w H h)(mu:xm (H x))(he:e=x\/H e=some (.own x))(k:∀ b u,b≠e->h.get? b=some u->h'.get? b=some u)(sU:∃ u,h'.get? e=some u)
  (new:d7 P w (upd H x o') h' x o'):dN P w (upd H x o') h':=λb u q=>by
 have uz:∀ c y,H c=some (.own y)->c≠x:=λc y r z=>by subst z;rw[r]at mu;exact mu
 have zx:∀ c xs,H c=some (.tup xs)->c≠x:=λc xs r z=>by subst z;rw[r]at mu;exact mu
 by_cases hb:b=x
 .subst hb;rw[jj]at q;cases q;exact new
 .rw[bR hb]at q;by_cases qG:b=e
  .have q':H b=some (.own x):=by
    rcases he with z|z
    .exact absurd (qG.trans z) hb
    .rw[qG];exact z
   rw[q]at q';cases q';obtain⟨v,hv⟩:=sU;exact⟨v,by rw[qG];exact hv⟩
  .refine(ok b u q).gJ (λc v hc r=>k c v ?_ r) (λc r=>by rw[bR (uz c b r)];exact r) λc xs r=>by rw[bR (zx c xs r)];exact r
   rcases hc with rfl|hc
   .exact qG
   .rintro rfl;rcases he with z|z
    .exact uz c b hc z
    .rw[hc]at z;cases z;exact hb rfl
end
structure Un (fs ex:List Addr) (H H':Hp) (h h':Heap):Prop where
 keep:∀ b o,h.get? b=some o->H b=none->b ∉ fs->b ∉ ex->h'.get? b=some o
 slot:∀ b o,h.get? b=some o->H b=none->b∈fs->b ∉ ex->∃ sl,h'.get? b=some { o with slots:=sl }
 free:∀ b o,h.get? b=some o->H b=none->b ∉ ex->H' b=none
 there:∀ b o,h.get? b=some o->b ∉ ex->∃ o',h'.get? b=some o'
 cZ:∀ b xs,H b=some (.tup xs)->H' b=some (.tup xs)
 cU:∀ b o u,H b=some (.fF o u)->H' b=some (.fF o u)
 c_:∀ b ps,H b=some (.ji ps)->∃ more,H' b=some (.ji (ps++more))
section
variable {fs I_ ex Xf:List Addr}{H H1 H2:Hp}{h h1 h2 h':Heap}{a x e:Addr}{o:HO}
theorem Un.any(u:Un fs ex H H1 h h1){b:Addr}{ob:Obj}(q:h.get? b=some ob)(n:H b=none)(hx:b ∉ ex):∃ sl,h1.get? b=some { ob with slots:=sl }:=by
 by_cases hb:b∈fs
 .exact u.slot b ob q n hb hx
 .exact⟨ob.slots,u.keep b ob q n hb hx⟩
theorem Un.trans(a:Un fs ex H H1 h h1)(b:Un fs ex H1 H2 h1 h2):Un fs ex H H2 h h2 where
 keep:=λc ob q n hc hx=>b.keep c ob (a.keep c ob q n hc hx) (a.free c ob q n hx) hc hx
 slot:=λc ob q n hc hx=>by obtain⟨sl,e1⟩:=a.slot c ob q n hc hx;obtain⟨jT,e2⟩:=b.slot c _ e1 (a.free c ob q n hx) hc hx;exact⟨jT,e2⟩
 free:=λc ob q n hx=>by obtain⟨o',e1⟩:=a.there c ob q hx;exact b.free c o' e1 (a.free c ob q n hx) hx
 there:=λc ob q hx=>by obtain⟨o',e1⟩:=a.there c ob q hx;exact b.there c o' e1 hx
 cZ:=λc xs q=>b.cZ c xs (a.cZ c xs q)
 cU:=λc ob xs q=>b.cU c ob xs (a.cU c ob xs q)
 c_:=λc ps q=>by obtain⟨m1,e1⟩:=a.c_ c ps q;obtain⟨m2,e2⟩:=b.c_ c _ e1;exact⟨m1++m2,by rw[e2,JN]⟩
theorem Un.kept(k:∀ b u,h.get? b=some u->h'.get? b=some u):Un fs ex H H h h':=
 ⟨λb ob q _ _ _=>k b ob q,λb ob q _ _ _=>⟨ob.slots,k b ob q⟩,λ_ _ _ n _=>n,λb ob q _=>⟨ob,k b ob q⟩,λ_ _ q=>q,λ_ _ _ q=>q,λ_ ps q=>⟨#[],by rw[q];simp⟩⟩
theorem Un.refl:Un fs ex H H h h:=Un.kept λ_ _ q=>q
theorem Un.laid(k:∀ b u,h.get? b=some u->h'.get? b=some u)(hp:h.objs.size<=a)(hn:H a=none):Un fs ex H (upd H a o) h h' where
 keep:=λb u q _ _ _=>k b u q
 slot:=λb u q _ _ _=>⟨u.slots,k b u q⟩
 free:=λb u q n _=>by rw[bR (QS (Qo (Qn q) hp))];exact n
 there:=λb u q _=>⟨u,k b u q⟩
 cZ:=λb xs q=>by rw[bR (kZ q hn)];exact q
 cU:=λb u xs q=>by rw[bR (kZ q hn)];exact q
 c_:=λb ps q=>⟨#[],by rw[bR (kZ q hn),q];simp⟩
theorem Un.write(mu:xm (H x))(he:e=x\/H e=some (.own x))(k:∀ b u,b≠e->h.get? b=some u->h'.get? b=some u)(sU:∃ u,h'.get? e=some u):Un fs ex H (upd H x o) h h':=by
 have hx:∀ b,H b=none->b≠x:=λb n z=>by subst z;rw[n]at mu;exact mu
 have hb:∀ b,H b=none->b≠e:=λb n z=>by
  subst z;rcases he with r|r
  .exact hx b n r
  .rw[n]at r;cases r
 have hm:∀ b u,H b=some u->¬ xm (some u)->b≠x:=λb u q nm z=>by subst z;rw[q]at mu;exact nm mu
 refine⟨λb u q n _ _=>k b u (hb b n) q,λb u q n _ _=>⟨u.slots,k b u (hb b n) q⟩,λb u q n _=>by rw[bR (hx b n)];exact n,λb u q _=>?_,
  λb xs q=>by rw[bR (hm b _ q λz=>z)];exact q,λb u xs q=>by rw[bR (hm b _ q λz=>z)];exact q,λb ps q=>⟨#[],by rw[bR (hm b _ q λz=>z),q];simp⟩⟩
 by_cases qG:b=e
 .subst qG;exact sU
 .exact⟨u,k b u qG q⟩
end
def jw (h:Heap)(H:Hp):List Addr:=(range h.objs.size).filter λa=>(H a).isSome
def nZ (h:Heap)(H:Hp):Heap:=W.hideAll h (jw h H)
theorem J_(h:Heap)(H:Hp):(nZ h H).objs.size=h.objs.size:=W.hideAll_size _ _
theorem Ka{h:Heap}{H:Hp}{b:Addr}{o:Obj}(e:h.get? b=some o)(n:H b=none):(nZ h H).get? b=some o:=
 W.hideAll_get _ e λhm=>by have q:(H b).isSome=true:=(List.mem_filter.mp hm).2;rw[n]at q;simp at q
theorem Kb{h:Heap}{H:Hp}{b:Addr}{o:Obj}(e:(nZ h H).get? b=some o):h.get? b=some o/\H b=none:=by
 have e':h.get? b=some o:=W.of_hideAll (jw h H) e;refine⟨e',?_⟩;cases q:H b with
 | none=>rfl
 | some x=>
  have hm:b∈jw h H:=List.mem_filter.mpr ⟨QN.mpr (Qn e'),by simp[q]⟩;have z:(nZ h H).get? b=none:=W.hideAll_none (jw h H) hm;rw[z]at e;cases e
def Kc (g h:Heap)(L:Addr):List (Addr×Obj):=(range h.objs.size).filterMap λa=>if a=L\/(g.get? a).isSome=true then none else(h.get? a).map λo=>(a,o)
def cb (g h:Heap)(L d:Addr):List (Addr×Obj):=(Kc g h L).filter λp=>decide (p.1≠d)
structure Mod (K:PySem.W.Frag) (mg:Str->Option Value) (base:Heap):Prop where
 sV:K.In base
 glob:base.Ns mainGlobals mg
 blt:∃ mb,base.Ns builtinsNs mb/\∀ x:Str,x ≠ "__name__"->mb x=bootBuiltins x
 nolimit:base.NoLimit
structure Cx where
 prog:Program
 w:World
 K:PySem.W.Frag
 mg:Str->Option Value
 base:Heap
 A:Around
 N:List Str
 ai:Shared
 aD:Hp
 env:Env
 outer:List Env
 stack:List Env
 ex:List Addr
 fn:Str->Bool
 calm:Bool
 pn:List (Addr×Obj)
 xe:Y0
def bJ (l:List Env):List Addr:=l.filterMap (·.frame)
abbrev Cx.fs (X:Cx):List Addr:=bJ X.outer
def sW (sc:Scope)(x:Str):Prop:=sc.names.lookup x=some .local\/sc.names.lookup x=some .cell\/sc.names.lookup x=some .free
def Loc (sc:Scope)(x:Str):Prop:=sc.names.lookup x=some .local\/sc.names.lookup x=some .cell
def Kd (env:Env)(h:Heap)(m:Str->Option Value)(x:Str)(u:Value):Prop:=
 (env.kindOf x=some .local/\m x=some u)\/((env.kindOf x=some .cell\/env.kindOf x=some .free)/\∃ c,env.cells.lookup x=some c/\h.IsCell c (some u))
structure Cx.Ok (X:Cx):Prop where
 mod:Mod X.K X.mg X.base
 kind:X.env.scope.kind=.function
 glob:X.env.globals=mainGlobals
 blt:X.env.builtins=builtinsNs
 above:X.ai.heap.objs.size<=X.env.locals
 inj:∀ x y c,X.env.cells.lookup x=some c->X.env.cells.lookup y=some c->x=y
 has:∀ x,(X.env.kindOf x=some .cell\/X.env.kindOf x=some .free)->∃ c,X.env.cells.lookup x=some c
 sX:∀ x c,X.fn x=true->X.env.cells.lookup x=some c->X.ai.heap.objs.size<=c
 hd:X.calm=true->X.A.handled=none
 frames:X.A.frames=some X.stack
 uA:X.stack=X.outer\/(X.stack=X.env::X.outer/\X.env.frame=some X.env.locals)
 uB:∀ b∈X.ex,b≠X.env.locals/\∀ x c,X.env.cells.lookup x=some c->c≠b
 bs:∀ b o,X.base.get? b=some o->X.ai.heap.get? b=some o/\X.aD b=none
 lH:X.base.objs.size<=X.ai.heap.objs.size
 kz:∀ b o,X.base.get? b=some o->b ∉ X.ex
 jx:∀ b∈X.ex,b ∉ X.fs
 eU:X.ai.heap.FunFrames X.base X.outer
 pC:∀ b∈X.fs,X.aD b=none
structure Inv (X:Cx) (Z_:List (Addr×Obj)) (σ:List (Option V)) (H:Hp) (s:Shared):Prop where
 ok:X.Ok
 os:s.os=X.ai.os
 bare:AllBare s.gens
 base:Un X.fs X.ex X.aD H X.ai.heap s.heap
 loc:∃ m,s.heap.Ns X.env.locals m/\∀ (i:Nat) (x:Str) (v:V),X.N[i]? = some x->σ[i]? = some (some v)->sW X.env.scope x->∃ u,cE v u/\Kd X.env s.heap m x u
 cell:∀ x c,X.env.cells.lookup x=some c->∃ v,s.heap.IsCell c v
 free:H X.env.locals=none
 cQ:∀ x c,X.env.cells.lookup x=some c->H c=none
 pin:∀ p∈X.pn++Z_,s.heap.get? p.1=some p.2/\H p.1=none/\p.1≠X.env.locals/\p.1 ∉ X.fs/\∀ v,p.2.data ≠ .cell v
 aK:dN X.prog X.w H s.heap
 len:σ.length=X.N.length
section
variable {X:Cx}{Z_:List (Addr×Obj)}{σ:List (Option V)}{H H':Hp}{s:Shared}{h':Heap}
theorem Cx.Ok.zy(ok:X.Ok){b:Addr}{o:Obj}(e:X.base.get? b=some o):b ∉ X.fs:=λhb=>by have:=(ok.eU.mem hb).1;rw[e]at this;cases this
theorem Inv.bs(I:Inv X Z_ σ H s):∀ b o,X.base.get? b=some o->s.heap.get? b=some o/\H b=none:=λb o e=>
 ⟨I.base.keep b o (I.ok.bs b o e).1 (I.ok.bs b o e).2 (I.ok.zy e) (I.ok.kz b o e),I.base.free b o (I.ok.bs b o e).1 (I.ok.bs b o e).2 (I.ok.kz b o e)⟩
theorem Inv.bk(I:Inv X Z_ σ H s):∀ b o,X.base.get? b=some o->s.heap.get? b=some o:=λb o e=>(I.bs b o e).1
theorem Inv.mod(I:Inv X Z_ σ H s):Mod X.K X.mg X.base:=I.ok.mod
theorem Inv.fu(I:Inv X Z_ σ H s):X.K.In s.heap:=I.ok.mod.sV.keeps I.bk
theorem Inv.fr(I:Inv X Z_ σ H s):∃ m,Fr X.base X.env.locals s.heap m:=
 let ⟨m,hn,_⟩:=I.loc
 ⟨m,hn,I.bk,Qq I.ok.lH I.ok.above⟩
theorem Inv.lt(I:Inv X Z_ σ H s):X.env.locals<s.heap.objs.size:=let ⟨_,hn,_⟩:=I.loc;hn.lt
theorem Inv.sz(I:Inv X Z_ σ H s):X.ai.heap.objs.size<=s.heap.objs.size:=Qq I.ok.above (ZG I.lt)
theorem Inv.uC(I:Inv X Z_ σ H s){a:Addr}(h:s.heap.objs.size<=a):a ∉ X.fs:=λhb=>by obtain⟨_,o,ho,_⟩:=I.ok.eU.mem hb;exact absurd (Qo (Qn ho) (Qq I.sz h)) (Qx _)
theorem Inv.lI(I:Inv X Z_ σ H s):∀ x c,X.env.cells.lookup x=some c->c≠X.env.locals:=λx c e z=>by obtain⟨v,o,ho,hd⟩:=I.cell x c e;obtain⟨m,⟨o',es,ep,gK,nh,_⟩,_⟩:=I.loc;rw[z,gK]at ho;cases ho;rw[nh]at hd;cases hd
theorem Inv.eU(I:Inv X Z_ σ H s):s.heap.FunFrames X.base X.outer:=by
 have all:∀ (l:List Env),(∀ b∈bJ l,b∈X.fs)->X.ai.heap.FunFrames X.base l->s.heap.FunFrames X.base l:=by
  intro l;induction l with
  | nil=>intro _ _;trivial
  | cons env r ih=>
   intro hs hl;obtain⟨hk,⟨L,o,hf,hn,ho,hd⟩,hr⟩:=hl;have hL:L∈X.fs:=hs L (by unfold bJ;rw[Ja,hf];exact Qd);obtain⟨sl,e⟩:=I.base.slot L o ho (I.ok.pC L hL) hL λz=>I.ok.jx L z hL;exact⟨hk,⟨L,_,hf,hn,e,hd⟩,ih (λb hb=>hs b (by unfold bJ;rw[Ja,hf];exact Qc _ hb)) hr⟩
 exact all X.outer (λ_ hb=>hb) I.ok.eU
theorem Inv.stack(I:Inv X Z_ σ H s):s.heap.FunFrames X.base X.stack:=by
 rcases I.ok.uA with e|⟨e,hf⟩
 .rw[e];exact I.eU
 .rw[e];obtain⟨m,hn,_⟩:=I.loc;refine .cons (by rw[I.ok.kind];decide) hf hn ?_ I.eU;exact Heap.get?_none_of_le (Qq I.ok.lH I.ok.above)
theorem Inv.ib(I:Inv X Z_ σ H s):∀ b∈bJ X.stack,b∈X.env.locals::X.fs:=λb hb=>by
 rcases I.ok.uA with e|⟨e,hf⟩
 .rw[e]at hb;exact Qc _ hb
 .rw[e]at hb;unfold bJ at hb;rw[Ja,hf]at hb;exact hb
theorem Inv.eV(I:Inv X Z_ σ H s):∀ b∈bJ X.stack,H b=none:=λb hb=>by
 rcases Qp.mp (I.ib b hb)with e|hb
 .rw[e];exact I.free
 .obtain⟨_,o,ho,_⟩:=I.ok.eU.mem hb;exact I.base.free b o ho (I.ok.pC b hb) λz=>I.ok.jx b z hb
theorem Inv.step{g':Array GenState}{t':Nat}{d':Drawn}{ch:List Addr}(I:Inv X Z_ σ H s)
  (ni:∀ b∈ch,(b∈X.ex\/X.ai.heap.objs.size<=b)/\b≠X.env.locals/\(∀ x c,X.env.cells.lookup x=some c->c≠b)/\∀ p∈X.pn++Z_,p.1≠b)
  (keep:∀ b o,b≠X.env.locals->b ∉ X.fs->b ∉ ch->s.heap.get? b=some o->H b=none->h'.get? b=some o)
  (slot:∀ b o,b≠X.env.locals->b∈X.fs->b ∉ ch->s.heap.get? b=some o->H b=none->∃ sl,h'.get? b=some { o with slots:=sl }) (free:∀ b o,b ∉ ch->s.heap.get? b=some o->H b=none->H' b=none)
  (there:∀ b o,b ∉ ch->s.heap.get? b=some o->∃ o',h'.get? b=some o')
  (cZ:∀ b xs,H b=some (.tup xs)->H' b=some (.tup xs)) (cU:∀ b o u,H b=some (.fF o u)->H' b=some (.fF o u)) (c_:∀ b ps,H b=some (.ji ps)->∃ more,H' b=some (.ji (ps++more)))
  (ns:∀ m,s.heap.Ns X.env.locals m->h'.Ns X.env.locals m) (aK:dN X.prog X.w H' h') (hg:AllBare g') :
  Inv X Z_ σ H' { s with heap:=h',gens:=g',drawn:=d',toks:=t' }:=by
 have Dl:∀ b o,X.ai.heap.get? b=some o->b≠X.env.locals:=λb o e=>QS (Qo (Qn e) I.ok.above);have qH:∀ b o,X.ai.heap.get? b=some o->b ∉ X.ex->b ∉ ch:=λb o e hx hb=>by
  rcases(ni b hb).1 with z|z
  .exact hx z
  .exact absurd (Qo (Qn e) z) (Qx _)
 have cellK:∀ x c,X.env.cells.lookup x=some c->∀ v,s.heap.IsCell c v->h'.IsCell c v:=λx c e v ak=>by
  obtain⟨o,ho,hd⟩:=ak;have uD:c ∉ ch:=λz=>(ni c z).2.2.1 x c e rfl;by_cases hc:c∈X.fs
  .obtain⟨sl,q⟩:=slot c o (I.lI x c e) hc uD ho (I.cQ x c e);exact⟨_,q,hd⟩
  .exact⟨o,keep c o (I.lI x c e) hc uD ho (I.cQ x c e),hd⟩
 refine⟨I.ok,I.os,hg,⟨λb o e n hb hx=>?_,λb o e n hb hx=>?_,λb o e n hx=>?_,λb o e hx=>?_,λb xs e=>cZ b xs (I.base.cZ b xs e),λb o xs e=>cU b o xs (I.base.cU b o xs e),λb ps e=>?_⟩,?_,λx c e=>?_,?_,λx c e=>?_,λp hp=>?_,aK,I.len⟩
 .exact keep b o (Dl b o e) hb (qH b o e hx) (I.base.keep b o e n hb hx) (I.base.free b o e n hx)
 .obtain⟨sl,e1⟩:=I.base.slot b o e n hb hx;obtain⟨jT,e2⟩:=slot b _ (Dl b o e) hb (qH b o e hx) e1 (I.base.free b o e n hx);exact⟨jT,e2⟩
 .obtain⟨o',e1⟩:=I.base.there b o e hx;exact free b o' (qH b o e hx) e1 (I.base.free b o e n hx)
 .obtain⟨o',e1⟩:=I.base.there b o e hx;exact there b o' (qH b o e hx) e1
 .obtain⟨m1,e1⟩:=I.base.c_ b ps e;obtain⟨m2,e2⟩:=c_ b _ e1;exact⟨m1++m2,by rw[e2,JN]⟩
 .obtain⟨m,hn,hl⟩:=I.loc;refine⟨m,ns m hn,λi x v e1 e2 e3=>?_⟩;obtain⟨u,r,l⟩:=hl i x v e1 e2 e3;refine⟨u,r,?_⟩;rcases l with l|⟨k,c,e,z⟩
  .exact .inl l
  .exact .inr ⟨k,c,e,cellK x c e _ z⟩
 .obtain⟨v,z⟩:=I.cell x c e;exact⟨v,cellK x c e v z⟩
 .obtain⟨m,⟨o,_,_,ho,_⟩,_⟩:=I.loc;exact free _ o (λz=>(ni _ z).2.1 rfl) ho I.free
 .obtain⟨v,o,ho,hd⟩:=I.cell x c e;exact free c o (λz=>(ni c z).2.2.1 x c e rfl) ho (I.cQ x c e)
 .obtain⟨e,n,ne,nf,d⟩:=I.pin p hp;have uD:p.1 ∉ ch:=λz=>(ni p.1 z).2.2.2 p hp rfl;exact⟨keep p.1 p.2 ne nf uD e n,free p.1 p.2 uD e n,ne,nf,d⟩
theorem Inv.un{t':Nat}(I:Inv X Z_ σ H s)(u:Un X.fs [] H H' s.heap h')(aK:dN X.prog X.w H' h'):Inv X Z_ σ H' { s with heap:=h',toks:=t' }:=by
 obtain⟨m,⟨o,es,ep,ho,r⟩,_⟩:=id I.loc;obtain⟨sl,hL⟩:=u.any ho I.free (by simp);exact I.step (g':=s.gens) (d':=s.drawn) (ch:=[]) (λ_ z=>nomatch z) (λb o _ hb _ e n=>u.keep b o e n hb (by simp)) (λb o _ hb _ e n=>u.slot b o e n hb (by simp)) (λb o _ e n=>u.free b o e n (by simp)) (λb o _ e=>u.there b o e (by simp)) u.cZ u.cU u.c_ (λm' hm=>by obtain⟨o',uE,zz,gK,r'⟩:=hm;rw[ho]at gK;cases gK;exact⟨_,uE,zz,hL,r'⟩) aK I.bare
theorem Inv.call{g':Array GenState}{t':Nat}{d':Drawn}{ch:List Addr}(I:Inv X Z_ σ H s)(u:Un (bJ X.stack) ch H H' s.heap h')(aK:dN X.prog X.w H' h')(hg:AllBare g')
  (ni:∀ b∈ch,(b∈X.ex\/X.ai.heap.objs.size<=b)/\b≠X.env.locals/\(∀ x c,X.env.cells.lookup x=some c->c≠b)/\∀ p∈X.pn++Z_,p.1≠b) :
  Inv X Z_ σ H' { s with heap:=h',gens:=g',drawn:=d',toks:=t' }:=by
 obtain⟨m,⟨o,es,ep,ho,r⟩,_⟩:=id I.loc;obtain⟨sl,hL⟩:=u.any ho I.free λz=>(ni _ z).2.1 rfl;exact I.step (ch:=ch) ni (λb o hL hb hc e n=>u.keep b o e n (λz=>(Qp.mp (I.ib b z)).elim hL hb) hc) (λb o _ _ hc e n=>u.any e n hc) (λb o hc e n=>u.free b o e n hc) (λb o hc e=>u.there b o e hc) u.cZ u.cU u.c_ (λm' hm=>by obtain⟨o',uE,zz,gK,r'⟩:=hm;rw[ho]at gK;cases gK;exact⟨_,uE,zz,hL,r'⟩) aK hg
theorem Inv.turned{t':Nat}(I:Inv X Z_ σ H s)(k:∀ b o,b≠it->s.heap.get? b=some o->h'.get? b=some o)(hn:H it=none)(hL:it≠X.env.locals)
  (h1:it∈X.ex\/X.ai.heap.objs.size<=it) (h2:∀ x c,X.env.cells.lookup x=some c->c≠it) (h3:∀ p∈X.pn++Z_,p.1≠it):Inv X Z_ σ H { s with heap:=h',toks:=t' }:=by
 have uF:∀ b u,H b=some u->b≠it:=λb u e z=>by rw[z,hn]at e;cases e
 refine I.step (g':=s.gens) (d':=s.drawn) (ch:=[it]) (λb hb=>?_) (λb o _ _ hc e _=>k b o (λz=>hc (by simp[z])) e) (λb o _ _ hc e _=>⟨o.slots,k b o (λz=>hc (by simp[z])) e⟩) (λ_ _ _ _ n=>n)
  (λb o hc e=>⟨o,k b o (λz=>hc (by simp[z])) e⟩) (λ_ _ e=>e) (λ_ _ _ e=>e) (λb ps e=>⟨#[],by rw[e];simp⟩) (λm hm=>?_) (λb u e=>?_) I.bare
 .have e:b=it:=by simpa using hb
  subst e;exact⟨h1,hL,h2,h3⟩
 .obtain⟨o,es,ep,ho,r⟩:=hm;exact⟨o,es,ep,k _ o (ZM hL) ho,r⟩
 .refine(I.aK b u e).gJ (λc v hc q=>k c v ?_ q) (λ_ q=>q) λ_ _ q=>q;rcases hc with z|z
  .rw[z];exact uF b u e
  .exact uF c _ z
theorem Inv.tok(I:Inv X Z_ σ H s)(t:Nat):Inv X Z_ σ H { s with toks:=t }:=I.un (h':=s.heap) (t':=t) Un.refl I.aK
theorem Inv.kept{t':Nat}(I:Inv X Z_ σ H s)(k:∀ b u,s.heap.get? b=some u->h'.get? b=some u):Inv X Z_ σ H { s with heap:=h',toks:=t' }:=I.un (Un.kept k) (I.aK.kept k)
theorem Inv.laid{a:Addr}{o:HO}{t':Nat}(I:Inv X Z_ σ H s)(k:∀ b u,s.heap.get? b=some u->h'.get? b=some u)(hp:s.heap.objs.size<=a)(new:d7 X.prog X.w (upd H a o) h' a o) :
  Inv X Z_ σ (upd H a o) { s with heap:=h',toks:=t' }:=I.un (Un.laid k hp (I.aK.fresh hp)) (I.aK.laid k hp new)
theorem Inv.write{x e:Addr}{o:HO}{t':Nat}(I:Inv X Z_ σ H s)(mu:xm (H x))(he:e=x\/H e=some (.own x))(k:∀ b u,b≠e->s.heap.get? b=some u->h'.get? b=some u)(sU:∃ u,h'.get? e=some u)
  (new:d7 X.prog X.w (upd H x o) h' x o):Inv X Z_ σ (upd H x o) { s with heap:=h',toks:=t' }:=I.un (Un.write mu he k sU) (I.aK.write mu he k sU new)
theorem Inv.weak{aP:List (Option V)}(I:Inv X Z_ σ H s)(hl:aP.length=σ.length)(w:∀ (i:Nat) v,aP[i]? = some (some v)->σ[i]? = some (some v)):Inv X Z_ aP H s:=
 ⟨I.ok,I.os,I.bare,I.base,let ⟨m,hn,uG⟩:=I.loc;⟨m,hn,λi x v e1 e2 e3=>uG i x v e1 (w i v e2) e3⟩,I.cell,I.free,I.cQ,I.pin,I.aK,hl.trans I.len⟩
theorem Inv.dW{pins':List (Addr×Obj)}(I:Inv X Z_ σ H s)(h:∀ p∈pins',s.heap.get? p.1=some p.2/\H p.1=none/\p.1≠X.env.locals/\p.1 ∉ X.fs/\∀ v,p.2.data ≠ .cell v):Inv X pins' σ H s:=
 ⟨I.ok,I.os,I.bare,I.base,I.loc,I.cell,I.free,I.cQ,λp hp=>(QL.mp hp).elim (λz=>I.pin p (QW _ z)) (h p),I.aK,I.len⟩
theorem zA(hN:N.Nodup){x:Str}(a:N[i]? = some x)(b:N[j]? = some x):i=j:=by obtain⟨h1,e1⟩:=Qs.mp a;obtain⟨h2,e2⟩:=Qs.mp b;exact(List.getElem_inj hN).mp (e1.trans e2.symm)
theorem Dm{M:Model}{A:Around}{E:Y0}{x:Str}{v:V}{u:Value}{Q:Unit->Shared->Prop}(I:Inv X Z_ σ H s)(hN:X.N.Nodup)(hi:X.N[i]? = some x)(hx:Loc X.env.scope x)(r:cE v u)
  (h:∀ s',Inv X Z_ (σ.set i (some v)) H s'->(∃ a,Heap.SameBut a s.heap s'.heap/\(a=X.env.locals\/X.env.cells.lookup x=some a))->Q () s') (hf:X.fn x=true\/X.env.scope.names.lookup x=some .local:=by first|exact .inl rfl|exact .inr rfl|assumption):wpAny M A (storeName X.env x u) Q E s:=by
 obtain⟨m,hn,hl⟩:=id I.loc;have ic:(X.env.scope.kind == .class||(X.env.scope.kind == .module&&X.env.locals != X.env.globals))=false:=by rw[I.ok.kind];rfl
 have kA:i<σ.length:=by rw[I.len];exact(Qs.mp hi).1
 have lI:=I.lI;have tracked:∀ {a:Addr} {h':Heap},(∃ o,s.heap.get? a=some o/\H a=none)->Heap.SameBut a s.heap h'->dN X.prog X.w H h':=λ{a h'} ha hs b ob e=>by
  obtain⟨_,_,pD⟩:=ha;refine(I.aK b ob e).gJ (λc w' hc q=>(hs.2 c ?_).trans q) (λ_ q=>q) λ_ _ q=>q;rintro rfl;rcases hc with rfl|hc
  .rw[pD]at e;cases e
  .rw[pD]at hc;cases hc
 rcases hx with hk|hk
 .refine wpAny_storeName_local hk hn (λh' lJ hs=>?_) ic;obtain⟨oL,_,_,Dp,_⟩:=id hn;refine h _ ⟨I.ok,I.os,I.bare,⟨λb o e n hb hx=>?_,λb o e n hb hx=>?_,I.base.free,λb o e hx=>?_,I.base.cZ,I.base.cU,I.base.c_⟩,⟨_,lJ,λj y v' e1 e2 e3=>?_⟩,λy c e=>?_,I.free,I.cQ,λp hp=>?_,tracked ⟨oL,Dp,I.free⟩ hs,by simpa using I.len⟩ ⟨_,hs,.inl rfl⟩
  .exact(hs.2 b (QS (Qo (Qn e) I.ok.above))).trans (I.base.keep b o e n hb hx)
  .obtain⟨sl,e1⟩:=I.base.slot b o e n hb hx;exact⟨sl,(hs.2 b (QS (Qo (Qn e) I.ok.above))).trans e1⟩
  .obtain⟨o',e1⟩:=I.base.there b o e hx;exact⟨o',(hs.2 b (QS (Qo (Qn e) I.ok.above))).trans e1⟩
  .by_cases hj:j=i
   .subst hj;rw[hi]at e1;cases e1;rw[QB kA]at e2;cases e2;exact⟨u,r,.inl ⟨hk,by simp⟩⟩
   .rw[QF (ZM hj)]at e2;obtain⟨u',r',q⟩:=hl j y v' e1 e2 e3;refine⟨u',r',?_⟩;rcases q with⟨k,e⟩|⟨k,c,e,z⟩
    .refine .inl ⟨k,?_⟩;have:y≠x:=λe=>hj (zA hN e1 (e ▸ hi));simp[this,e]
    .exact .inr ⟨k,c,e,z.sameBut hs (lI y c e)⟩
  .obtain⟨w',z⟩:=I.cell y c e;exact⟨w',z.sameBut hs (lI y c e)⟩
  .obtain⟨e,n,ne,nf,d⟩:=I.pin p hp;exact⟨(hs.2 p.1 ne).trans e,n,ne,nf,d⟩
 .have zB:X.fn x=true:=by
   rcases hf with z|z
   .exact z
   .rw[z]at hk;cases hk
  obtain⟨c,hc⟩:=I.ok.has x (.inl hk);obtain⟨w',z⟩:=I.cell x c hc;refine wpAny_storeName_cell I.ok.kind hk hc z (λh' kB hs=>?_);obtain⟨oc,xn,zC⟩:=id z;refine h { s with heap:=h' } ⟨I.ok,I.os,I.bare,⟨λb o e n hb hx=>?_,λb o e n hb hx=>?_,I.base.free,λb o e hx=>?_,I.base.cZ,I.base.cU,I.base.c_⟩,⟨m,hn.sameBut hs (ZM (lI x c hc)),λj y v' e1 e2 e3=>?_⟩,λy c' e=>?_,I.free,I.cQ,λp hp=>?_,tracked ⟨oc,xn,I.cQ x c hc⟩ hs,by simpa using I.len⟩ ⟨c,hs,.inr hc⟩
  .exact(hs.2 b (QS (Qo (Qn e) (I.ok.sX x c zB hc)))).trans (I.base.keep b o e n hb hx)
  .obtain⟨sl,e1⟩:=I.base.slot b o e n hb hx;exact⟨sl,(hs.2 b (QS (Qo (Qn e) (I.ok.sX x c zB hc)))).trans e1⟩
  .obtain⟨o',e1⟩:=I.base.there b o e hx;exact⟨o',(hs.2 b (QS (Qo (Qn e) (I.ok.sX x c zB hc)))).trans e1⟩
  .by_cases hj:j=i
   .subst hj;rw[hi]at e1;cases e1;rw[QB kA]at e2;cases e2;exact⟨u,r,.inr ⟨.inl hk,c,hc,kB⟩⟩
   .rw[QF (ZM hj)]at e2;obtain⟨u',r',q⟩:=hl j y v' e1 e2 e3;refine⟨u',r',?_⟩;rcases q with q|⟨k,c',e,z'⟩
    .exact .inl q
    .refine .inr ⟨k,c',e,z'.sameBut hs ?_⟩;rintro rfl;exact hj (zA hN e1 (I.ok.inj _ _ _ e hc ▸ hi))
  .by_cases Dq:c'=c
   .subst Dq;exact⟨_,kB⟩
   .obtain⟨w2,z2⟩:=I.cell y c' e;exact⟨w2,z2.sameBut hs Dq⟩
  .obtain⟨e,n,ne,nf,d⟩:=I.pin p hp;refine⟨(hs.2 p.1 ?_).trans e,n,ne,nf,d⟩;intro q;rw[q,xn]at e;have q':oc=p.2:=QM e;exact d w' (by rw[<- q'];exact zC)
theorem zD{M:Model}{A:Around}{E:Y0}{x:Str}{v:V}{u:Value}{Q:Unit->Shared->Prop}(I:Inv X Z_ σ H s)(hN:X.N.Nodup)(hi:X.N[i]? = some x)(hx:Loc X.env.scope x)(r:cE v u)
  (h:∀ s',Inv X Z_ (σ.set i (some v)) H s'->Q () s') (hf:X.fn x=true\/X.env.scope.names.lookup x=some .local:=by first|exact .inl rfl|exact .inr rfl|assumption):wpAny M A (storeName X.env x u) Q E s:=
 Dm I hN hi hx r (λs' I' _=>h s' I') hf
theorem Inv.jU{s':Shared}{ch:List Addr}(I:Inv X Z_ σ H s)(ho:s'.os=s.os)(u:Un (bJ X.stack) ch H H' s.heap s'.heap)(aK:dN X.prog X.w H' s'.heap)(hg:AllBare s'.gens)
  (ni:∀ b∈ch,(b∈X.ex\/X.ai.heap.objs.size<=b)/\b≠X.env.locals/\(∀ x c,X.env.cells.lookup x=some c->c≠b)/\∀ p∈X.pn++Z_,p.1≠b):Inv X Z_ σ H' s':=by obtain⟨h',g',d',t',o'⟩:=s';have e:o'=s.os:=ho;subst e;exact I.call (g':=g') (t':=t') (d':=d') u aK hg ni
end
abbrev XK:=Value->Option Addr->Hp->Prop
abbrev St:=List (Option V)
abbrev VK:=V->Hp->Prop
abbrev TE:=St->Hp->VK->Prop
abbrev TT:=St->Hp->(Bool->Hp->Prop)->Prop
abbrev TA:=St->Hp->(List V->Hp->Prop)->Prop
structure Ends where
 nx:St->Hp->Prop
 rt:VK
 bk:St->Hp->Prop:=λ_ _=>False
 ct:St->Hp->Prop:=λ_ _=>False
abbrev TS:=Ends->St->Hp->Prop
def EP (X:Cx)(Z_:List (Addr×Obj))(σ:St)(Q:VK)(u:Value)(s':Shared):Prop:=∃ v H',Inv X Z_ σ H' s'/\cE v u/\Q v H'
def TP (X:Cx)(Z_:List (Addr×Obj))(σ:St)(Q:Bool->Hp->Prop)(b:Bool)(s':Shared):Prop:=∃ H',Inv X Z_ σ H' s'/\Q b H'
def AP (X:Cx)(Z_:List (Addr×Obj))(σ:St)(Q:List V->Hp->Prop)(us:List Value)(s':Shared):Prop:=∃ vs H',Inv X Z_ σ H' s'/\bf vs us/\Q vs H'
def SP (X:Cx)(Z_:List (Addr×Obj))(D:Ends)(f:Flow)(s':Shared):Prop:=
 match f with
 | .next=>∃ aP H',Inv X Z_ aP H' s'/\D.nx aP H'
 | .brk=>∃ aP H',Inv X Z_ aP H' s'/\D.bk aP H'
 | .cont=>∃ aP H',Inv X Z_ aP H' s'/\D.ct aP H'
 | .ret u=>∃ v aP H',Inv X Z_ aP H' s'/\cE v u/\D.rt v H'
def PE (X:Cx)(e:Expr)(t:TE):Prop:=
 ∀ (Z_:List (Addr×Obj)) (s:Shared) (σ:St) (H:Hp) (Q:VK),Inv X Z_ σ H s->t σ H Q->wpAny (model X.prog X.w) X.A (eval e X.env) (EP X Z_ σ Q) X.xe s
structure QE (X:Cx) (e:Expr) (t:TE):Prop where mk::o:PE X e t
def PT (X:Cx)(e:Expr)(t:TT):Prop:=
 ∀ (Z_:List (Addr×Obj)) (s:Shared) (σ:St) (H:Hp) (Q:Bool->Hp->Prop),Inv X Z_ σ H s->t σ H Q->wpAny (model X.prog X.w) X.A (isTrue e X.env (eval e X.env)) (TP X Z_ σ Q) X.xe s
def PW (X:Cx)(e:Expr)(t:TT):Prop:=
 ∀ (whole:Sem Value) (Z_:List (Addr×Obj)) (s:Shared) (σ:St) (H:Hp) (Q:Bool->Hp->Prop),Inv X Z_ σ H s->t σ H Q->wpAny (model X.prog X.w) X.A (isTrue e X.env whole) (TP X Z_ σ Q) X.xe s
theorem PW.pt{X:Cx}{e:Expr}{t:TT}(h:PW X e t):PT X e t:=h _
def PA (X:Cx)(es:List Expr)(t:TA):Prop:=
 ∀ (pos:Pos) (Z_:List (Addr×Obj)) (s:Shared) (σ:St) (H:Hp) (Q:List V->Hp->Prop),Inv X Z_ σ H s->t σ H Q->wpAny (model X.prog X.w) X.A (spliced (backTo pos (starEach es X.env))) (AP X Z_ σ Q) X.xe s
def PS (X:Cx)(st:Stmt)(t:TS):Prop:=
 ∀ (Z_:List (Addr×Obj)) (s:Shared) (σ:St) (H:Hp) (D:Ends),Inv X Z_ σ H s->t D σ H->wpAny (model X.prog X.w) X.A (exec st X.env) (SP X Z_ D) X.xe s
def gL (X:Cx)(st:List Stmt)(t:TS):Prop:=
 ∀ (Z_:List (Addr×Obj)) (s:Shared) (σ:St) (H:Hp) (D:Ends),Inv X Z_ σ H s->t D σ H->wpAny (model X.prog X.w) X.A (execs st X.env) (SP X Z_ D) X.xe s
theorem a_{α:Type}{t:Sem α}{Q Q':α->Shared->Prop}{A:Around}{E:Y0}{s:Shared}(h:wpAny M A t Q E s)(hQ:∀ a s,Q a s->Q' a s):wpAny M A t Q' E s:=Q2 h hQ λ_ _ x=>x
section
variable {X:Cx}
def jV (i:Nat):TE:=λσ H Q=>∃ v,σ[i]? = some (some v)/\Q v H
def tC (v:V):TE:=λ_ H Q=>Q v H
theorem Ke{x:Str}{pos:Pos}(hN:X.N[i]? = some x)(hv:sW X.env.scope x)(hd:(x==("__debug__":Str))=false:=by decide)(gM:(x==("__classdict__":Str))=false:=by decide):PE X (.Name x pos) (jV i):=by
 intro Z_ s σ H Q I h;obtain⟨v,e,h⟩:=h;obtain⟨m,hn,hl⟩:=I.loc;obtain⟨u,r,l⟩:=hl i x v hN e hv;have fin:EP X Z_ σ Q u s:=⟨v,H,I,r,h⟩;rcases l with⟨hk,hm⟩|⟨hk,c,hc,jW⟩
 .exact wpAny_Name (wpAny_loadName_local I.ok.kind hk hn hm fin) hd
 .rcases hk with hk|hk
  .exact wpAny_Name (wpAny_loadName_cell I.ok.kind hk hc jW fin) hd
  .exact wpAny_Name (wpAny_loadName_free I.ok.kind hk hc jW fin gM) hd
theorem Kf{i j pos}:PE X (.Constant (.int i) j pos) (tC (.int i)):=λ_ _ _ H _ I h=>wpAny_Constant_int ⟨.int i,H,I.tok _,⟨_,rfl⟩,h⟩
theorem Kg{b j pos}:PE X (.Constant (.bool b) j pos) (tC (.bl b)):=λ_ _ _ H _ I h=>Constant_bool ⟨.bl b,H,I,rfl,h⟩
theorem Kh{j pos}:PE X (.Constant .none j pos) (tC .aO):=λ_ _ _ H _ I h=>Constant_none ⟨.aO,H,I,rfl,h⟩
theorem zE{x j pos}:PE X (.Constant (.str x) j pos) (tC (.str x)):=λ_ _ _ H _ I h=>Calls.Constant_str ⟨.str x,H,I.tok _,⟨_,rfl⟩,h⟩
def Gl (X:Cx)(x:Str):Prop:=X.env.kindOf x=some .globalImplicit
theorem sY{E:Y0}{Z_:List (Addr×Obj)}{s:Shared}{σ:St}{H:Hp}{x:Str}{u:Value}{pos:Pos}{Q:Y0}(I:Inv X Z_ σ H s)(hg:Gl X x)(hm:X.mg x=some u)(h:Q u s)
  (hd:(x==("__debug__":Str))=false:=by decide):wpAny (model X.prog X.w) X.A (eval (.Name x pos) X.env) Q E s:=
 JO I.ok.kind hg (Calls.loadGlobal_global (by rw[I.ok.glob];exact I.mod.glob.keeps I.bk) hm h) hd
theorem sZ{E:Y0}{Z_:List (Addr×Obj)}{s:Shared}{σ:St}{H:Hp}{x:Str}{u:Value}{pos:Pos}{Q:Y0}(I:Inv X Z_ σ H s)(hg:Gl X x)(hm:X.mg x=none)(hv:bootBuiltins x=some u)(h:Q u s)
  (hn:x ≠ "__name__":=by decide) (hd:(x==("__debug__":Str))=false:=by decide):wpAny (model X.prog X.w) X.A (eval (.Name x pos) X.env) Q E s:=by obtain⟨mb,h1,h2⟩:=I.mod.blt;exact JO I.ok.kind hg (Calls.loadGlobal_builtin (by rw[I.ok.glob];exact I.mod.glob.keeps I.bk) hm (by rw[I.ok.blt];exact h1.keeps I.bk) ((h2 x hn).trans hv) h) hd
theorem Dr{x:Str}{v:V}{u:Value}{pos:Pos}(hg:Gl X x)(hm:X.mg x=some u)(r:cE v u)(hd:(x==("__debug__":Str))=false:=by decide):PE X (.Name x pos) (tC v):=
 λ_ _ _ H _ I h=>sY I hg hm ⟨v,H,I,r,h⟩ hd
theorem Ds{x:Str}{v:V}{u:Value}{pos:Pos}(hg:Gl X x)(hm:X.mg x=none)(hv:bootBuiltins x=some u)(r:cE v u)(hn:x ≠ "__name__":=by decide)(hd:(x==("__debug__":Str))=false:=by decide):PE X (.Name x pos) (tC v):=
 λ_ _ _ H _ I h=>sZ I hg hm hv ⟨v,H,I,r,h⟩ hn hd
variable {a b:Expr}{ta tb:TE}{pos:Pos}
def tB (t:TE):TT:=λσ H Q=>t σ H λx H1=>∃ c,x=.bl c/\Q c H1
variable {tA Dt:TT}{cb:List Expr}
def Ki (t u:TT):TT:=λσ H Q=>t σ H λc H1=>if c=true then Q true H1 else u σ H1 Q
def Kj (t:TT):TT:=λσ H Q=>t σ H λc H1=>Q (!c) H1
theorem Kk(ha:PT X a tA):PW X (.BoolOp .Or [a] pos) tA:=by
 intro wh Z_ s σ H Q I h;refine isTrue_or (a_ (ha Z_ s σ H Q I h) λc s1 e=>?_);cases c with
 | false=>exact isTrue_or_nil e
 | true=>exact e
theorem Kl(ha:PT X a tA)(hb:PW X (.BoolOp .Or (b::cb) pos) Dt):PW X (.BoolOp .Or (a::b::cb) pos) (Ki tA Dt):=by
 intro wh Z_ s σ H Q I h;refine isTrue_or (a_ (ha Z_ s σ H _ I h) λc s1 ak=>?_);obtain⟨H1,I1,q1⟩:=ak;cases c with
 | true=>exact⟨H1,I1,q1⟩
 | false=>exact hb wh Z_ s1 σ H1 Q I1 q1
theorem Km(ha:PT X a tA):PT X (.UnaryOp .Not a pos) (Kj tA):=by intro Z_ s σ H Q I h;exact isTrue_not (ha Z_ s σ H (λc H1=>Q (!c) H1) I h)
def Kn (ta tb:TE):TE:=λσ H Q=>ta σ H λx H1=>∃ c,x=.bl c/\if c=true then tb σ H1 Q else Q (.bl false) H1
def Ko (ta:TE):TE:=λσ H Q=>ta σ H λx H1=>∃ c,x=.bl c/\Q (.bl (!c)) H1
theorem Kp{op}{t:TE}(h:PE X a t):PE X (.BoolOp op [a] pos) t:=λZ_ s σ H Q I hw=>BoolOp_one (h Z_ s σ H Q I hw)
theorem Kq(ha:PE X a ta)(hb:PE X (.BoolOp .And (b::cb) pos) tb):PE X (.BoolOp .And (a::b::cb) pos) (Kn ta tb):=by
 intro Z_ s σ H Q I h;refine BoolOp_and (a_ (ha Z_ s σ H _ I h) λv s1 ak=>?_);obtain⟨x,H1,I1,r1,q1⟩:=ak;obtain⟨c,rfl,q1⟩:=q1;cases r1;refine Zk ?_;cases c with
 | true=>exact hb Z_ s1 σ H1 Q I1 q1
 | false=>exact⟨.bl false,H1,I1,rfl,q1⟩
theorem Kr(ha:PE X a ta):PE X (.UnaryOp .Not a pos) (Ko ta):=by intro Z_ s σ H Q I h;refine UnaryOp_ (a_ (ha Z_ s σ H _ I h) λv s1 ak=>?_);obtain⟨x,H1,I1,r1,q1⟩:=ak;obtain⟨c,rfl,q1⟩:=q1;cases r1;exact not_of (Zk ⟨.bl (!c),H1,I1,rfl,q1⟩)
def Ks (t:TT)(ta tb:TE):TE:=λσ H Q=>t σ H λc H1=>if c=true then ta σ H1 Q else tb σ H1 Q
theorem Kt{c:Expr}(hc:PT X c tA)(ha:PE X a ta)(hb:PE X b tb):PE X (.IfExp c a b pos) (Ks tA ta tb):=by
 intro Z_ s σ H Q I h;refine wpAny_IfExp (a_ (hc Z_ s σ H _ I h) λd s1 ak=>?_);obtain⟨H1,I1,q1⟩:=ak;cases d with
 | true=>exact ha Z_ s1 σ H1 Q I1 q1
 | false=>exact hb Z_ s1 σ H1 Q I1 q1
end
def cM (K:PySem.W.Frag)(H:Hp)(a:Addr)(xs:List V):Prop:=
 Rd H a (.lst xs) \/
  ∃ (o:Obj) (ar:Array Value) (n:Nat),K.lookup a=some o/\o.cls=.type "list" /\ o.dict=none/\o.data=.seq ar n/\ar.size<=sizeLine/\bf xs ar.toList
def dv (K:PySem.W.Frag)(H:Hp)(a:Addr)(xs:List V):Prop:=
 Rd H a (.tup xs) \/
  ∃ (o:Obj) (ar:Array Value) (n:Nat),K.lookup a=some o/\o.cls=.type "tuple" /\ o.data=.seq ar n/\ar.size<=sizeLine/\bf xs ar.toList
def Ku:Value->Option V
 | .none=>some .aO
 | .bool b=>some (.bl b)
 | .int i _=>some (.int i)
 | .str x _=>some (.str x)
 | .bytes b _=>some (.uv b)
 | .float b _=>some (.sT b)
 | .ref a=>some (.ref a)
 | .type n=>some (.ty n)
 | _=>none
theorem cE.abs{x:V}{u:Value}(r:cE x u):Ku u=some x:=by
 cases x with
 | aO=>cases r;rfl
 | bl _=>cases r;rfl
 | int _=>obtain⟨t,rfl⟩:=r;rfl
 | str _=>obtain⟨t,rfl⟩:=r;rfl
 | uv _=>obtain⟨t,rfl⟩:=r;rfl
 | sT _=>obtain⟨t,rfl⟩:=r;rfl
 | ref _=>cases r;rfl
 | ty _=>cases r;rfl
theorem cE.inj{x y:V}{u:Value}(r:cE x u)(q:cE y u):x=y:=QM (r.abs.symm.trans q.abs)
theorem bf.inj:∀ {xs ys:List V} {us:List Value},bf xs us->bf ys us->xs=ys
 | _,_,_,.nil,.nil=>rfl
 | _,_,_,.cons r t,.cons r' t'=>by rw[r.inj r',bf.inj t t']
section
variable {X:Cx}{Z_:List (Addr×Obj)}{σ:St}{H:Hp}{s:Shared}{a:Addr}{xs ys:List V}
theorem cM.of(h:H a=some (.lst xs)):cM K H a xs:=.inl (.inl h)
theorem dv.of(h:H a=some (.tup xs)):dv K H a xs:=.inl (.inl h)
theorem Inv.list(I:Inv X Z_ σ H s)(h:cM X.K H a xs):∃ ar:List Value,bf xs ar/\PlainL s.heap a ar.toArray/\xs.length<=sizeLine:=by
 rcases h with h|⟨o,ar,n,hk,hc,hd,hs,hz,r⟩
 .obtain⟨z,ar,n,r,e⟩:=h.ok I.aK;exact⟨ar,r,⟨_,n,e,rfl,rfl,rfl⟩,z⟩
 .refine⟨ar.toList,r,⟨o,n,I.fu a o hk,hc,hd,by simpa using hs⟩,?_⟩;have e:=r.length;simp only[JF]at e;omega
theorem Inv.tuple(I:Inv X Z_ σ H s)(h:dv X.K H a xs):∃ ar:List Value,bf xs ar/\IsTup s.heap a ar.toArray/\xs.length<=sizeLine:=by
 rcases h with h|⟨o,ar,n,hk,hc,hs,hz,r⟩
 .obtain⟨z,ar,r,p⟩:=h.ok I.aK;exact⟨ar,r,p.tup,z⟩
 .refine⟨ar.toList,r,⟨o,I.fu a o hk,hc,n,by simpa using hs⟩,?_⟩;have e:=r.length;simp only[JF]at e;omega
theorem Inv.iR(I:Inv X Z_ σ H s)(h:cM X.K H a xs)(h':cM X.K H a ys):xs=ys:=by
 obtain⟨ar,r,⟨o,n,e,_,_,d⟩,_⟩:=I.list h;obtain⟨its',r',⟨o',n',e',_,_,d'⟩,_⟩:=I.list h';rw[e]at e';cases e';rw[d]at d';injection d' with d1 _;have:ar=its':=by simpa using Zr Array.toList d1
 subst this;exact r.inj r'
theorem Inv.gZ(I:Inv X Z_ σ H s)(h:dv X.K H a xs)(h':dv X.K H a ys):xs=ys:=by
 obtain⟨ar,r,⟨o,e,_,n,d⟩,_⟩:=I.tuple h;obtain⟨its',r',⟨o',e',_,n',d'⟩,_⟩:=I.tuple h';rw[e]at e';cases e';rw[d]at d';injection d' with d1 _;have:ar=its':=by simpa using Zr Array.toList d1
 subst this;exact r.inj r'
end
abbrev Cx.fv (X:Cx)(E:Y0):Cx:={ X with xe:=E }
abbrev Cx.g7 (X:Cx):Cx:=X.fv λ_ _=>False
theorem Cx.Ok.fv{X:Cx}(ok:X.Ok)(E:Y0):(X.fv E).Ok:=
 ⟨ok.mod,ok.kind,ok.glob,ok.blt,ok.above,ok.inj,ok.has,ok.sX,ok.hd,ok.frames,ok.uA,ok.uB,ok.bs,ok.lH,ok.kz,ok.jx,ok.eU,ok.pC⟩
theorem Cx.Ok.cG{X:Cx}{E:Y0}(ok:(X.fv E).Ok):X.Ok:=
 ⟨ok.mod,ok.kind,ok.glob,ok.blt,ok.above,ok.inj,ok.has,ok.sX,ok.hd,ok.frames,ok.uA,ok.uB,ok.bs,ok.lH,ok.kz,ok.jx,ok.eU,ok.pC⟩
section
variable {X:Cx}{Z_:List (Addr×Obj)}{σ:St}{H:Hp}{s:Shared}{E:Y0}
theorem Inv.fv(I:Inv X Z_ σ H s)(E:Y0):Inv (X.fv E) Z_ σ H s:=⟨I.ok.fv E,I.os,I.bare,I.base,I.loc,I.cell,I.free,I.cQ,I.pin,I.aK,I.len⟩
theorem Inv.cG(I:Inv (X.fv E) Z_ σ H s):Inv X Z_ σ H s:=⟨I.ok.cG,I.os,I.bare,I.base,I.loc,I.cell,I.free,I.cQ,I.pin,I.aK,I.len⟩
theorem SP.cG{D:Ends}{f:Flow}{s':Shared}(h:SP (X.fv E) Z_ D f s'):SP X Z_ D f s':=by
 cases f with
 | next=>obtain⟨aP,H',I,q⟩:=h;exact⟨aP,H',I.cG,q⟩
 | brk=>obtain⟨aP,H',I,q⟩:=h;exact⟨aP,H',I.cG,q⟩
 | cont=>obtain⟨aP,H',I,q⟩:=h;exact⟨aP,H',I.cG,q⟩
 | ret u=>obtain⟨v,aP,H',I,r,q⟩:=h;exact⟨v,aP,H',I.cG,r,q⟩
theorem PE.g7{e:Expr}{t:TE}(h:PE X.g7 e t):PE X e t:=λZ_ s σ H Q I hw=>
 Q2 (h Z_ s σ H Q (I.fv _) hw) (λ_ _ ⟨v,H',I',r,q⟩=>⟨v,H',I'.cG,r,q⟩) λ_ _ z=>False.elim z
theorem gL.g7{st:List Stmt}{t:TS}(h:gL X.g7 st t):gL X st t:=λZ_ s σ H D I hw=>
 Q2 (h Z_ s σ H D (I.fv _) hw) (λ_ _ q=>q.cG) λ_ _ z=>False.elim z
end
section
variable {X:Cx}{st:Stmt}{cb:List Stmt}{t u:TS}{e:Expr}{te:TE}{pos:Pos}
def Kv:TS:=λD σ H=>D.nx σ H
def Kw (t u:TS):TS:=λD σ H=>t { D with nx:=u D } σ H
theorem Kx:gL X [] Kv:=λ_ _ σ H _ I h=>JB ⟨σ,H,I,h⟩
theorem Du(h1:PS X st t)(h2:gL X cb u):gL X (st::cb) (Kw t u):=by
 intro Z_ s σ H D I h;refine Jq (a_ (h1 Z_ s σ H { D with nx:=u D } I h) λf s1 q=>?_);cases f with
 | next=>
  obtain⟨aP,H',I',q⟩:=q;exact h2 Z_ s1 aP H' D I' q
 | ret v=>exact q
 | brk=>exact q
 | cont=>exact q
theorem Dv(h1:PS X st t):gL X [st] t:=by
 intro Z_ s σ H D I h;refine Jq (a_ (h1 Z_ s σ H D I h) λf s1 q=>?_);cases f with
 | next=>exact JB q
 | ret v=>exact q
 | brk=>exact q
 | cont=>exact q
def Ky:TS:=λD σ H=>D.bk σ H
theorem Kz:PS X (.Break pos) Ky:=λ_ _ σ H _ I h=>wpAny_Break ⟨σ,H,I,h⟩
theorem Inv.quiet{Z_:List (Addr×Obj)}{σ:St}{H:Hp}{s:Shared}(I:Inv X Z_ σ H s):interactive X.env=false:=by simp[interactive,I.ok.kind]
def KA (te:TE):TS:=λD σ H=>te σ H λ_ H1=>D.nx σ H1
theorem KC(he:PE X e te)(hs:swapsWith e none pos.line X.env=pure false:=by rfl):PS X (.Expr e pos) (KA te):=by intro Z_ s σ H D I h;exact wpAny_Expr_any (a_ (he Z_ s σ H _ I h) λv s1 ⟨x,H1,I1,r1,q1⟩=>⟨σ,H1,I1,q1⟩) I.quiet hs
def KD (te:TE):TS:=λD σ H=>te σ H D.rt
theorem KG(he:PE X e te):PS X (.Return (some e) pos) (KD te):=by intro Z_ s σ H D I h;exact wpAny_Return_some (a_ (he Z_ s σ H _ I h) λv s1 ⟨x,H1,I1,r1,q1⟩=>⟨x,σ,H1,I1,r1,q1⟩)
def KH (c:TT)(t u:TS):TS:=λD σ H=>c σ H λb H1=>if b=true then t D σ H1 else u D σ H1
theorem Dw{c:Expr}{a b:List Stmt}{tc:TT}(hc:PT X c tc)(ha:gL X a t)(hb:gL X b u):PS X (.If c a b pos) (KH tc t u):=by
 intro Z_ s σ H D I h;refine wpAny_If (a_ (hc Z_ s σ H _ I h) λd s1 ak=>?_);obtain⟨H1,I1,q1⟩:=ak;cases d with
 | true=>exact ha Z_ s1 σ H1 D I1 q1
 | false=>exact hb Z_ s1 σ H1 D I1 q1
def KI:TS:=λ_ _ _=>False
theorem KJ:PS X st KI:=λ_ _ _ _ _ _ h=>h.elim
end
abbrev TG:=V->St->Hp->(St->Hp->Prop)->Prop
abbrev n3:=List V->St->Hp->(St->Hp->Prop)->Prop
def PG (X:Cx)(target:Expr)(t:TG):Prop:=
 ∀ (Z_:List (Addr×Obj)) (s:Shared) (σ:St) (H:Hp) (v:V) (u:Value) (Q:St->Hp->Prop),Inv X Z_ σ H s->cE v u->t v σ H Q->
  wpAny (model X.prog X.w) X.A (assign target X.env u) (λ_ s'=>∃ aP H',Inv X Z_ aP H' s'/\Q aP H') X.xe s
def nj (X:Cx)(ts:List Expr)(t:n3):Prop:=
 ∀ (Z_:List (Addr×Obj)) (s:Shared) (σ:St) (H:Hp) (vs:List V) (us:List Value) (Q:St->Hp->Prop),Inv X Z_ σ H s->bf vs us->t vs σ H Q->
  wpAny (model X.prog X.w) X.A (assignInOrder ((assignEach ts X.env).map (·.2)) us) (λ_ s'=>∃ aP H',Inv X Z_ aP H' s'/\Q aP H') X.xe s
abbrev zG:=V->V->V->Hp->(Hp->Prop)->Prop
def Dx (X:Cx)(t:zG):Prop:=
 ∀ (Z_:List (Addr×Obj)) (s:Shared) (σ:St) (H:Hp) (o i v:V) (ov iv u:Value) (Q:Hp->Prop),Inv X Z_ σ H s->cE o ov->cE i iv->cE v u->t o i v H Q->
  wpAny (model X.prog X.w) X.A (setItem ov iv u) (λ_ s'=>∃ H',Inv X Z_ σ H' s'/\Q H') X.xe s
section
variable {X:Cx}{pos:Pos}
def zH (i:Nat):TG:=λv σ H Q=>Q (σ.set i (some v)) H
theorem KN{x:Str}(hN:X.N.Nodup)(hi:X.N[i]? = some x)(hx:Loc X.env.scope x)(hf:X.fn x=true\/X.env.scope.names.lookup x=some .local:=by first|exact .inl rfl|exact .inr rfl|assumption):PG X (.Name x pos) (zH i):=by intro Z_ s σ H v u Q I r h;exact wpAny_assign_Name (zD I hN hi hx r (λs' I'=>⟨_,H,I',h⟩) hf)
def KO:n3:=λvs σ H Q=>vs=[]/\Q σ H
def KP (t:TG)(u:n3):n3:=λvs σ H Q=>∃ v r,vs=v::r/\t v σ H λaP H'=>u r aP H' Q
theorem KQ:nj X [] KO:=by intro Z_ s σ H vs us Q I r h;obtain⟨e,h⟩:=h;subst e;cases r;exact assignInOrder_nil ⟨σ,H,I,h⟩
theorem KR{e:Expr}{es:List Expr}{t:TG}{u:n3}(h1:PG X e t)(h2:nj X es u)
  (hs:(assignEach (e::es) X.env).map (·.2)=assign e X.env::(assignEach es X.env).map (·.2):=by rfl):nj X (e::es) (KP t u):=by
 intro Z_ s σ H vs us Q I r h;obtain⟨v,vr,e1,h⟩:=h;subst e1;cases r with
 | cons r rr=>
  rw[hs];refine assignInOrder_cons (a_ (h1 Z_ s σ H _ _ _ I r h) λ_ s1 ak=>?_);obtain⟨Dy,H1,I1,q1⟩:=ak;exact h2 Z_ s1 Dy H1 _ _ Q I1 rr q1
def KS (K:PySem.W.Frag)(n:Nat)(t:n3):TG:=λv σ H Q=>∃ a xs,v=.ref a/\dv K H a xs/\xs.length=n/\t xs σ H Q
theorem KU{es:List Expr}{k:Nat}{t:n3}(hc:X.calm=true)(h:nj X es t)
  (hn:(assignEach es X.env).length=n:=by rfl) (lK:(assignEach es X.env).findIdx? (·.1)=none:=by rfl):PG X (.Tuple es k pos) (KS X.K n t):=by intro Z_ s σ H v u Q I r hw;obtain⟨a,xs,e1,hq,hl,hw⟩:=hw;subst e1;cases r;obtain⟨ar,rv,ht,hz⟩:=I.tuple hq;refine assign_Tuple_tuple (I.ok.hd hc) ht (by simp[hn,<- hl,rv.length]) lK λh' hx=>?_;have I1:Inv X Z_ σ H { s with heap:=h' }:=I.kept (t':=s.toks) λb o e=>hx b o (QS (Qn e)) e;exact h Z_ _ σ H xs _ Q I1 (by simpa using rv) hw
def KW (to ti:TE)(t:zG):TG:=λv σ H Q=>to σ H λo H1=>ti σ H1 λi H2=>t o i v H2 λH3=>Q σ H3
theorem KY{o i:Expr}{to ti:TE}{t:zG}(ho:PE X o to)(hi:PE X i ti)(hs:Dx X t)
  (ha:∀ v,assign (.Subscript o i pos) X.env v=(do
    let ov <- holding [v] (eval o X.env)
    let iv <- holding [v,ov] (eval i X.env)
    standAt pos
    holding [v,ov,iv] (setItem ov iv v)
    release [v,ov,iv] []):=by intro _;rfl):PG X (.Subscript o i pos) (KW to ti t):=by intro Z_ s σ H v u Q I r h;rw[ha];refine Qb (ZI (a_ (ho Z_ s σ H _ I h) λov s1 ak=>?_));obtain⟨x,H1,I1,r1,q1⟩:=ak;refine Qb (ZI (a_ (hi Z_ s1 σ H1 _ I1 q1) λiv s2 ak=>?_));obtain⟨y,H2,I2,r2,q2⟩:=ak;refine Qb (Yb (Qb (ZI (a_ (hs Z_ s2 σ H2 x y v ov iv u _ I2 r1 r2 r q2) λ_ s3 ak=>?_))));obtain⟨H3,I3,q3⟩:=ak;exact wpAny_release ⟨σ,H3,I3,q3⟩
def zI (te:TE)(g:TG):TS:=λD σ H=>te σ H λx H1=>g x σ H1 D.nx
theorem Dz{tg e:Expr}{te:TE}{g:TG}(he:PE X e te)(hg:PG X tg g)(hs:swapsWithSole [tg] e pos.line X.env=pure false:=by rfl)(hw:swappedStores [tg] e X.env=pure none:=by rfl)
  (h1:(assignEach [tg] X.env).map (·.2)=[assign tg X.env]:=by rfl):PS X (.Assign [tg] e pos) (zI te g):=by intro Z_ s σ H D I h;refine wpAny_Assign_stores (a_ (he Z_ s σ H _ I h) λv s1 ⟨x,H1,I1,r1,q1⟩=>?_) hs hw;rw[h1];exact a_ (hg Z_ s1 σ H1 x v _ I1 r1 q1) λ_ s2 q=>q
theorem DA{x:Str}{e:Expr}{te:TE}{pos':Pos}(hN:X.N.Nodup)(hi:X.N[i]? = some x)(hx:Loc X.env.scope x)(he:PE X e te)(hs:swapsWith e (some (.Name x pos')) pos.line X.env=pure false:=by rfl)(hf:X.fn x=true\/X.env.scope.names.lookup x=some .local:=by first|exact .inl rfl|exact .inr rfl|assumption) :
  PS X (.Assign [.Name x pos'] e pos) (zI te (zH i)):=by intro Z_ s σ H D I h;refine J4 (a_ (he Z_ s σ H _ I h) λv s1 ⟨y,H1,I1,r1,q1⟩=>?_) hs;exact zD I1 hN hi hx r1 (λs2 I2=>⟨_,H1,I2,q1⟩) hf
end
structure It where
 go:Nat->Hp->Prop
 pE:Nat->Hp->V->Hp->Prop
 stop:Nat->Hp->Prop
def jX (X:Cx)(Z_:List (Addr×Obj))(H:Hp)(b:Addr):Prop:=
 H b=none/\b≠X.env.locals/\b ∉ X.fs/\(b∈X.ex\/X.ai.heap.objs.size<=b)/\(∀ x c,X.env.cells.lookup x=some c->c≠b)/\∀ p∈X.pn++Z_,p.1≠b
theorem Inv.n8{X:Cx}{Z_:List (Addr×Obj)}{σ:St}{H H':Hp}{s:Shared}{b:Addr}(I:Inv X Z_ σ H s)(hb:s.heap.objs.size<=b)(hn:H' b=none):jX X Z_ H' b:=by
 refine⟨hn,Nat.ne_of_gt (Qo I.lt hb),I.uC hb,.inr (Qq I.sz hb),λx c e z=>?_,λp hp z=>?_⟩
 .obtain⟨v,q⟩:=I.cell x c e;exact absurd (Qo q.lt (by rw[z];exact hb)) (Qx _)
 .exact absurd (Qo (Qn (I.pin p hp).1) (by rw[z];exact hb)) (Qx _)
structure Turn (P:Program) (w:World) (K:PySem.W.Frag) (tg:Expr) (J:It) (fp:List Addr) (it:Addr) (tn:Nat->Heap->Prop):Prop where
 mem:it∈fp
 obj:∀ i h,tn i h->∀ b∈fp,∃ o,h.get? b=some o/\∀ v,o.data ≠ .cell v
 keep:∀ i h h',tn i h->(∀ b∈fp,∀ o,h.get? b=some o->h'.get? b=some o)->tn i h'
 item:∀ (X:Cx),X.prog=P->X.w=w->X.K=K->X.calm=true->∀ (i:Nat) (Z_:List (Addr×Obj)) (s:Shared) (σ:St) (H:Hp) (E:Y0),Inv X Z_ σ H s->(∀ b∈fp,jX X Z_ H b)->tn i s.heap->J.go i H->
  wpAny (model P w) X.A (pyNext (.ref it)) (λr s1=>∃ u,r=some u /\
   wpAny (model P w) X.A (letOwnedTupleGo tg (.ref it) u) (λ_ s2=>∃ x H',Inv X Z_ σ H' s2/\cE x u/\J.pE i H x H'/\tn (i+1) s2.heap/\∀ b∈fp,H' b=none) E s1) E s
 done:∀ (X:Cx),X.prog=P->X.w=w->X.K=K->X.calm=true->∀ (i:Nat) (Z_:List (Addr×Obj)) (s:Shared) (σ:St) (H:Hp) (E:Y0),Inv X Z_ σ H s->(∀ b∈fp,jX X Z_ H b)->tn i s.heap->J.stop i H->
  wpAny (model P w) X.A (pyNext (.ref it)) (λr s1=>r=none/\Inv X Z_ σ H s1) E s
 self:∀ (A:Around) (i:Nat) (s:Shared) (Q:Y0) (E:Y0),tn i s.heap->Q (.ref it) s->wpAny (model P w) A (pyIter (.ref it)) Q E s
abbrev TI:=St->Hp->(It->Hp->Prop)->Prop
def zJ (X:Cx)(Z_:List (Addr×Obj))(σ:St)(tg:Expr)(R:It->Hp->Prop)(uH:Value)(s2:Shared):Prop:=
 ∃ (it:Addr) (fp:List Addr) (tn:Nat->Heap->Prop) (J:It) (H':Hp),uH=.ref it/\Inv X Z_ σ H' s2/\Turn X.prog X.w X.K tg J fp it tn/\tn 0 s2.heap/\(∀ b∈fp,jX X Z_ H' b)/\R J H'
def PI (X:Cx)(tg iter:Expr)(wi:TI):Prop:=
 ∀ (Z_:List (Addr×Obj)) (s:Shared) (σ:St) (H:Hp) (R:It->Hp->Prop),Inv X Z_ σ H s->wi σ H R->
  wpAny (model X.prog X.w) X.A (eval iter X.env) (λv s1=>wpAny (model X.prog X.w) X.A (pyIter v) (zJ X Z_ σ tg R) X.xe s1) X.xe s
theorem zK{A:Around}{E:Y0}{s:Shared}{tg:Expr}{u:Value}{o:Obj}{n:String}{vs:Array Value}{Q:Unit->Shared->Prop}(ho:s.heap.get? it=some o)(hc:o.cls=.type n)(hd:o.data=.fields vs)
  (hn:["enumerate","zip","dict_itemiterator","dict_reverseitemiterator","odict_iterator","itertools.zip_longest","itertools.pairwise"].contains n=false) (hQ:Q () s):wpAny M A (letOwnedTupleGo tg (.ref it) u) Q E s:=by
 unfold letOwnedTupleGo;cases tg<;>first
  | exact Ql hQ
  | (cases u<;>first
      | exact Ql hQ
      | (refine Qb (wpAny_load ho ?_)
         rw[hc,hd];show wpAny M A (if(["enumerate","zip","dict_itemiterator","dict_reverseitemiterator","odict_iterator","itertools.zip_longest","itertools.pairwise"].contains n&&vs[0]? == some (rawInt _))=true then _ else _) Q E s;rw[Qw (by intro h;rw[hn,Bool.false_and]at h;cases h)];exact Ql hQ))
def zL (K:PySem.W.Frag)(a:Addr):It:=
 ⟨λi H=>∃ xs x,cM K H a xs/\xs[i]? = some x,λi H x H'=>H'=H/\∀ xs,cM K H a xs->xs[i]? = some x,λi H=>∃ xs,cM K H a xs/\xs.length<=i⟩
def zM (K:PySem.W.Frag)(a:Addr):It:=
 ⟨λi H=>∃ xs x,dv K H a xs/\xs[i]? = some x,λi H x H'=>H'=H/\∀ xs,dv K H a xs->xs[i]? = some x,λi H=>∃ xs,dv K H a xs/\xs.length<=i⟩
def xo (lo:Int)(n:Nat):It:=⟨λi _=>i<n,λi H x H'=>H'=H/\x=.int (lo+i),λi _=>n<=i⟩
theorem KZ{P:Program}{w:World}{tg:Expr}(a it:Addr):Turn P w K tg (zL K a) [it] it (λi h=>h.IsListIter it a i) where
 mem:=by simp
 obj:=λi h st b hb=>by
  have e:b=it:=by simpa using hb
  subst e;obtain⟨o,e,c,d⟩:=st;exact⟨o,e,λv z=>by rw[d]at z;cases z⟩
 keep:=λi h h' st k=>st.at λo e=>k it (by simp) o e
 item:=by intro X hP hw hK hc i Z_ s σ H E I hf st hg;subst hP hw hK;obtain⟨xs,x,hq,hx⟩:=hg;obtain⟨ar,rv,p,hz⟩:=I.list hq;obtain⟨u,hu,ru⟩:=rv.get hx;obtain⟨f0,f1,f2,f3,f4,f5⟩:=hf it (by simp);refine wpAny_pyNext_list_item st p.isList (x:=u) (by simpa using hu) λh' pF sb=>?_;have I1:Inv X Z_ σ H { s with heap:=h' }:=I.turned (t':=s.toks) (λb o hb e=>(sb.2 b hb).trans e) f0 f1 f3 f4 f5;obtain⟨o,e,c,d⟩:=id pF;exact⟨u,rfl,zK (s:={ s with heap:=h' }) e c d (by decide) ⟨x,H,I1,ru,⟨rfl,λys hy=>by rw[I.iR hy hq];exact hx⟩,pF,λb hb=>(hf b hb).1⟩⟩
 done:=by intro X hP hw hK hc i Z_ s σ H E I hf st hg;subst hP hw hK;obtain⟨xs,hq,hx⟩:=hg;obtain⟨ar,rv,p,hz⟩:=I.list hq;obtain⟨f0,f1,f2,f3,f4,f5⟩:=hf it (by simp);have hl:=rv.length;exact wpAny_pyNext_list_end (I.ok.hd hc) st p.isList (by simp;omega) λh' eb=>⟨rfl,I.turned (t':=s.toks) (λb o hb e=>eb b o hb e) f0 f1 f3 f4 f5⟩
 self:=λ_ _ _ _ _ st h=>wpAny_pyIter_listiter st h
theorem K0{P:Program}{w:World}{tg:Expr}(a it:Addr):Turn P w K tg (zM K a) [it] it (λi h=>h.IsTupleIter it a i) where
 mem:=by simp
 obj:=λi h st b hb=>by
  have e:b=it:=by simpa using hb
  subst e;obtain⟨o,e,c,d⟩:=st;exact⟨o,e,λv z=>by rw[d]at z;cases z⟩
 keep:=λi h h' st k=>st.at λo e=>k it (by simp) o e
 item:=by intro X hP hw hK hc i Z_ s σ H E I hf st hg;subst hP hw hK;obtain⟨xs,x,hq,hx⟩:=hg;obtain⟨ar,rv,p,hz⟩:=I.tuple hq;obtain⟨u,hu,ru⟩:=rv.get hx;obtain⟨f0,f1,f2,f3,f4,f5⟩:=hf it (by simp);refine wpAny_pyNext_tuple_item st (show s.heap.IsTuple a ar.toArray from p) (x:=u) (by simpa using hu) λh' pF sb=>?_;have I1:Inv X Z_ σ H { s with heap:=h' }:=I.turned (t':=s.toks) (λb o hb e=>(sb.2 b hb).trans e) f0 f1 f3 f4 f5;obtain⟨o,e,c,d⟩:=id pF;exact⟨u,rfl,zK (s:={ s with heap:=h' }) e c d (by decide) ⟨x,H,I1,ru,⟨rfl,λys hy=>by rw[I.gZ hy hq];exact hx⟩,pF,λb hb=>(hf b hb).1⟩⟩
 done:=by intro X hP hw hK hc i Z_ s σ H E I hf st hg;subst hP hw hK;obtain⟨xs,hq,hx⟩:=hg;obtain⟨ar,rv,p,hz⟩:=I.tuple hq;obtain⟨f0,f1,f2,f3,f4,f5⟩:=hf it (by simp);have hl:=rv.length;exact wpAny_pyNext_tuple_end (I.ok.hd hc) st (show s.heap.IsTuple a ar.toArray from p) (by simp;omega) λh' eb=>⟨rfl,I.turned (t':=s.toks) (λb o hb e=>eb b o hb e) f0 f1 f3 f4 f5⟩
 self:=λ_ _ _ _ _ st h=>wpAny_pyIter_tupleiter st h
theorem K1{P:Program}{w:World}{tg:Expr}(it:Addr)(lo:Int)(n:Nat):Turn P w K tg (xo lo n) [it] it (λi h=>IsRangeIter h it (lo+(i:Nat)*1) ((n:Int)-(i:Nat)) 1) where
 mem:=by simp
 obj:=λi h st b hb=>by
  have e:b=it:=by simpa using hb
  subst e;exact⟨_,st,λv z=>by have z':Data.fields _=Data.cell v:=z;cases z'⟩
 keep:=λi h h' st k=>k it (by simp) _ st
 item:=by intro X hP hw hK hc i Z_ s σ H E I hf st hg;subst hP hw hK;obtain⟨f0,f1,f2,f3,f4,f5⟩:=hf it (by simp);have W:=Walks.range (prog:=X.prog) (w:=X.w) (I.ok.hd hc) it lo 1 n;refine W.item i s _ _ hg st λv h' tk hv pF kk=>?_;obtain⟨t,rfl⟩:=hv;have I1:Inv X Z_ σ H { s with heap:=h',toks:=tk }:=I.turned (λb o hb e=>kk b o (by simpa using hb) e) f0 f1 f3 f4 f5;refine⟨_,rfl,zK (s:={ s with heap:=h',toks:=tk }) (n:="range_iterator") pF rfl rfl (by decide) ⟨.int (lo+i),H,I1,⟨t,?_⟩,⟨rfl,rfl⟩,pF,λb hb=>(hf b hb).1⟩⟩;rw[Int.mul_one]
 done:=by intro X hP hw hK hc i Z_ s σ H E I hf st hg;subst hP hw hK;obtain⟨f0,f1,f2,f3,f4,f5⟩:=hf it (by simp);exact wpAny_pyNext_range_end (I.ok.hd hc) st (by have:n<=i:=hg;omega) λh' eb=>⟨rfl,I.turned (t':=s.toks) (λb o hb e=>eb b o hb e) f0 f1 f3 f4 f5⟩
 self:=λ_ _ _ _ _ st h=>wpAny_pyIter_rangeiter st h
section
variable {X:Cx}{tg:Expr}
theorem K2{Z_:List (Addr×Obj)}{σ:St}{H:Hp}{s:Shared}{R:It->Hp->Prop}{E:Y0}{lo hi:Int}{t u v:Tok}{tk:Nat}(I:Inv X Z_ σ H s)(h1:-(2 ^ 62)<=lo)(h2:lo<2 ^ 62)(h3:-(2 ^ 62)<=hi)(h4:hi<2 ^ 62)
  (q:R (xo lo (hi-lo).toNat) H):wpAny (model X.prog X.w) X.A (pyIter (.ref s.heap.objs.size)) (zJ X Z_ σ tg R) E { s with heap:=s.heap.push { cls:=.type "range",data:=.fields #[.int lo t,.int hi u,.int 1 v] },toks:=tk }:=by
 refine wpAny_pyIter_range (IsRange.new ..) (small_one h1 h2 h3 h4) ?_;have I1:Inv X Z_ σ H { s with heap:=s.heap.push { cls:=.type "range",data:=.fields #[.int lo t,.int hi u,.int 1 v] },toks:=tk }:=I.kept λb o e=>Qh _ e;refine⟨(s.heap.push { cls:=.type "range",data:=.fields #[.int lo t,.int hi u,.int 1 v] }).objs.size,[(s.heap.push { cls:=.type "range",data:=.fields #[.int lo t,.int hi u,.int 1 v] }).objs.size],_,_,H,rfl,
  I1.kept (t':=tk) λb o e=>Qh _ e,K1 _ lo (hi-lo).toNat,?_,λb hb=>?_,q⟩
 .have e1:lo+((0:Nat):Int)*1=lo:=by simp
  have e2:(((hi-lo).toNat:Nat):Int)-((0:Nat):Int)=Builtin.Range.rangeSize lo hi 1:=by rw[rangeSize_one];split<;>omega
  show IsRangeIter _ _ (lo+((0:Nat):Int)*1) ((((hi-lo).toNat:Nat):Int)-((0:Nat):Int)) 1;rw[e1,e2];exact Qy _ rfl
 .have e:b=(s.heap.push { cls:=.type "range",data:=.fields #[.int lo t,.int hi u,.int 1 v] }).objs.size:=by simpa using hb
  subst e;exact I1.n8 (Qf _) (I1.aK.fresh (Qf _))
def K3 (ta:TA):TI:=λσ H R=>ta σ H λvs H1=>∃ j:Int,vs=[.int j] /\ -(2 ^ 62)<=j/\j<2 ^ 62/\R (xo 0 j.toNat) H1
theorem K4{a:Expr}{ta:TA}{p pos:Pos}(hg:Gl X "range")(hm:X.mg "range" = none)(ha:PA X [a] ta)(hs:starEach [a] X.env=[(false,eval a X.env)]:=by rfl):PI X tg (.Call (.Name "range" p) [a] [] pos) (K3 ta):=by
 intro Z_ s σ H R I h;refine Call_ (sZ I hg hm boot_range (ZA (a_ (ha pos Z_ s σ H _ I h) λus s1 ⟨vs,H1,I1,r1,q1⟩=>?_) hs rfl));obtain⟨j,e,q1,q2,q⟩:=q1;subst e;cases r1 with
 | cons r rr=>
  cases rr;obtain⟨t,rfl⟩:=r;exact call_range_1 (K2 I1 (by omega) (by omega) q1 q2 (by simpa using q))
def K5 (wi:TI)(g:TG)(tb:TS):TS:=λD σ H=>wi σ H λJ H1=>∃ W:Nat->Nat->St->Hp->Prop,(∃ m,W 0 m σ H1)/\∀ i m σ H,W i m σ H->
 (J.stop i H/\D.nx σ H)\/(J.go i H/\∃ N:St->Hp->Prop,(∀ aP H',N aP H'->∃ m',m'<m/\W (i+1) m' aP H')/\∀ x H',J.pE i H x H'->g x σ H' λqI H2=>tb { D with nx:=N,ct:=N,bk:=D.nx } qI H2)
def k6 (fp:List Addr)(h:Heap):List (Addr×Obj):=fp.filterMap λb=>(h.get? b).map λo=>(b,o)
theorem s_{h:Heap}{b:Addr}{o:Obj}(hb:b∈fp)(e:h.get? b=some o):(b,o)∈k6 fp h:=Jh.mpr ⟨b,hb,by rw[e];rfl⟩
theorem zN{h:Heap}{p:Addr×Obj}(hp:p∈k6 fp h):p.1∈fp/\h.get? p.1=some p.2:=by
 obtain⟨b,hb,e⟩:=Jh.mp hp;cases q:h.get? b with
 | none=>rw[q]at e;cases e
 | some o=>
  rw[q]at e;have e':(b,o)=p:=QM e;subst e';exact⟨hb,q⟩
theorem Inv.pinned{Z_:List (Addr×Obj)}{σ:St}{H:Hp}{s:Shared}(I:Inv X Z_ σ H s)(hf:∀ b∈fp,jX X Z_ H b)(ho:∀ b∈fp,∃ o,s.heap.get? b=some o/\∀ v,o.data ≠ .cell v):Inv X (Z_++k6 fp s.heap) σ H s:=
 I.dW λp hp=>(QL.mp hp).elim (λz=>I.pin p (Qg _ z)) λz=>by obtain⟨hb,e⟩:=zN z;obtain⟨f0,f1,f2,_⟩:=hf p.1 hb;obtain⟨o,e',d⟩:=ho p.1 hb;rw[e]at e';cases e';exact⟨e,f0,f1,f2,d⟩
theorem Inv.dO{Z_ pl:List (Addr×Obj)}{σ:St}{H:Hp}{s:Shared}(I:Inv X (Z_++pl) σ H s):Inv X Z_ σ H s:=I.dW λp hp=>I.pin p (Qg _ (QW _ hp))
theorem K6{iter:Expr}{wi:TI}{g:TG}{tb:TS}{pos:Pos}(hp:PassesOwn (model X.prog X.w) X.A X.env X.xe)(hc:X.calm=true)(hi:PI X tg iter wi)(hg:PG X tg g)(hb:gL X body tb)
  (hs:∀ x,foldedSetIterable iter X.env x=pure x:=by intro _;rfl):PS X (.For tg iter body [] pos) (K5 wi g tb):=by
 intro Z_ s σ H D I h;refine wpAny_For (a_ (hi Z_ s σ H _ I h) λv s1 h1=>a_ h1 λuH s2 h2=>?_) hs;obtain⟨it,fp,tn,J,H2,e,I2,T,kC,f2,W,⟨m0,w0⟩,turn⟩:=h2;subst e;have fW:∀ {H':Hp},(∀ b∈fp,H' b=none)->∀ b∈fp,jX X Z_ H' b:=λhn b hb=>⟨hn b hb,(f2 b hb).2⟩;refine codeAny_forLoop_any (λn s'=>∃ i aP H',Inv X Z_ aP H' s'/\tn i s'.heap/\(∀ b∈fp,H' b=none)/\W i n aP H') ?_ m0 ⟨0,σ,H2,I2,kC,λb hb=>(f2 b hb).1,w0⟩;rintro n s3 ⟨i,uI,H3,I3,pG,DB,w3⟩;rcases turn i n uI H3 w3 with⟨stop,qn⟩|⟨go,N,hN,step⟩
 .refine Jf hp (a_ (T.done X rfl rfl rfl hc i Z_ s3 uI H3 X.xe I3 (fW DB) pG stop) λr s4 ⟨hr,I4⟩=>?_);subst hr;exact JB ⟨uI,H3,I4,qn⟩
 .refine Jf hp (a_ (T.item X rfl rfl rfl hc i Z_ s3 uI H3 X.xe I3 (fW DB) pG go) λr s4 ⟨u,hr,h4⟩=>?_);subst hr;refine Jf hp (a_ h4 λ_ s5 ak=>?_);obtain⟨x,H5,I5,r5,y5,lL,uJ⟩:=ak;have uK:=I5.pinned (fW uJ) (T.obj _ _ lL);refine Jf hp (a_ (hg _ s5 uI H5 x u _ uK r5 (step x H5 y5)) λ_ s6 ak=>?_);obtain⟨zO,H6,I6,q6⟩:=ak;refine Jf hp (a_ (hb _ s6 zO H6 _ I6 q6) λf s7 q7=>?_);have again:∀ {lM:St} {H7:Hp},Inv X (Z_++k6 fp s5.heap) lM H7 s7->N lM H7->∃ m,m<n/\∃ i aP H',Inv X Z_ aP H' s7/\tn i s7.heap/\(∀ b∈fp,H' b=none)/\W i m aP H':=λ{lM H7} I7 n7=>by obtain⟨m',hm,w7⟩:=hN lM H7 n7;refine⟨m',hm,i+1,lM,H7,I7.dO,T.keep _ _ _ lL λb hb o e=>(I7.pin (b,o) (Qg _ (Qg _ (s_ hb e)))).1,λb hb=>?_,w7⟩;obtain⟨o,e,d⟩:=T.obj _ _ lL b hb;exact(I7.pin (b,o) (Qg _ (Qg _ (s_ hb e)))).2.1
  cases f with
  | next=>obtain⟨lM,H7,I7,n7⟩:=q7;exact again I7 n7
  | cont=>obtain⟨lM,H7,I7,n7⟩:=q7;exact again I7 n7
  | brk=>obtain⟨lM,H7,I7,q7⟩:=q7;exact⟨lM,H7,I7.dO,q7⟩
  | ret v=>obtain⟨x7,lM,H7,I7,r7,q7⟩:=q7;exact⟨x7,lM,H7,I7.dO,r7,q7⟩
end
abbrev R2:=V->V->Hp->VK->Prop
def cN (X:Cx)(f:Value->Value->Sem Value)(r:R2):Prop:=
 ∀ (Z_:List (Addr×Obj)) (s:Shared) (σ:St) (H:Hp) (x y:V) (v u:Value) (Q:VK),Inv X Z_ σ H s->cE x v->cE y u->r x y H Q->
  wpAny (model X.prog X.w) X.A (f v u) (EP X Z_ σ Q) X.xe s
def zP (X:Cx)(f:Value->Sem Value)(r:V->Hp->VK->Prop):Prop:=
 ∀ (Z_:List (Addr×Obj)) (s:Shared) (σ:St) (H:Hp) (x:V) (v:Value) (Q:VK),Inv X Z_ σ H s->cE x v->r x H Q->
  wpAny (model X.prog X.w) X.A (f v) (EP X Z_ σ Q) X.xe s
def jy (X:Cx)(f:Value)(r:List V->Hp->VK->Prop):Prop:=
 ∀ (Z_:List (Addr×Obj)) (s:Shared) (σ:St) (H:Hp) (xs:List V) (us:List Value) (Q:VK),Inv X Z_ σ H s->bf xs us->r xs H Q->
  wpAny (model X.prog X.w) X.A (call f us) (EP X Z_ σ Q) X.xe s
def K7 (X:Cx)(r:V->Hp->(Bool->Hp->Prop)->Prop):Prop:=
 ∀ (Z_:List (Addr×Obj)) (s:Shared) (σ:St) (H:Hp) (x:V) (v:Value) (Q:Bool->Hp->Prop),Inv X Z_ σ H s->cE x v->r x H Q->
  wpAny (model X.prog X.w) X.A (truthy v) (TP X Z_ σ Q) X.xe s
def iS (r:R2)(ta tb:TE):TE:=λσ H Q=>ta σ H λx H1=>tb σ H1 λy H2=>r x y H2 Q
def K8 (r:V->Hp->VK->Prop)(ta:TE):TE:=λσ H Q=>ta σ H λx H1=>r x H1 Q
def rI (C:Int->Int->Prop)(g:Int->Int->V):R2:=λx y H Q=>∃ i j,x=.int i/\y=.int j/\C i j/\Q (g i j) H
def kD (g:Int->Int->V):R2:=λx y H Q=>∃ i j,x=.int i/\y=.int j/\Q (g i j) H
def rU (g:Int->V):V->Hp->VK->Prop:=λx H Q=>∃ i,x=.int i/\Q (g i) H
section
variable {X:Cx}{a b c:Expr}{ta tb tc:TE}{pos:Pos}
theorem zQ(ha:PE X a ta)(hb:PE X b tb){Z_:List (Addr×Obj)}{s:Shared}{σ:St}{H:Hp}{R:V->V->Hp->Prop}(I:Inv X Z_ σ H s)
  (h:ta σ H λx H1=>tb σ H1 λy H2=>R x y H2) {Q:Y0} {f:Value->Value->Sem Value}
  (hf:∀ v u s2 x y H2,Inv X Z_ σ H2 s2->cE x v->cE y u->R x y H2->wpAny (model X.prog X.w) X.A (f v u) Q X.xe s2) :
  wpAny (model X.prog X.w) X.A (eval a X.env) (λv aT=>wpAny (model X.prog X.w) X.A (eval b X.env) (λu ig=>wpAny (model X.prog X.w) X.A (f v u) Q X.xe ig) X.xe aT) X.xe s:=by refine a_ (ha Z_ s σ H _ I h) λv s1 ak=>?_;obtain⟨x,H1,I1,r1,q1⟩:=ak;refine a_ (hb Z_ s1 σ H1 _ I1 q1) λu s2 ak=>?_;obtain⟨y,H2,I2,r2,q2⟩:=ak;exact hf v u s2 x y H2 I2 r1 r2 q2
theorem nk{op:Operator}{r:R2}(ho:cN X (binaryOp op) r)(ha:PE X a ta)(hb:PE X b tb):PE X (.BinOp a op b pos) (iS r ta tb):=by intro Z_ s σ H Q I h;exact wpAny_BinOp (zQ ha hb I h λv u s2 x y H2 I2 rx ry q=>ho Z_ s2 σ H2 x y v u Q I2 rx ry q)
theorem K9{op:UnaryOp}{r:V->Hp->VK->Prop}(ho:zP X (unaryOp op) r)(ha:PE X a ta):PE X (.UnaryOp op a pos) (K8 r ta):=by intro Z_ s σ H Q I h;exact UnaryOp_ (a_ (ha Z_ s σ H _ I h) λv s1 ⟨x,H1,I1,r1,q1⟩=>ho Z_ s1 σ H1 x v Q I1 r1 q1)
theorem xp{f:Value->Value->Sem Value}{C:Int->Int->Prop}
  (rule:∀ (i j:Int) (t u:Tok) (s:Shared) (Q:Y0) (E:Y0),C i j->Q (.int (g i j) s.toks) { s with toks:=s.toks+1 }->wpAny (model X.prog X.w) X.A (f (.int i t) (.int j u)) Q E s) :
  cN X f (rI C λi j=>.int (g i j)):=by intro Z_ s σ H x y v u Q I rx ry h;obtain⟨i,j,rfl,rfl,hc,q⟩:=h;obtain⟨t,rfl⟩:=rx;obtain⟨t',rfl⟩:=ry;exact rule i j t t' s _ _ hc ⟨.int (g i j),H,I.tok _,⟨_,rfl⟩,q⟩
theorem K_{f:Value->Value->Sem Value}
  (rule:∀ (i j:Int) (t u:Tok) (s:Shared) (Q:Y0) (E:Y0),Q (.int (g i j) s.toks) { s with toks:=s.toks+1 }->wpAny (model X.prog X.w) X.A (f (.int i t) (.int j u)) Q E s) :
  cN X f (kD λi j=>.int (g i j)):=by intro Z_ s σ H x y v u Q I rx ry h;obtain⟨i,j,rfl,rfl,q⟩:=h;obtain⟨t,rfl⟩:=rx;obtain⟨t',rfl⟩:=ry;exact rule i j t t' s _ _ ⟨.int (g i j),H,I.tok _,⟨_,rfl⟩,q⟩
theorem zR{f:Value->Value->Sem Value}{g:Int->Int->Bool}
  (rule:∀ (i j:Int) (t u:Tok) (s:Shared) (Q:Y0) (E:Y0),Q (.bool (g i j)) s->wpAny (model X.prog X.w) X.A (f (.int i t) (.int j u)) Q E s) :
  cN X f (kD λi j=>.bl (g i j)):=by intro Z_ s σ H x y v u Q I rx ry h;obtain⟨i,j,rfl,rfl,q⟩:=h;obtain⟨t,rfl⟩:=rx;obtain⟨t',rfl⟩:=ry;exact rule i j t t' s _ _ ⟨.bl (g i j),H,I,rfl,q⟩
def La (i j:Int):Prop:=0<j/\j<1073741824
def Lb (i j:Int):Prop:=0<=j/\j<=1000000/\i.natAbs<2 ^ 64
def zS (i j:Int):Prop:=(-(2 ^ 64)<i/\i<2 ^ 64)\/(-(2 ^ 64)<j/\j<2 ^ 64)
theorem zS.ok{i j:Int}(h:zS i j):IntMulOk i j:=by
 rcases h with⟨h1,h2⟩|⟨h1,h2⟩
 .exact .of_left (intBits_le_64 h1 h2)
 .exact .of_right (intBits_le_64 h1 h2)
theorem Lc:cN X (binaryOp .Add) (kD λi j=>.int (i+j)):=K_ λ_ _ _ _ _ _ _ q=>add_int q
theorem Ld:cN X (binaryOp .Mult) (rI zS λi j=>.int (i*j)):=xp λ_ _ _ _ _ _ _ hc q=>mul_int q hc.ok
theorem Le:cN X (binaryOp .FloorDiv) (rI La λi j=>.int (i / j)):=xp λi j _ _ _ _ _ hc q=>by have h1:(0:Int)<j:=hc.1;have h2:j<1073741824:=hc.2;exact floordiv_int (by omega) (by rw[Int.fdiv_eq_ediv_of_nonneg i (by omega)];exact q) (.inl (PyProof.noPylong_small (by omega)))
theorem Lf:cN X (binaryOp .Mod) (rI (λ_ j=>0<j) λi j=>.int (i % j)):=xp λi j _ _ _ _ _ hc q=>by have h1:(0:Int)<j:=hc;exact mod_int' (by omega) (by rw[Int.fmod_eq_emod_of_nonneg i (by omega)];exact q)
theorem Lg:cN X (binaryOp .Pow) (rI Lb λi j=>.int (i ^ j.toNat)):=xp λ_ _ _ _ _ _ _ hc q=>pow_int_small hc.1 hc.2.1 hc.2.2 q
theorem Lh{f:Value->Sem Value}{g:Int->Int}
  (rule:∀ (i:Int) (t:Tok) (s:Shared) (Q:Y0) (E:Y0),Q (.int (g i) s.toks) { s with toks:=s.toks+1 }->wpAny (model X.prog X.w) X.A (f (.int i t)) Q E s) :
  zP X f (rU λi=>.int (g i)):=by intro Z_ s σ H x v Q I rx h;obtain⟨i,rfl,q⟩:=h;obtain⟨t,rfl⟩:=rx;exact rule i t s _ _ ⟨.int (g i),H,I.tok _,⟨_,rfl⟩,q⟩
theorem Li:zP X (unaryOp .USub) (rU λi=>.int (-i)):=Lh λ_ _ _ _ _ q=>neg_int q
theorem Lj{Z_:List (Addr×Obj)}{σ:St}{H:Hp}{s:Shared}{Q:VK}{k k':Bool}(I:Inv X Z_ σ H s)(q:Q (.bl k) H)(e:k=k'):EP X Z_ σ Q (.bool k') s:=by subst e;exact⟨.bl k,H,I,rfl,q⟩
theorem DC:cN X (compareOp .Lt) (kD λi j=>.bl (decide (i<j))):=zR λ_ _ _ _ _ _ _ q=>lt_int q
theorem uM:cN X (compareOp .LtE) (kD λi j=>.bl (decide (i<=j))):=zR λ_ _ _ _ _ _ _ q=>le_int q
theorem Lk:cN X (compareOp .Gt) (kD λi j=>.bl (decide (j<i))):=zR λ_ _ _ _ _ _ _ q=>gt_int q
theorem DD:cN X (compareOp .Is) (λx y H Q=>y=.aO/\Q (.bl (decide (x=.aO))) H):=by
 intro Z_ s σ H x y v u Q I rx ry h;obtain⟨rfl,q⟩:=h;cases ry;refine is_none_gen (Lj I q ?_);cases x<;>first
  | (cases rx;rfl)
  | (obtain⟨t,rfl⟩:=rx;rfl)
theorem cN.or{f:Value->Value->Sem Value}{r r':R2}(h:cN X f r)(h':cN X f r'):cN X f (λx y H Q=>r x y H Q\/r' x y H Q):=by
 intro Z_ s σ H x y v u Q I rx ry q;rcases q with q|q
 .exact h Z_ s σ H x y v u Q I rx ry q
 .exact h' Z_ s σ H x y v u Q I rx ry q
theorem qJ(b:Expr)(h:op ≠ .In:=by decide)(h2:op ≠ .NotIn:=by decide):behindInMarks op b=false:=by
 have e1:(op==CmpOp.In)=false:=by cases op<;>first|rfl|exact absurd rfl h
 have e2:(op==CmpOp.NotIn)=false:=by cases op<;>first|rfl|exact absurd rfl h2
 cases b<;>simp[behindInMarks,e1,e2]
theorem Ll{r:R2}(ho:cN X (compareOp op) r)(ha:PE X a ta)(hb:PE X b tb)(hm:behindInMarks op b=false):PE X (.Compare a [op] [b] pos) (iS r ta tb):=by intro Z_ s σ H Q I h;exact wpAny_Compare1 (zQ ha hb I h λv u s2 x y H2 I2 rx ry q=>ho Z_ s2 σ H2 x y v u Q I2 rx ry q) hm
def zT (t:TE):TT:=λσ H Q=>t σ H λx H'=>∃ k,x=.bl k/\Q k H'
theorem Lm{r:R2}(ho:cN X (compareOp op) r)(ha:PE X a ta)(hb:PE X b tb)(hm:behindInMarks op b=false):PT X (.Compare a [op] [b] pos) (zT (iS r ta tb)):=by
 intro Z_ s σ H Q I h;refine wpAny_isTrue_Compare1 (a_ (ha Z_ s σ H _ I h) λv s1 ⟨x,H1,I1,r1,q1⟩=>a_ (hb Z_ s1 σ H1 _ I1 q1) λu s2 ⟨y,H2,I2,r2,q2⟩=>
  a_ (ho Z_ s2 σ H2 x y v u _ I2 r1 r2 q2) λc s3 ⟨z,H3,I3,r3,k,e,q3⟩=>?_) hm
 subst e;cases r3;exact Zk ⟨H3,I3,q3⟩
def DE (r r':R2)(ta tb tc:TE):TE:=λσ H Q=>ta σ H λx H1=>tb σ H1 λy H2=>r x y H2 λz H3=>∃ k,z=.bl k /\
 (if k=true then tc σ H3 λw' H4=>r' y w' H4 Q else Q (.bl false) H3)
theorem Ln{r r':R2}(ho:cN X (compareOp op) r)(gK:cN X (compareOp ky) r')(ha:PE X a ta)(hb:PE X b tb)(hc:PE X c tc)
  (hm:lastMarks [op,ky] [b,c]=false:=by with_unfolding_all rfl):PE X (.Compare a [op,ky] [b,c] pos) (DE r r' ta tb tc):=by
 intro Z_ s σ H Q I h;refine Compare_chain (a_ (ha Z_ s σ H _ I h) λv s1 ⟨x,H1,I1,r1,q1⟩=>chain_link (a_ (hb Z_ s1 σ H1 _ I1 q1) λu s2 ⟨y,H2,I2,r2,q2⟩=>
  a_ (ho Z_ s2 σ H2 x y v u _ I2 r1 r2 q2) λd s3 ⟨z,H3,I3,r3,k,e,q3⟩=>?_)) hm
 subst e;cases r3;refine Zk ?_;cases k with
 | false=>exact ite_ff ⟨.bl false,H3,I3,rfl,q3⟩
 | true=>exact ite_tt (chain_last (a_ (hc Z_ s3 σ H3 _ I3 q3) λw' s4 ⟨z',H4,I4,r4,q4⟩=>gK Z_ s4 σ H4 y z' u w' Q I4 r2 r4 q4))
theorem Lo{r r':R2}(ho:cN X (compareOp op) r)(gK:cN X (compareOp ky) r')(ha:PE X a ta)(hb:PE X b tb)(hc:PE X c tc)
  (hm:lastMarks [op,ky] [b,c]=false:=by with_unfolding_all rfl):PT X (.Compare a [op,ky] [b,c] pos) (zT (DE r r' ta tb tc)):=by
 intro Z_ s σ H Q I h;refine isTrue_chain (a_ (ha Z_ s σ H _ I h) λv s1 ⟨x,H1,I1,r1,q1⟩=>test_link (a_ (hb Z_ s1 σ H1 _ I1 q1) λu s2 ⟨y,H2,I2,r2,q2⟩=>
  a_ (ho Z_ s2 σ H2 x y v u _ I2 r1 r2 q2) λd s3 ⟨z,H3,I3,r3,k,e,q3⟩=>?_)) hm
 subst e;cases r3;refine Zk ?_;cases k with
 | false=>
  obtain⟨k',e',q'⟩:=q3;cases e';exact ite_ff ⟨H3,I3,q'⟩
 | true=>
  refine ite_tt (test_last (a_ (hc Z_ s3 σ H3 _ I3 q3) λw' s4 ⟨z',H4,I4,r4,q4⟩=>a_ (gK Z_ s4 σ H4 y z' u w' _ I4 r2 r4 q4) λd' s5 ak=>?_));obtain⟨z2,H5,I5,r5,k2,e2,q5⟩:=ak;subst e2;cases r5;exact Zk ⟨H5,I5,q5⟩
def DF (K:PySem.W.Frag)(x:V)(H:Hp)(k:Bool):Prop:=
 match x with
 | .aO=>k=false
 | .bl b=>k=b
 | .int i=>k=(i != 0)
 | .str y=>y.length<=sizeLine/\k=((y.length:Int) != 0)
 | .uv y=>y.size<=sizeLine/\k=((y.size:Int) != 0)
 | .ref p=>(∃ xs,cM K H p xs/\k = !xs.isEmpty)\/(∃ xs,dv K H p xs/\k = !xs.isEmpty)\/∃ cL,H p=some (.dK cL)/\k = !cL.isEmpty
 | _=>False
theorem Lp{κ:Type}{cL:List (κ×V)}{vs:List (κ×Value)}(r:KV cL vs):(!vs.isEmpty) = !cL.isEmpty:=by cases r<;>rfl
theorem DG{xs:List V}{ar:List Value}(r:bf xs ar):(!ar.toArray.isEmpty) = !xs.isEmpty:=by cases r<;>simp
theorem qK:(sizeLine:Nat)<2 ^ 63:=by rw[Jy];decide
theorem Lq:K7 X (λx H Q=>∃ k,DF X.K x H k/\Q k H):=by
 intro Z_ s σ H x v Q I rx h;obtain⟨k,e,q⟩:=h;have hl:=qK;have hs:sizeLine=16777216:=Jy;cases x with
 | aO=>
  cases rx;have e':k=false:=e;subst e';exact truthy_none ⟨H,I,q⟩
 | bl b=>
  cases rx;have e':k=b:=e;subst e';exact Zk ⟨H,I,q⟩
 | int i=>
  obtain⟨t,rfl⟩:=rx;have e':k=(i != 0):=e;subst e';exact PySem.P.truthy_int ⟨H,I,q⟩
 | str y=>
  obtain⟨t,rfl⟩:=rx;obtain⟨hy,e'⟩:y.length<=sizeLine/\k=((y.length:Int) != 0):=e;subst e';exact PySem.P.truthy_str (by omega) ⟨H,I.tok _,q⟩
 | uv y=>
  obtain⟨t,rfl⟩:=rx;obtain⟨hy,e'⟩:y.size<=sizeLine/\k=((y.size:Int) != 0):=e;subst e';exact W.truthy_bytes (by omega) ⟨H,I.tok _,q⟩
 | ref p=>
  cases rx;have e':(∃ xs,cM X.K H p xs/\k = !xs.isEmpty)\/(∃ xs,dv X.K H p xs/\k = !xs.isEmpty)\/∃ cL,H p=some (.dK cL)/\k = !cL.isEmpty:=e;rcases e' with⟨xs,hx,e'⟩|⟨xs,hx,e'⟩|⟨cL,hx,e'⟩
  .subst e';obtain⟨ar,r,pl,hz⟩:=I.list hx;have hlen:=r.length;exact wpAny_truthy_list pl.isList (by simp only[Qi];omega) ⟨H,I.tok _,by rw[DG r];exact q⟩
  .subst e';obtain⟨ar,r,pl,hz⟩:=I.tuple hx;have hlen:=r.length;exact truthy_tuple pl (by simp only[Qi];omega) ⟨H,I.tok _,by rw[DG r];exact q⟩
  .subst e';obtain⟨hz,hS,vs,r,m⟩:cL.length<=sizeLine/\(p==sysModules)=false/\∃ vs,KV cL vs/\s.heap.DictOf (zv X.prog X.w) p vs:=I.aK p _ hx;have hlen:cL.length=vs.length:=Paired.length r;exact wpAny_truthy_dict hS m (by omega) ⟨H,I.tok _,by rw[Lp r];exact q⟩
 | _=>exact(show False from e).elim
theorem Lr(ha:PE X a ta)(he:∀ whole,isTrue a X.env whole=(do let v <- whole;standAt a.pos;holding [v] (truthy v))) :
  PT X a (λσ H Q=>ta σ H λx H'=>∃ k,DF X.K x H' k/\Q k H'):=by intro Z_ s σ H Q I h;exact isTrue_plain (a_ (ha Z_ s σ H _ I h) λv s1 ⟨x,H1,I1,r1,q1⟩=>Lq Z_ s1 σ H1 x v Q I1 r1 q1) (he _)
theorem Ls:cN X (binaryOp .Add) (λx y H Q=>∃ i j,x=.str i/\y=.str j/\i.length+j.length<=sizeLine/\Q (.str (i++j)) H):=by intro Z_ s σ H x y v u Q I rx ry h;obtain⟨i,j,rfl,rfl,hz,q⟩:=h;obtain⟨t,rfl⟩:=rx;obtain⟨t',rfl⟩:=ry;exact add_str (λt' tk=>⟨.str (i++j),H,I.tok _,⟨_,rfl⟩,q⟩) hz
theorem lN{x:V}(r:bf [x] us):∃ u,us=[u]/\cE x u:=by
 cases r with
 | cons r1 r2=>cases r2;exact⟨_,rfl,r1⟩
theorem xq{x y:V}(r:bf [x,y] us):∃ u w',us=[u,w']/\cE x u/\cE y w':=by
 cases r with
 | cons r1 r2=>
  cases r2 with
  | cons r3 r4=>cases r4;exact⟨_,_,rfl,r1,r3⟩
theorem Lu(hc:X.calm=true):jy X (.builtin "max") (λxs H Q=>∃ i j,xs=[.int i,.int j]/\Q (.int (if j > i then j else i)) H):=by
 intro Z_ s σ H xs us Q I r h;obtain⟨i,j,rfl,q⟩:=h;obtain⟨u,w',rfl,⟨t,rfl⟩,⟨t',rfl⟩⟩:=xq r;refine max_two_ints (I.ok.hd hc) λh' tk k=>⟨_,H,I.kept k,?_,q⟩;by_cases hj:j > i
 .rw[Qk hj,Qk hj];exact⟨_,rfl⟩
 .rw[Qw hj,Qw hj];exact⟨_,rfl⟩
theorem Lv:jy X (.type "str") (λxs H Q=>∃ i,xs=[.int i]/\i.natAbs.log2<1920/\Q (.str (toString i)) H):=by intro Z_ s σ H xs us Q I r h;obtain⟨i,rfl,hz,q⟩:=h;obtain⟨u,rfl,t,rfl⟩:=lN r;exact PySem.P.str_of_int hz ⟨.str _,H,I.tok _,⟨_,rfl⟩,q⟩
end
structure qL (h:Heap) (x dx C:Addr) (mA:Str->Option Value):Prop where
 obj:h.get? x=some (W.instObj C dx)
 ns:h.Ns1 dx mA
 ne:dx≠x
theorem Lw{h:Heap}{dx:Addr}(n:h.Ns1 dx mA):∃ od,h.get? dx=some od/\∀ name,W.lookIn name od=some (mA name):=by
 obtain⟨o,es,ep,ho,hd,hk,_,hm⟩:=n;refine⟨o,ho,λname=>?_⟩;have e:=hm name;unfold nsFind findBy at e;rw[<- Array.find?_toList]at e;unfold W.lookIn;rw[hd];dsimp only;split;next y q=>
  rw[q]at e;exact Zr some e
 next q=>
  rw[q]at e;have a:es.toList.any (·.refKey)=false:=by rw[List.any_eq_false];intro y hy;obtain⟨z,t,zU⟩:=hk y (Array.mem_toList_iff.mp hy);simp[DictEntry.refKey,zU]
  have a':¬ es.toList.any (·.refKey)=true:=by rw[a];exact ZC
  rw[Qw a'];exact Zr some e
theorem qL.look{h:Heap}{x dx C:Addr}(I:qL h x dx C mA):∃ od,PySem.W.InstAt h x (W.instObj C dx) C (some od)/\∀ name,W.lookIn name od=some (mA name):=
 let ⟨od,ho,hl⟩:=Lw I.ns
 ⟨od,⟨I.obj,rfl,rfl,ho⟩,hl⟩
section
variable {P:Program}{w:World}{H H':Hp}{h h':Heap}{a C dx:Addr}{fs I_:List (Str×V)}
theorem Lx(aK:dN P w H h)(e:H a=some (.ins C dx fs)):∃ mA,qL h a dx C mA/\(∀ f,zw (fs.lookup f) (mA f))/\PySem.Within mA (fs.map (·.1))/\fs.length<=1000/\H dx=some (.own a):=by obtain⟨d,z,ne,ob,mA,n,r,q⟩:=(show d7 P w H h a (.ins C dx fs)from aK a _ e);exact⟨mA,⟨ob,n,ne⟩,r,q,z,d⟩
end
structure xt (K:PySem.W.Frag) (C:Addr):Prop where
 pg:W.plainGet K C Str.empty=true
 hd:W.hasDictIn K C=true
 po:W.plainOver K C=true
 sa:W.findIn K (.ref C) "__setattr__" = some (some (.builtin "object.__setattr__"))
theorem xt.get{C:Addr}(c:xt K C)(f:Str):W.plainGet K C f=true:=c.pg
def Ly (K:PySem.W.Frag)(C:Addr)(f:Str):Prop:=W.findIn K (.ref C) f=some none
section
variable {X:Cx}{Z_:List (Addr×Obj)}{σ:St}{H:Hp}{s:Shared}{A:Around}{E:Y0}{Q:Y0}{c:Value}{b:Bool}
inductive fN (K:PySem.W.Frag) (H:Hp):V->Value->Prop where
 | aO:fN K H .aO (.type "NoneType")
 | bl (x:Bool):fN K H (.bl x) (.type "bool")
 | int (i:Int):fN K H (.int i) (.type "int")
 | str (x:Str):fN K H (.str x) (.type "str")
 | sT (x:UInt64):fN K H (.sT x) (.type "float")
 | lst {a:Addr} {xs:List V} (e:H a=some (.lst xs)):fN K H (.ref a) (.type "list")
 | fF {a:Addr} {o:Obj} {xs:List V} (e:H a=some (.fF o (.lst xs))):fN K H (.ref a) (.type "list")
 | tup {a:Addr} {xs:List V} (e:H a=some (.tup xs)):fN K H (.ref a) (.type "tuple")
 | dK {a:Addr} {cL:List (Key×V)} (e:H a=some (.dK cL)):fN K H (.ref a) (.type "dict")
 | dT {a:Addr} {cL:List (List Key×V)} (e:H a=some (.dT cL)):fN K H (.ref a) (.type "dict")
 | ins {a C dx:Addr} {fs:List (Str×V)} (e:H a=some (.ins C dx fs)) (cl:xt K C) (ha:W.findIn K (.ref C) "__class__" = some (some (.builtin "object.__class__")))
   (hn:W.specialIn K (.builtin "object.__class__") "__get__" = some (some (.builtin "getset_descriptor.__get__"))) (uN:W.takesIn K (.builtin "object.__class__")=some true)
   (hm:W.mroIn K C (.type "object")=some true):fN K H (.ref a) (.ref C)
theorem iT{x:V}{u t:Value}(I:Inv X Z_ σ H s)(rx:cE x u)(ty:fN X.K H x t)(e:W.kitOne X.K t c=some b)(h:∀ tk,Q (.bool b) { s with toks:=tk }) :
  wpAny (model X.prog X.w) A (call (.builtin "isinstance") [u,c]) Q E s:=by
 cases ty with
 | aO=>cases (show u=Value.none from rx);exact Q4 W.kitx_none I.fu True.intro e (λz=>nomatch z) h
 | bl y=>cases (show u=Value.bool y from rx);exact Q4 W.kitx_bool I.fu True.intro e (λz=>nomatch z) h
 | int i=>obtain⟨t,q⟩:=(show ∃ t,u=Value.int i t from rx);cases q;exact Q4 W.kitx_int I.fu True.intro e (λz=>nomatch z) h
 | str y=>obtain⟨t,q⟩:=(show ∃ t,u=Value.str y t from rx);cases q;exact Q4 W.kitx_str I.fu True.intro e (λz=>nomatch z) h
 | sT y=>obtain⟨t,q⟩:=(show ∃ t,u=Value.float y t from rx);cases q;exact Q4 W.kitx_float I.fu True.intro e (λz=>nomatch z) h
 | @lst a xs ea=>
  cases (show u=Value.ref a from rx);obtain⟨_,_,n,_,h1⟩:=(show d7 X.prog X.w H s.heap a (.lst xs)from I.aK a _ ea);exact Q4 J6 I.fu ⟨_,h1,rfl⟩ e (λz=>nomatch z) h
 | @fF a ob xs ea=>
  cases (show u=Value.ref a from rx);obtain⟨_,_,_,n,_,h1⟩:=(show d7 X.prog X.w H s.heap a (.fF ob (.lst xs))from I.aK a _ ea);exact Q4 J6 I.fu ⟨_,h1,rfl⟩ e (λz=>nomatch z) h
 | @tup a xs ea=>
  cases (show u=Value.ref a from rx);obtain⟨_,_,_,p⟩:=(show d7 X.prog X.w H s.heap a (.tup xs)from I.aK a _ ea);obtain⟨o,h1,h2,_⟩:=p;exact Q4 W.kitx_tuple I.fu ⟨o,h1,h2⟩ e (λz=>nomatch z) h
 | @dK a cL ea=>
  cases (show u=Value.ref a from rx);obtain⟨_,_,vs,_,p⟩:=(show d7 X.prog X.w H s.heap a (.dK cL)from I.aK a _ ea);obtain⟨o,es,ep,h1,h2,_⟩:=p;exact Q4 W.kitx_dict I.fu ⟨o,h1,h2.1⟩ e (λz=>nomatch z) h
 | @dT a cL ea=>
  cases (show u=Value.ref a from rx);obtain⟨_,_,xs,_,o,es,ep,h1,h2,_⟩:=(show d7 X.prog X.w H s.heap a (.dT cL)from I.aK a _ ea);exact Q4 W.kitx_dict I.fu ⟨o,h1,h2.1⟩ e (λz=>nomatch z) h
 | @ins a C dx fs ea cl ha hn uN hm=>
  cases (show u=Value.ref a from rx);obtain⟨mA,O,_⟩:=Lx I.aK ea;obtain⟨od,J,_⟩:=O.look;exact Q4 (W.kitx_own (cl.get _) cl.hd ha hn uN hm) I.fu J e (λz=>nomatch z) h
end
structure bc (k:Nat) (A:Around):Prop where
 hd:A.handled=none
 dp:A.depth+3*k+5<recursionLimit
 un:A.units+16*k+200<cLine
theorem bc.mono{k:Nat}{A:Around}(r:bc k A)(h:j<=k):bc j A:=⟨r.hd,by have:=r.dp;omega,by have:=r.un;omega⟩
theorem bc.deeper{k:Nat}{A:Around}(r:bc (k+1) A)(env:Env):bc k (A.deeper env):=
 ⟨r.hd,by have:=r.dp;show A.depth+1+3*k+5<_;omega,by have:=r.un;show A.units+3+16*k+200<_;omega⟩
theorem bc.depth{k:Nat}{A:Around}(r:bc k A):A.depth<recursionLimit:=by have:=r.dp;omega
theorem bc.units{k:Nat}{A:Around}(r:bc k A):A.units+64<cLine:=by have:=r.un;omega
def DH:TA:=λ_ H Q=>Q [] H
def DI (ta:TE)(tr:TA):TA:=λσ H Q=>ta σ H λx H1=>tr σ H1 λxs H2=>Q (x::xs) H2
section
variable {X:Cx}{e:Expr}{es:List Expr}{te:TE}{t:TA}{pos:Pos}
theorem n9:PA X [] DH:=λ_ _ _ _ H Q I h=>J9 ⟨[],H,I,.nil,h⟩
theorem kE(ha:PE X e te)(hr:PA X es t)(hs:starEach (e::es) X.env=(false,eval e X.env)::starEach es X.env:=by rfl):PA X (e::es) (DI te t):=by intro pos Z_ s σ H Q I h;rw[hs];show wpAny _ _ (spliced ((false,eval e X.env)::backTo pos (starEach es X.env))) _ _ s;refine JP (a_ (ha Z_ s σ H _ I h) λu s1 ak=>?_);obtain⟨x,H1,I1,r1,q1⟩:=ak;exact a_ (hr pos Z_ s1 σ H1 _ I1 q1) λus s2 ⟨xs,H2,I2,r2,q2⟩=>⟨x::xs,H2,I2,.cons r1 r2,q2⟩
def Lz (t:TA):TE:=λσ H Q=>t σ H λxs H1=>xs.length<=sizeLine/\∀ p,H1 p=none->Q (.ref p) (upd H1 p (.tup xs))
def LA (t:TA):TE:=λσ H Q=>t σ H λxs H1=>xs.length<=sizeLine/\∀ p,H1 p=none->Q (.ref p) (upd H1 p (.lst xs))
theorem DJ{x1}(h:PA X es t):PE X (.Tuple es x1 pos) (Lz t):=by intro Z_ s σ H Q I hq;refine wpAny_Tuple_spliced (a_ (h pos Z_ s σ H _ I hq) λus s1 ⟨xs,H1,I1,r,z,q⟩=>⟨by rw[<- r.length];exact z,?_⟩);have hf:H1 s1.heap.objs.size=none:=I1.aK.fresh (Qf _);refine⟨.ref s1.heap.objs.size,upd H1 s1.heap.objs.size (.tup xs),I1.laid (t':=s1.toks) (λb u e=>Qh _ e) (Qf _) ?_,rfl,q _ hf⟩;exact⟨z,us,r,⟨_,Qy _ rfl,rfl,⟨_,rfl⟩,rfl⟩⟩
theorem LB(h:PA X es t):PE X (.List es pos) (LA t):=by intro Z_ s σ H Q I hq;refine wpAny_List_spliced (a_ (h pos Z_ s σ H _ I hq) λus s1 ⟨xs,H1,I1,r,z,q⟩=>⟨by rw[<- r.length];exact z,?_⟩);have hf:H1 s1.heap.objs.size=none:=I1.aK.fresh (Qf _);refine⟨.ref s1.heap.objs.size,upd H1 s1.heap.objs.size (.lst xs),I1.laid (t':=s1.toks) (λb u e=>Qh _ e) (Qf _) ?_,rfl,q _ hf⟩;exact⟨z,us,0,r,Qy _ rfl⟩
end
abbrev Sp:=List V->Hp->VK->XK->Prop
abbrev lO:=List Env->Hp->Shared->XK->Value->Shared->Prop
structure n_ (P:Program) (w:World) (K:PySem.W.Frag) (mg:Str->Option Value) (base:Heap) (A:Around) (outer:List Env) (s:Shared) (H:Hp):Prop where
 frames:A.frames=some outer
 mod:Mod K mg base
 bs:∀ b o,base.get? b=some o->s.heap.get? b=some o/\H b=none
 lH:base.objs.size<=s.heap.objs.size
 eU:s.heap.FunFrames base outer
 pC:∀ b∈bJ outer,H b=none
 aK:dN P w H s.heap
 bare:AllBare s.gens
def CE (outer:List Env)(P:Program)(w:World)(H:Hp)(s:Shared)(Q:VK)(u:Value)(s':Shared):Prop:=
 ∃ v H',s'.os=s.os/\AllBare s'.gens/\Un (bJ outer) [] H H' s.heap s'.heap/\dN P w H' s'.heap/\cE v u/\Q v H'
def CR (CX:lO)(outer:List Env)(P:Program)(w:World)(H:Hp)(s:Shared)(Q:VK)(E:XK)(r:Result)(s':Shared):Prop:=
 match r with
 | .ok (.ret u)=>CE outer P w H s Q u s'
 | .ok _=>False
 | .error e=>CX outer H s E e s'
structure eG (P:Program) (w:World) (K:PySem.W.Frag) (mg:Str->Option Value) (base:Heap) (CX:lO) (k:Nat) (f:Addr) (fd:FuncData) (ps:List Str) (sp:Sp):Prop where
 len:∀ vs H Q E,sp vs H Q E->vs.length=ps.length
 run:∀ (A:Around) (outer:List Env) (s:Shared) (H:Hp) (args:Args) (us:List Value) (vs:List V) (Q:VK) (E:XK),bc k A->n_ P w K mg base A outer s H->BindsTo s fd args (ps.zip us)->bf vs us->sp vs H Q E->
  codeAny (model P w) A (.call (.ref f) args) (CR CX outer P w H s Q E) s
section
variable {X:Cx}{Z_:List (Addr×Obj)}{σ:St}{H:Hp}{s s':Shared}
theorem Inv.uO(I:Inv X Z_ σ H s):n_ X.prog X.w X.K X.mg X.base X.A X.stack s H:=
 ⟨I.ok.frames,I.ok.mod,I.bs,Qq I.ok.lH I.sz,I.stack,I.eV,I.aK,I.bare⟩
theorem Inv.after{Q:VK}{u:Value}(I:Inv X Z_ σ H s)(h:CE X.stack X.prog X.w H s Q u s'):EP X Z_ σ Q u s':=by obtain⟨v,H',os,bare,un,aK,r,q⟩:=h;obtain⟨hh,g,d,t,LC⟩:=s';obtain rfl:LC=s.os:=os;exact⟨v,H',I.call (h':=hh) (g':=g) (d':=d) (t':=t) (ch:=[]) un aK bare (λb z=>absurd z (by simp)),r,q⟩
end
def LD (sp:Sp)(pH:List V)(E:XK)(t:TA):TE:=λσ H Q=>t σ H λvs H1=>sp (vs++pH) H1 Q E
def oa (K:PySem.W.Frag)(fd:FuncData)(ps:List Str)(ds:List Value):Prop:=
 ∀ (s:Shared) (us:List Value),K.In s.heap->(us++ds).length=ps.length->BindsTo s fd ⟨us,[]⟩ (ps.zip (us++ds))
theorem oa.all{fd:FuncData}{ps:List Str}(h:∀ us:List Value,us.length=ps.length->bindArgs fd ⟨us,[]⟩=pure (ps.zip us)):oa K fd ps []:=λs us _ hl=>by rw[QY]at hl ⊢;exact .of_eq (h us hl)
def xu (CX:lO)(X:Cx)(E:XK):Prop:=∀ (Z_:List (Addr×Obj)) (σ:St) (H:Hp) (s:Shared) (e:Value) (s':Shared),Inv X Z_ σ H s->CX X.stack H s E e s'->X.xe e s'
section
variable {X:Cx}{CX:lO}{k:Nat}{f C:Addr}{fd:FuncData}{ps:List Str}{sp:Sp}{pH:List V}{ds:List Value}{E:XK}{x m:Str}{p pos apos:Pos}{e o:Expr}{es:List Expr}{ta:TE}{t:TA}
theorem LF{Z_:List (Addr×Obj)}{σ:St}{H:Hp}{s:Shared}{Q:VK}{vs:List V}(F:eG X.prog X.w X.K X.mg X.base CX k f fd ps sp)(hr:bc k X.A)(hb:oa X.K fd ps ds)(hd:bf pH ds)(hx:xu CX X E)
  (I:Inv X Z_ σ H s) (r:bf vs us) (h:sp (vs++pH) H Q E):wpAny (model X.prog X.w) X.A (call (.ref f) us) (EP X Z_ σ Q) X.xe s:=by
 have r2:bf (vs++pH) (us++ds):=r.append hd;have hl:(us++ds).length=ps.length:=by rw[<- r2.length];exact F.len _ _ _ _ h
 refine wpAny_call (JK (F.run X.A X.stack s H ⟨us,[]⟩ (us++ds) (vs++pH) Q E hr I.uO (hb s us I.fu hl) r2 h) λr s' hq=>?_);cases r with
 | error e=>exact hx Z_ σ H s e s' I hq
 | ok fl=>
  cases fl with
  | ret u=>exact I.after hq
  | next=>exact False.elim hq
  | brk=>exact False.elim hq
  | cont=>exact False.elim hq
theorem xw(F:eG X.prog X.w X.K X.mg X.base CX k f fd ps sp)(hr:bc k X.A)(hg:Gl X x)(hm:X.mg x=some (.ref f))(hk:W.keepIn X.K (.ref f)=true)(hb:oa X.K fd ps ds)(hd:bf pH ds)(hx:xu CX X E)
  (ha:PA X (e::es) t) (fO:(x==("__debug__":Str))=false:=by decide) (he:starEach (e::es) X.env=(false,eval e X.env)::starEach es X.env:=by rfl) (cR:(backTo pos (starEach es X.env)).any (·.1)=false:=by rfl) :
  PE X (.Call (.Name x p) (e::es) [] pos) (LD sp pH E t):=by intro Z_ s σ H Q I h;refine Ji (sY I hg hm ?_ fO);refine W.callWith_K (h₀:=X.base) I.ok.mod.sV hk (a_ (ha pos Z_ s σ H _ I h) λus s1 ⟨vs,H1,I1,r,q⟩=>⟨I1.fu,?_⟩) he cR;exact LF F hr hb hd hx I1 r q
end
structure ah (N P:List Str) (sc:Scope):Prop where
 kind:sc.kind=.function
 co:sc.isCoroutine=false
 gen:sc.isGenerator=false
 nd:N.Nodup
 pre:N.take P.length=P
 par:∀ x∈P,sc.names.lookup x=some .local\/sc.names.lookup x=some .cell
 qM:∀ y∈sc.names,y.2 ≠ .free
theorem cH{P:List Str}(h:N.Nodup/\(∀ x∈P,sc.names.lookup x=some .local\/sc.names.lookup x=some .cell)/\∀ y∈sc.names,y.2 ≠ .free)(a:sc.kind=.function:=by rfl)(b:sc.isCoroutine=false:=by rfl)(c:sc.isGenerator=false:=by rfl)(d:N.take P.length=P:=by rfl):ah N P sc:=⟨a,b,c,h.1,d,h.2.1,h.2.2⟩
theorem DK{x:Str}:∀ {binds:List (Str×Value)} {m:Str->Option Value},(∀ v,(x,v) ∉ binds)->bindL kindOf binds m x=m x
 | [],_,_=>rfl
 | (n,v)::r,m,h=>by
  unfold bindL;rw[DK λw hw=>h w (Qc _ hw)];split
  .have:x≠n:=by rintro rfl;exact h v Qd
   simp[this]
  .rfl
theorem DL{x:Str}:∀ {binds:List (Str×Value)} {m:Str->Option Value},(∀ v,(x,v) ∉ binds)->bindC kindOf binds m x=m x
 | [],_,_=>rfl
 | (n,v)::r,m,h=>by
  unfold bindC;rw[DL λw hw=>h w (Qc _ hw)];split
  .rfl
  .have:x≠n:=by rintro rfl;exact h v Qd
   simp[this]
theorem DM{x:Str}:∀ {P:List Str} {vs:List Value} {i:Nat} {m:Str->Option Value},P.Nodup->P[i]? = some x->vs[i]? = some v->kindOf x=some .local->
  bindL kindOf (P.zip vs) m x=some v
 | [],_,_,_,_,h,_,_=>by simp at h
 | _::_,[],_,_,_,_,h,_=>by simp at h
 | p::P,w::vs,0,m,nd,h1,h2,hk=>by simp at h1 h2;subst h1;subst h2;show bindL kindOf ((p,w)::P.zip vs) m p=_;unfold bindL;rw[DK λv hv=>(ZT.mp nd).1 (Ys hv).1,Qk hk];simp
 | p::P,w::vs,i+1,m,nd,h1,h2,hk=>by show bindL kindOf ((p,w)::P.zip vs) m x=_;unfold bindL;exact DM (i:=i) (ZT.mp nd).2 (by simpa using h1) (by simpa using h2) hk
theorem DN{x:Str}:∀ {P:List Str} {vs:List Value} {i:Nat} {m:Str->Option Value},P.Nodup->P[i]? = some x->vs[i]? = some v->kindOf x≠some .local->
  bindC kindOf (P.zip vs) m x=some v
 | [],_,_,_,_,h,_,_=>by simp at h
 | _::_,[],_,_,_,_,h,_=>by simp at h
 | p::P,w::vs,0,m,nd,h1,h2,hk=>by simp at h1 h2;subst h1;subst h2;show bindC kindOf ((p,w)::P.zip vs) m p=_;unfold bindC;rw[DL λv hv=>(ZT.mp nd).1 (Ys hv).1,Qw hk];simp
 | p::P,w::vs,i+1,m,nd,h1,h2,hk=>by show bindC kindOf ((p,w)::P.zip vs) m x=_;unfold bindC;exact DN (i:=i) (ZT.mp nd).2 (by simpa using h1) (by simpa using h2) hk
def k7 (N:List Str)(vs:List V):St:=vs.map some++replicate (N.length-vs.length) none
def k8 (CX:lO)(P:Program)(w:World)(K:PySem.W.Frag)(mg:Str->Option Value)(base:Heap)(N:List Str)(qual:Str)(scope:Scope)(f:Addr)(cd:Value)(A:Around)(outer:List Env)(s:Shared)(H:Hp)(E:XK):Cx where
 prog:=P
 w:=w
 K:=K
 mg:=mg
 base:=base
 A:=A.deeper (envOfC qual scope s.heap.objs.size f cd)
 N:=N
 ai:=s
 aD:=H
 env:=envOfC qual scope s.heap.objs.size f cd
 outer:=outer
 stack:=envOfC qual scope s.heap.objs.size f cd::outer
 ex:=[]
 calm:=true
 fn:=λ_=>true
 pn:=[]
 xe:=λe s'=>wpAny (model P w) (A.deeper (envOfC qual scope s.heap.objs.size f cd)) (leaving (envOfC qual scope s.heap.objs.size f cd) e) (λ_ pI=>CX outer H s E e pI) (λe' pI=>CX outer H s E e' pI) s'
theorem DO{x:Str}(h:sc.names.lookup x=some .cell):∃ c,(cellsFrom n sc.names []).lookup x=some c:=by have q:=ZN sc.names n [] (.inl h);exact Zh.mp q
theorem LG{CX:lO}{P:Program}{w:World}{ps:List Str}{f:Addr}{cd:Value}{A:Around}{outer:List Env}{s s1:Shared}{H:Hp}{E:XK}{vs:List V}
  (S:ah N ps scope) (hd:A.handled=none) (e0:n_ P w K mg base A outer s H) (hl:vs.length=ps.length) (r:bf vs us)
  (x:InCallC s s.heap.objs.size (bindL (envOfC qual scope s.heap.objs.size f cd).kindOf (ps.zip us) λ_=>none) (cellsFrom (s.heap.objs.size+1) scope.names []) (bindC (envOfC qual scope s.heap.objs.size f cd).kindOf (ps.zip us) λ_=>none) s1) :
  Inv (k8 CX P w K mg base N qual scope f cd A outer s H E) [] (k7 N vs) H s1:=by
 have cR:ps.length<=N.length:=by have:=Zr List.length S.pre;rw[ZK]at this;omega
 obtain⟨h1,tk,rfl,hk⟩:=x.done;have uP:∀ b:Addr,b ∉ (k8 CX P w K mg base N qual scope f cd A outer s H E).ex:=λb z=>absurd (show b∈([]:List Addr)from z) (by simp);refine⟨⟨e0.mod,S.kind,rfl,rfl,Qf _,λy z c h1 h2=>?_,λy hy=>?_,λy c _ h=>?_,λ_=>hd,Around.frames_deeper e0.frames,.inr ⟨rfl,rfl⟩,λb z=>absurd z (uP b),e0.bs,e0.lH,λb _ _=>uP b,λb z=>absurd z (uP b),e0.eU,e0.pC⟩,
  rfl,e0.bare,Un.kept hk,⟨_,x.toInCall.ns,λi y v h1 h2 h3=>?_⟩,λy c h=>⟨_,x.cell y c h⟩,e0.aK.fresh (Qf _),λy c h=>?_,λp hp=>absurd (show p∈([]:List (Addr×Obj))from hp) (by simp),e0.aK.kept hk,?_⟩
 .exact name_of_addr x.apart (QH h1) (QH h2)
 .have hy:scope.names.lookup y=some .cell\/scope.names.lookup y=some .free:=hy;rcases hy with hy|hy
  .exact DO hy
  .exact absurd rfl (S.qM _ (QH hy))
 .exact ZG (x.above y c (QH h))
 .have hi:i<vs.length:=by
   unfold k7 at h2;by_cases hi:i<vs.length
   .exact hi
   .rw[Zb (by simpa using hi)]at h2;rw[Zu]at h2;split at h2<;>cases h2
  have ha:vs[i]? = some v:=by
   unfold k7 at h2;rw[QV (by simpa using hi),QO]at h2;cases e:vs[i]? with
   | none=>rw[e]at h2;cases h2
   | some a=>rw[e]at h2;cases h2;rfl
  obtain⟨u,hu,rv⟩:=r.get ha;have hp:ps[i]? = some y:=by rw[<- S.pre,Jb (by omega)];exact h1
  have DP:ps.Nodup:=by rw[<- S.pre];exact S.nd.sublist (List.take_sublist _ _)
  refine⟨u,rv,?_⟩;rcases S.par y (YB hp)with k|k
  .exact .inl ⟨k,DM DP hp hu k⟩
  .obtain⟨c,e⟩:=DO (n:=s.heap.objs.size+1) k;refine .inr ⟨.inl k,c,e,?_⟩;have q:=x.cell y c e;rw[DN DP hp hu (by show scope.names.lookup y≠_;rw[k];decide)]at q;exact q
 .exact e0.aK.fresh (ZG (x.above y c (QH h)))
 .unfold k7;show _=N.length;rw[Qe,Qa,Q7];omega
theorem DQ{CX:lO}{P:Program}{w:World}{k:Nat}{f:Addr}{name:Str}{params:Arguments}{dV kV doc pm b6 ct oc:Value}{an od:Option Addr}
  {og:Array (Option Value)} {ps:List Str} {sp:Sp} (lk:K.lookup f=some ⟨oc,od,.func (W.fnOf name qual params body scope dV kV doc pm an b6 ct),og⟩) (gM:W.codeIn K b6 qual=true) (S:ah N ps scope)
  (len:∀ vs H Q E,sp vs H Q E->vs.length=ps.length)
  (lP:∀ (A:Around) (outer:List Env) (s:Shared) (H:Hp) (vs:List V) (Q:VK) (E:XK),bc k (A.deeper (envOfC qual scope s.heap.objs.size f b6))->sp vs H Q E->
    ∃ t,gL (k8 CX P w K mg base N qual scope f b6 A outer s H E) body t/\t { nx:=λ_ H'=>Q .aO H',rt:=Q } (k7 N vs) H) :
  eG P w K mg base CX (k+1) f (W.fnOf name qual params body scope dV kV doc pm an b6 ct) ps sp:=by
 refine⟨len,λA outer s H args us vs Q E hr e0 hb r jz=>?_⟩;have hl:=len _ _ _ _ jz;have KX:K.In s.heap:=e0.mod.sV.keeps λb o e=>(e0.bs b o e).1;have lim:s.heap.NoLimit:=e0.mod.nolimit.keeps λb o e=>(e0.bs b o e).1;have uQ:∀ y∈ps.zip us,scope.names.lookup y.1=some .local\/(scope.names.lookup y.1=some .cell/\((cellsFrom (s.heap.objs.size+1) scope.names []).lookup y.1).isSome=true):=λ⟨n,v⟩ hy=>by
  rcases S.par n (Ys hy).1 with q|q
  .exact .inl q
  .exact .inr ⟨q,ZN _ _ _ (.inl q)⟩
 refine codeAny_call_function hr.depth (KX _ _ lk) rfl S.co S.gen rfl (W.codeRec_of KX gM) (hb _ _ _ _ ?_);refine wpAny_newFunctionEnv_cells S.kind uQ λenv he s1 x=>?_;subst he;refine⟨lim.keeps x.toInCall.keep,codeAny_func ?_⟩;obtain⟨t,ht,hq⟩:=lP A outer s H vs Q E (hr.deeper _) jz;have I:Inv (k8 CX P w K mg base N qual scope f b6 A outer s H E) [] (k7 N vs) H s1:=LG S hr.hd e0 hl r x;refine Q2 (ht [] s1 (k7 N vs) H _ I hq) (λfl s' hs=>?_) λe s' hs=>hs;have fin:∀ {aP:St} {H':Hp} {v:V} {u:Value},Inv (k8 CX P w K mg base N qual scope f b6 A outer s H E) [] aP H' s'->cE v u->Q v H'->CE outer P w H s Q u s':=
  λ{aP H' v u} J rv q=>⟨v,H',J.os,J.bare,J.base,J.aK,rv,q⟩
 cases fl with
 | ret u=>
  obtain⟨v,aP,H',J,rv,q⟩:=hs;exact fin J rv q
 | next=>
  obtain⟨aP,H',J,q⟩:=hs;exact fin (v:=V.aO) (u:=Value.none) J rfl q
 | brk=>
  obtain⟨_,_,_,q⟩:=hs;exact False.elim q
 | cont=>
  obtain⟨_,_,_,q⟩:=hs;exact False.elim q
section
variable {X:Cx}{x:Str}{p pos:Pos}{e:Expr}{es:List Expr}{t:TA}{id T:String}{r:List V->Hp->VK->Prop}
def xx (r:List V->Hp->VK->Prop)(t:TA):TE:=λσ H Q=>t σ H λvs H1=>r vs H1 Q
theorem qN(hc:jy X (.builtin id) r)(hg:Gl X x)(hm:X.mg x=none)(hv:bootBuiltins x=some (.builtin id))(ha:PA X (e::es) t)(hn:x ≠ "__name__":=by decide)(fO:(x==("__debug__":Str))=false:=by decide)
  (he:starEach (e::es) X.env=(false,eval e X.env)::starEach es X.env:=by rfl) (cR:(backTo pos (starEach es X.env)).any (·.1)=false:=by rfl):PE X (.Call (.Name x p) (e::es) [] pos) (xx r t):=by intro Z_ s σ H Q I h;refine Ji (sZ I hg hm hv ?_ hn fO);exact PyProof.Rows.callWith_builtin1 (a_ (ha pos Z_ s σ H _ I h) λus s1 ⟨vs,H1,I1,r1,q1⟩=>hc Z_ s1 σ H1 vs us Q I1 r1 q1) he cR
theorem td(hc:jy X (.type T) r)(hg:Gl X x)(hm:X.mg x=none)(hv:bootBuiltins x=some (.type T))(ha:PA X (e::es) t)(hn:x ≠ "__name__":=by decide)(fO:(x==("__debug__":Str))=false:=by decide)
  (he:starEach (e::es) X.env=(false,eval e X.env)::starEach es X.env:=by rfl) (cR:(backTo pos (starEach es X.env)).any (·.1)=false:=by rfl):PE X (.Call (.Name x p) (e::es) [] pos) (xx r t):=by intro Z_ s σ H Q I h;refine Ji (sZ I hg hm hv ?_ hn fO);exact ZA (a_ (ha pos Z_ s σ H _ I h) λus s1 ⟨vs,H1,I1,r1,q1⟩=>hc Z_ s1 σ H1 vs us Q I1 r1 q1) he cR
end
end L2
namespace HT
open PySem PyProof.Rows
variable {Q:Y0}{hi lo:Option Int}{t:Addr}{vl vu:Value}
section
open PySem.SeqAt
open PySem.AutoSeq1 (wpAny_loadPart')
open PySem.MeetsSeq PySem.MeetsSeq2 PySem.MeetsSeq3
end
section
variable {prog:Program}{w:World}{A:Around}{E:Y0}{s:Shared}
theorem LH{b:Addr}{vs ws:List Value}(ht:IsTup s.heap t vs.toArray)(hb:IsTup s.heap b ws.toArray)(hv:vs ≠ [])
  (h1:ws=[]->Q (.ref t) s) (h2:ws ≠ []->Q (.ref s.heap.objs.size) { s with heap:=s.heap.push { cls:=.type "tuple",data:=.seq (vs++ws).toArray } })
  (hsz:vs.length+ws.length<=sizeLine):wpAny (model prog w) A (binaryOp .Add (.ref t) (.ref b)) Q E s:=by
 obtain⟨⟨cls,dd,data,sl⟩,ho,hc,n,hd⟩:=id ht;obtain⟨⟨zV,xy,data2,xA⟩,qO,k9,n2,hd2⟩:=id hb;simp only at hc hd k9 hd2;subst hc hd k9 hd2;have e:vs.toArray++ws.toArray=(vs++ws).toArray:=by simp
 by_cases hw:ws=[]
 .exact Yn ⟨_,ho,rfl⟩ ⟨_,qO,rfl⟩ Yc seq_tuple_add Jm Jk (Jc _ _)
   (tuple_addW1 t b vs.toArray ws.toArray n n2 dd xy sl xA (by simpa using hv) (by simp[hw])) ⟨ho,qO,h1 hw⟩
 .refine Yn ⟨_,ho,rfl⟩ ⟨_,qO,rfl⟩ Yc seq_tuple_add Jm Jk (Jc _ _)
   (tuple_addW2 t b vs.toArray ws.toArray n n2 dd xy sl xA (by simpa using hv) (by simpa using hw) (by rw[Qi,Qi];exact hsz)) ⟨ho,qO,?_⟩
  rw[e];exact h2 hw
def bo (n d:Nat):Option Int->Nat
 | none=>d
 | some v=>if v<0 then(v+(n:Int)).toNat else min v.toNat n
theorem DR(n d:Nat):bo n d none=d:=rfl
theorem uR(n d k:Nat):bo n d (some (k:Int))=min k n:=by show(if(k:Int)<0 then((k:Int)+(n:Int)).toNat else min (k:Int).toNat n)=min k n;rw[Qw (by omega),ZY]
theorem LJ(n d:Nat)(hd:d<=n)(o:Option Int):bo n d o<=n:=by
 cases o with
 | none=>exact hd
 | some v=>
  show(if v<0 then(v+(n:Int)).toNat else min v.toNat n)<=n;by_cases hv:v<0
  .rw[Qk hv];omega
  .rw[Qw hv];exact Nat.min_le_right _ _
theorem DS(v:Int)(n d:Nat):(if v<0 then max (v+(n:Int)) 0 else min v (n:Int))=((bo n d (some v):Nat):Int):=by
 show(if v<0 then max (v+(n:Int)) 0 else min v (n:Int))=(((if v<0 then(v+(n:Int)).toNat else min v.toNat n):Nat):Int);by_cases hv:v<0
 .simp only[Qk hv];omega
 .simp only[Qw hv];omega
theorem LK(lo hi:Option Int)(n:Nat):Builtin.Slice.sliceAdjust lo hi 1 (n:Int)=(((bo n 0 lo:Nat):Int),((bo n n hi:Nat):Int)):=by
 have h1:¬ ((1:Int)<0):=by omega
 unfold Builtin.Slice.sliceAdjust;simp only[h1,JQ];refine Prod.ext ?_ ?_
 .cases lo with
  | none=>rfl
  | some v=>exact DS v n 0
 .cases hi with
  | none=>rfl
  | some v=>exact DS v n n
theorem LL(i j:Nat):Builtin.Slice.slicePlaces (i:Int) (j:Int) 1=j-i:=by
 unfold Builtin.Slice.slicePlaces;have h1:(1:Int) > 0:=by omega
 simp only[h1,ZZ,Int.ediv_one];split<;>omega
theorem DT{v:Value}{o:Option Int}{Q:Option Int->Shared->Prop}(p:IsPart v o)(h:Q o s):wpAny (model prog w) A (Builtin.Slice.slicePartIndex v) Q E s:=by
 cases p with
 | none=>exact slicePart_none h
 | int i t=>exact slicePart_int h
theorem DU{sl:Addr}{n:Nat}{Q:Int×Int×Nat->Shared->Prop}(hs:s.heap.IsSliceOf sl vl vu .none)(pl:IsPart vl lo)(pu:IsPart vu hi)
  (h:Q (((bo n 0 lo:Nat):Int),1,bo n n hi-bo n 0 lo) s):wpAny (model prog w) A (Builtin.Slice.sliceApplied (.ref sl) (pure (n:Int))) Q E s:=by obtain⟨os,qP,xB,uS⟩:=id hs;unfold Builtin.Slice.sliceApplied Builtin.Slice.sliceFields;refine Qb (Qb (ZB qP uS (x:=vl) rfl (Qb (ZB qP uS (x:=vu) rfl (Qb (ZB qP uS (x:=.none) rfl (Ql ?_)))))));refine Qb (slicePart_none ?_);show wpAny _ _ (if((1:Int)==0)=true then _ else _) _ _ s;rw[Qw (by decide)];refine Qb (DT pl (Qb (DT pu (Qb (Ql ?_)))));show wpAny _ _ (match Builtin.Slice.sliceAdjust lo hi 1 (n:Int)with|(lo,hi)=>pure (lo,(1:Int),Builtin.Slice.slicePlaces lo hi 1)) _ _ s;rw[LK lo hi n];show wpAny _ _ (pure (((bo n 0 lo:Nat):Int),(1:Int),Builtin.Slice.slicePlaces ((bo n 0 lo:Nat):Int) ((bo n n hi:Nat):Int) 1)) _ _ s;rw[LL];exact Ql h
theorem LM(xs:Array Value)(i k:Nat):((range k).filterMap λ(m:Nat)=>xs[((i:Int)+(m:Int)*1).toNat]?).toArray=((xs.toList.drop i).take k).toArray:=by
 have e:(λ(m:Nat)=>xs[((i:Int)+(m:Int)*1).toNat]?)=λm=>xs[i+m]?:=by
  funext m;have:((i:Int)+(m:Int)*1).toNat=i+m:=by omega
  rw[this]
 rw[e];have:=pick_run xs i k;rw[List.filterMap_map]at this;have e2:((λx=>xs[x]?) ∘ λx=>i+x)=λm=>xs[i+m]?:=rfl;rw[e2]at this;rw[this]
theorem LN{sl:Addr}{items:Array Value}(ht:IsTup s.heap t items)(hs:s.heap.IsSliceOf sl vl vu .none)(pl:IsPart vl lo)(pu:IsPart vu hi)
  (hw:¬ (bo items.size 0 lo=0/\bo items.size items.size hi=items.size))
  (h:Q (.ref s.heap.objs.size) { s with heap:=s.heap.push { cls:=.type "tuple",data:=.seq ((items.toList.drop (bo items.size 0 lo)).take (bo items.size items.size hi-bo items.size 0 lo)).toArray } })
  (hsz:items.size<=sizeLine):wpAny (model prog w) A (getItem (.ref t) (.ref sl)) Q E s:=by
 have jY:sizeOk (.seq ((items.toList.drop (bo items.size 0 lo)).take (bo items.size items.size hi-bo items.size 0 lo)).toArray):=by show((items.toList.drop (bo items.size 0 lo)).take (bo items.size items.size hi-bo items.size 0 lo)).toArray.size<=sizeLine;rw[Qi,ZK,Z6,JF];omega
 have hj:bo items.size items.size hi<=items.size:=LJ _ _ (Qf _) hi;obtain⟨os,qP,xB,uS⟩:=id hs;have LO:s.TypeIs (.ref sl) "slice":=⟨os,qP,xB⟩;unfold getItem
 try with_reducible refine ZI ?_
 first|refine Qb (Ql ?_)|skip
 refine Qb (wpAny_sequenceKey ht.typeIs (by decide) ?_);refine Qb (ZL (name:=Str.ofString "__getitem__") ht.typeIs Q3
  (Jr Q3 ht.typeIs entry_tuple_getitem ?_ (args_tuple_getitem _ _)))
 show wpAny _ _ (Builtin.Tuple.tupleItemsOf (.ref t) >>= _) _ _ s;refine Qb (tupleItemsOf_ ht ?_);refine Qb (Yo LO ?_);rw[Qk (by decide)];refine Qb (DU hs pl pu ?_);have LP:¬ ((((bo items.size 0 lo:Nat):Int)==0&&(1:Int)==1&&(bo items.size items.size hi-bo items.size 0 lo)==items.size)=true):=by intro q;rw[QX,QX]at q;have q1:((bo items.size 0 lo:Nat):Int)=0:=eq_of_beq q.1.1;have q2:bo items.size items.size hi-bo items.size 0 lo=items.size:=eq_of_beq q.2;exact hw ⟨by omega,by omega⟩
 show wpAny _ _ (if(((bo items.size 0 lo:Nat):Int)==0&&(1:Int)==1&&(bo items.size items.size hi-bo items.size 0 lo)==items.size)=true then _ else _) _ _ s;rw[Qw LP,LM]
 first
  | exact Qb (m:=Builtin.Tuple.tupleExact _) (Q9 (Ql ⟨_,rfl,Ql h⟩) jY)
  | exact Qb (m:=Builtin.Tuple.tupleExact _) (Q9 (Qb (Ql (Ql ⟨_,rfl,Ql h⟩))) jY)
  | exact Qb (Qb (m:=Builtin.Tuple.tupleExact _) (Q9 (Ql (Ql ⟨_,rfl,Ql h⟩)) jY))
  | exact Qb (Qb (m:=Builtin.Tuple.tupleExact _) (Q9 (Ql ⟨_,rfl,Ql h⟩) jY))
end
end HT
namespace L2
open PySem PySem.Spec PyProof.Rows
variable {i:Int}{j n:Nat}{us:List Value}
abbrev TO:=St->Hp->(Option Int->Hp->Prop)->Prop
def PO (X:Cx)(e:Option Expr)(t:TO):Prop:=
 ∀ (Z_:List (Addr×Obj)) (s:Shared) (σ:St) (H:Hp) (Q:Option Int->Hp->Prop),Inv X Z_ σ H s->t σ H Q->
  wpAny (model X.prog X.w) X.A (evalPart e X.env) (λu s'=>∃ o H',Inv X Z_ σ H' s'/\IsPart u o/\Q o H') X.xe s
def LQ:TO:=λ_ H Q=>Q none H
def LR (t:TE):TO:=λσ H Q=>t σ H λx H1=>∃ i,x=.int i/\Q (some i) H1
section
variable {X:Cx}{e:Expr}{te:TE}{lo hi:Option Expr}{tl th:TO}{pos p2:Pos}
theorem LS:PO X none LQ:=by intro Z_ s σ H Q I h;rw[evalPart_none];exact Ql ⟨none,H,I,.none,h⟩
theorem LU(h:PE X e te):PO X (some e) (LR te):=by intro Z_ s σ H Q I hw;rw[evalPart_some];refine a_ (h Z_ s σ H _ I hw) λu s1 ak=>?_;obtain⟨x,H1,I1,r1,q1⟩:=ak;obtain⟨i,rfl,q⟩:=q1;obtain⟨t,rfl⟩:=r1;exact⟨some i,H1,I1,.int i t,q⟩
def oh (X:Cx)(r:V->Option Int->Option Int->Hp->VK->Prop):Prop:=
 ∀ (Z_:List (Addr×Obj)) (s:Shared) (σ:St) (H:Hp) (x:V) (v vl vu:Value) (lo hi:Option Int) (sl:Addr) (Q:VK),Inv X Z_ σ H s->cE x v->s.heap.IsSliceOf sl vl vu .none->IsPart vl lo->IsPart vu hi->r x lo hi H Q->
  ∃ T id,typeLookup (.type T) "__getitem__" = pure (some (.builtin id))/\s.TypeIs v T/\wpAny (model X.prog X.w) X.A (getItem v (.ref sl)) (EP X Z_ σ Q) X.xe s
theorem oh.or{r r':V->Option Int->Option Int->Hp->VK->Prop}(h:oh X r)(h':oh X r'):oh X (λx lo hi H Q=>r x lo hi H Q\/r' x lo hi H Q):=by
 intro Z_ s σ H x v vl vu lo hi sl Q I rx hs pl pu q;rcases q with q|q
 .exact h Z_ s σ H x v vl vu lo hi sl Q I rx hs pl pu q
 .exact h' Z_ s σ H x v vl vu lo hi sl Q I rx hs pl pu q
def LV (r:V->Option Int->Option Int->Hp->VK->Prop)(te:TE)(tl th:TO):TE:=λσ H Q=>te σ H λx H1=>tl σ H1 λl H2=>th σ H2 λu H3=>r x l u H3 Q
theorem zW{r:V->Option Int->Option Int->Hp->VK->Prop}(hr:oh X r)(he:PE X e te)(hl:PO X lo tl)(hu:PO X hi th):PE X (.Subscript e (.Slice lo hi none p2) pos) (LV r te tl th):=by intro Z_ s σ H Q I h;refine Subscript_ (a_ (he Z_ s σ H _ I h) λv s1 ak=>?_);obtain⟨x,H1,I1,r1,q1⟩:=ak;refine wpAny_Slice (a_ (hl Z_ s1 σ H1 _ I1 q1) λvl s2 ⟨l,H2,I2,pl,q2⟩=>a_ (hu Z_ s2 σ H2 _ I2 q2) λvu s3 ak=>?_);obtain⟨u,H3,I3,pu,q3⟩:=ak;rw[evalPart_none];refine Ql ?_;have I4:Inv X Z_ σ H3 { s3 with heap:=s3.heap.push { cls:=.type "slice",data:=.fields #[vl,vu,.none] } }:=I3.kept (t':=s3.toks) λb ob q=>Qh _ q;obtain⟨T,id,hT,ht,hg⟩:=hr Z_ { s3 with heap:=s3.heap.push { cls:=.type "slice",data:=.fields #[vl,vu,.none] } } σ H3 x v vl vu l u s3.heap.objs.size Q I4 r1 (Heap.IsSliceOf.new ..) pl pu q3;show wpAny (model X.prog X.w) X.A (subscriptTail e (.Slice lo hi none p2) v (.ref s3.heap.objs.size)) (EP X Z_ σ Q) X.xe { s3 with heap:=s3.heap.push { cls:=.type "slice",data:=.fields #[vl,vu,.none] } };exact tail_any (ops:=[.ref s3.heap.objs.size,v]) ht hT hg (by with_unfolding_all rfl)
def nq (xs:List V)(lo hi:Option Int):List V:=(xs.drop (HT.bo xs.length 0 lo)).take (HT.bo xs.length xs.length hi-HT.bo xs.length 0 lo)
theorem DV(xs:List V)(lo hi:Option Int):(nq xs lo hi).length<=xs.length:=by unfold nq;rw[ZK,Z6];omega
def LW (K:PySem.W.Frag):V->Option Int->Option Int->Hp->VK->Prop:=λx lo hi H Q=>∃ a xs,x=.ref a/\dv K H a xs /\
 ¬ (HT.bo xs.length 0 lo=0/\HT.bo xs.length xs.length hi=xs.length)/\∀ p,H p=none->Q (.ref p) (upd H p (.tup (nq xs lo hi)))
theorem LX:oh X (LW X.K):=by
 intro Z_ s σ H x v vl vu lo hi sl Q I rx hs pl pu h;obtain⟨a,xs,rfl,hx,hw,q⟩:=h;cases rx;obtain⟨ar,r,ht,hz⟩:=I.tuple hx;have hlen:ar.toArray.size=xs.length:=by rw[Qi];exact r.length.symm
 refine⟨"tuple",_,Q3.lookup,ht.typeIs,?_⟩;refine HT.LN ht hs pl pu (by rw[hlen];exact hw) ?_ (by rw[hlen];exact hz);rw[hlen];refine⟨.ref s.heap.objs.size,_,I.laid (t':=s.toks) (o:=.tup (nq xs lo hi)) (λb ob q=>Qh _ q) (Qf _) ?_,rfl,q _ (I.aK.fresh (Qf _))⟩;exact⟨Qq (DV xs lo hi) hz,_,(r.drop (HT.bo xs.length 0 lo)).take (HT.bo xs.length xs.length hi-HT.bo xs.length 0 lo),jS.new _ _⟩
def LY (K:PySem.W.Frag):R2:=λx y H Q=>∃ a b xs ys,x=.ref a/\y=.ref b/\dv K H a xs/\dv K H b ys/\xs ≠ []/\xs.length+ys.length<=sizeLine /\
 (ys=[]->Q (.ref a) H)/\(ys ≠ []->∀ p,H p=none->Q (.ref p) (upd H p (.tup (xs++ys))))
theorem bf.ij{xs:List V}(r:bf xs us):us=[] ↔ xs=[]:=by
 cases r with
 | nil=>simp
 | cons _ _=>simp
theorem LZ:cN X (binaryOp .Add) (LY X.K):=by intro Z_ s σ H x y v u Q I rx ry h;obtain⟨a,b,xs,ys,rfl,rfl,ha,hb,hx,hz,q1,q2⟩:=h;cases rx;cases ry;obtain⟨ar,r1,p1,_⟩:=I.tuple ha;obtain⟨gN,r2,p2,_⟩:=I.tuple hb;refine HT.LH p1 p2 (λz=>hx (r1.ij.mp z)) (λz=>⟨.ref a,H,I,rfl,q1 (r2.ij.mp z)⟩) (λz=>?_) (by rw[<- r1.length,<- r2.length];exact hz);refine⟨.ref s.heap.objs.size,_,I.laid (t':=s.toks) (o:=.tup (xs++ys)) (λb ob q=>Qh _ q) (Qf _) ?_,rfl,q2 (λw=>z (r2.ij.mpr w)) _ (I.aK.fresh (Qf _))⟩;exact⟨by rw[Qe];exact hz,_,r1.append r2,jS.new _ _⟩
end
def iU (n:Nat)(i:Int):Option Nat:=if 0<=i then(if i<n then some i.toNat else none)else if -(n:Int)<=i then some (i+n).toNat else none
def dC {α:Type}(xs:List α)(i:Int):Option α:=(iU xs.length i).bind λj=>xs[j]?
theorem zX(h:iU n i=some j):seqIndex? i n=some j/\j<n /\ -(n:Int)<=i/\i<n:=by
 unfold iU at h;by_cases h0:0<=i
 .rw[Qk h0]at h;by_cases h1:i<n
  .rw[Qk h1]at h;have e:i.toNat=j:=QM h;exact⟨by rw[seqIndex_of h0 h1,e],by omega,by omega,h1⟩
  .rw[Qw h1]at h;cases h
 .rw[Qw h0]at h;by_cases h1:-(n:Int)<=i
  .rw[Qk h1]at h;have e:(i+n).toNat=j:=QM h;exact⟨by rw[seqIndex_neg (by omega) h1,e],by omega,h1,by omega⟩
  .rw[Qw h1]at h;cases h
theorem zY{α:Type}{xs:List α}{v:α}(h:dC xs i=some v):∃ j,seqIndex? i xs.length=some j/\xs[j]? = some v/\j<xs.length /\ -(xs.length:Int)<=i/\i<xs.length:=by
 unfold dC at h;cases e:iU xs.length i with
 | none=>rw[e]at h;cases h
 | some j=>
  rw[e]at h;obtain⟨h1,h2,h3,h4⟩:=zX e;exact⟨j,h1,h,h2,h3,h4⟩
theorem DW{α:Type}{xs:List α}{v:α}(h:xs[j]? = some v):dC xs (j:Int)=some v:=by
 have hj:j<xs.length:=(Qs.mp h).1;have e:iU xs.length (j:Int)=some j:=by unfold iU;rw[Qk (by omega),Qk (by omega)];simp
 unfold dC;rw[e];exact h
def tj (b:Expr):Prop:=∀ o i,subscripted b false o i=operate [o,i] (getItem o i)
def oi (X:Cx)(r:R2):Prop:=
 ∀ (value slice:Expr) (Z_:List (Addr×Obj)) (s:Shared) (σ:St) (H:Hp) (x y:V) (v u:Value) (Q:VK),Inv X Z_ σ H s->cE x v->cE y u->r x y H Q->
  subscripted slice false v u=operate [v,u] (getItem v u)->wpAny (model X.prog X.w) X.A (subscriptTail value slice v u) (EP X Z_ σ Q) X.xe s
def qQ (X:Cx)(id:String)(r:V->List V->Hp->VK->Prop):Prop:=
 ∀ (Z_:List (Addr×Obj)) (s:Shared) (σ:St) (H:Hp) (x:V) (xs:List V) (v:Value) (us:List Value) (Q:VK),Inv X Z_ σ H s->cE x v->bf xs us->r x xs H Q->
  wpAny (model X.prog X.w) X.A (call (.builtin id) (v::us)) (EP X Z_ σ Q) X.xe s
section
variable {X:Cx}{a b:Expr}{ta tb:TE}{pos:Pos}
theorem oi.or{r r':R2}(h:oi X r)(h':oi X r'):oi X (λx y H Q=>r x y H Q\/r' x y H Q):=by
 intro value slice Z_ s σ H x y v u Q I rx ry q hs;rcases q with q|q
 .exact h value slice Z_ s σ H x y v u Q I rx ry q hs
 .exact h' value slice Z_ s σ H x y v u Q I rx ry q hs
theorem uT{r:R2}(hr:oi X r)(ha:PE X a ta)(hb:PE X b tb)(hs:tj b):PE X (.Subscript a b pos) (iS r ta tb):=by intro Z_ s σ H Q I h;exact Subscript_ (zQ ha hb I h λv u s2 x y H2 I2 rx ry q=>hr a b Z_ s2 σ H2 x y v u Q I2 rx ry q (hs _ _))
def DX (K:PySem.W.Frag):R2:=λx y H Q=>∃ p xs i v,x=.ref p/\y=.int i/\cM K H p xs/\dC xs i=some v/\Q v H
def DY (K:PySem.W.Frag):R2:=λx y H Q=>∃ p xs i v,x=.ref p/\y=.int i/\dv K H p xs/\dC xs i=some v/\Q v H
def DZ:R2:=λx y H Q=>∃ z i c,x=.str z/\y=.int i/\z.length<=sizeLine/\dC z.cps.toList i=some c/\Q (.str ⟨#[c]⟩) H
theorem L6:oi X (DX X.K):=by
 intro value slice Z_ s σ H x y v u Q I rx ry h hs;obtain⟨p,xs,i,z,rfl,rfl,hq,he,q⟩:=h;cases rx;obtain⟨t,rfl⟩:=ry;obtain⟨ar,r,pl,hz⟩:=I.list hq;obtain⟨j,h1,h2,h3,h4,h5⟩:=zY he;obtain⟨w,ew,uU⟩:=r.get h2;have hl:=r.length;have hn:=qK;have fin:EP X Z_ σ Q w s:=⟨z,H,I,uU,q⟩;by_cases h0:0<=i
 .have hj:i.toNat=j:=by rw[seqIndex_of h0 h5]at h1;exact QM h1
  exact item_listR pl.isList h0 (by omega) (by rw[hj];simpa using ew) fin hs
 .have hj:(i+(ar.toArray.size:Int)).toNat=j:=by rw[seqIndex_neg (by omega) h4]at h1;rw[Qi,<- hl];exact QM h1
  exact subscriptTail_builtinR (x:=w) pl.isList.typeIs slot_list_getitem.lookup
   (wpAny_getItem_list_neg (Q:=λr s'=>r=w/\EP X Z_ σ Q r s') pl.isList (by omega) (by rw[Qi]<;>omega) (by omega) (by rw[hj];simpa using ew) ⟨rfl,fin⟩) hs
theorem L7:oi X (DY X.K):=by
 intro value slice Z_ s σ H x y v u Q I rx ry h hs;obtain⟨p,xs,i,z,rfl,rfl,hq,he,q⟩:=h;cases rx;obtain⟨t,rfl⟩:=ry;obtain⟨ar,r,pl,hz⟩:=I.tuple hq;obtain⟨j,h1,h2,h3,h4,h5⟩:=zY he;obtain⟨w,ew,uU⟩:=r.get h2;have hl:=r.length;have hn:=qK;have fin:EP X Z_ σ Q w s:=⟨z,H,I,uU,q⟩;exact subscriptTail_builtinR (x:=w) pl.typeIs slot_tuple_getitem.lookup
  (getItem_tuple (j:=j) (Q:=λr s'=>r=w/\EP X Z_ σ Q r s') pl (by omega) (by omega) (by rw[Qi,<- hl];exact h1) (by simpa using ew) ⟨rfl,fin⟩) hs
theorem L8:oi X DZ:=by
 intro value slice Z_ s σ H x y v u Q I rx ry h hs;obtain⟨z,i,c,rfl,rfl,hz,he,q⟩:=h;obtain⟨t,rfl⟩:=rx;obtain⟨t',rfl⟩:=ry;obtain⟨j,h1,h2,h3,h4,h5⟩:=zY he;have hl:z.cps.toList.length=z.length:=by simp[Str.length]
 rw[hl]at h1 h4 h5;have hn:=qK;exact tail_any (Js s z t) slot_str_getitem.lookup (getItem_str (c:=c) (by have e1:decide (i < -(2 ^ 63:Int))=false:=Zd (by omega);have e2:decide (i ≥ 2 ^ 63)=false:=Zd (by omega);rw[e1,e2,Bool.or_false]) (by rw[h1];simpa using h2) ⟨.str ⟨#[c]⟩,H,I.tok _,⟨_,rfl⟩,q⟩) hs
def L9 (K:PySem.W.Frag):R2:=λx y H Q=>DX K x y H Q\/DY K x y H Q\/DZ x y H Q
theorem uV:oi X (L9 X.K):=L6.or (L7.or L8)
theorem L_(ar:List Value)(n j:Nat)(u:Value):Obj.mapSeq (·.setIfInBounds j u) { cls:=.type "list",data:=.seq ar.toArray n }={ cls:=.type "list",data:=.seq (ar.set j u).toArray n }:=by simp[Obj.mapSeq]
theorem Inv.lst{Z_:List (Addr×Obj)}{σ:St}{H:Hp}{s:Shared}{p:Addr}{xs:List V}(I:Inv X Z_ σ H s)(h:H p=some (.lst xs)) :
  ∃ (ar:List Value) (n:Nat),bf xs ar/\s.heap.get? p=some { cls:=.type "list",data:=.seq ar.toArray n }/\xs.length<=sizeLine:=by obtain⟨z,ar,n,r,e⟩:=I.aK p _ h;exact⟨ar,n,r,e,z⟩
theorem Inv.qR{Z_:List (Addr×Obj)}{σ:St}{H:Hp}{s:Shared}{p:Addr}{xs ys:List V}{ar its':List Value}{n n':Nat}{f:Obj->Obj}(I:Inv X Z_ σ H s)(h:H p=some (.lst xs))
  (ho:s.heap.get? p=some { cls:=.type "list",data:=.seq ar.toArray n }) (hf:f { cls:=.type "list",data:=.seq ar.toArray n }={ cls:=.type "list",data:=.seq its'.toArray n' }) (r:bf ys its') (hz:ys.length<=sizeLine) (t:Nat) :
  Inv X Z_ σ (upd H p (.lst ys)) { s with heap:=s.heap.update p f,toks:=t }:=by
 have e:(s.heap.update p f).get? p=some { cls:=.type "list",data:=.seq its'.toArray n' }:=by rw[Jp f ho (by rw[hf]<;>rfl),hf]
 refine I.write (x:=p) (e:=p) (by rw[h];trivial) (.inl rfl) (λb u hb q=>(ZO _ _ (ZM hb)).trans q) ⟨_,e⟩ ?_;exact⟨hz,its',n',r,e⟩
def Ma:V->V->V->Hp->(Hp->Prop)->Prop:=λo i v H Q=>∃ p xs k j,o=.ref p/\i=.int k/\H p=some (.lst xs)/\iU xs.length k=some j/\Q (upd H p (.lst (xs.set j v)))
theorem Mb:Dx X Ma:=by
 intro Z_ s σ H o i v ov iv u Q I ro ri rv h;obtain⟨p,xs,k,j,rfl,rfl,hp,hj,q⟩:=h;cases ro;obtain⟨t,rfl⟩:=ri;obtain⟨ar,n,r,ho,hz⟩:=I.lst hp;obtain⟨h1,h2,h3,h4⟩:=zX hj;have hl:=r.length;have hn:=qK;have I':Inv X Z_ σ (upd H p (.lst (xs.set j v))) { s with heap:=s.heap.update p (Obj.mapSeq (·.setIfInBounds j u)) }:=
  I.qR hp ho (L_ ar n j u) (r.set rv j) (by rw[QC];exact hz) s.toks
 by_cases h0:0<=k
 .have hk:k.toNat=j:=by rw[seqIndex_of h0 h4]at h1;exact QM h1
  exact W.ki_setAt ho h0 (by omega) (by rw[Qi,<- hl];exact h4) (by rw[hk];exact⟨_,I',q⟩)
 .have hk:(k+(ar.toArray.size:Int)).toNat=j:=by rw[seqIndex_neg (by omega) h3]at h1;rw[Qi,<- hl];exact QM h1
  exact W.ki_setBack ho (by omega) (by rw[Qi,<- hl];exact h3) (by omega) (by rw[hk];exact⟨_,I',q⟩)
theorem Mc(lo hi:Option Int)(n:Nat):(sliceBounds lo hi none n).1=((HT.bo n 0 lo:Nat):Int)/\(sliceBounds lo hi none n).2.1=((HT.bo n n hi:Nat):Int)/\(sliceBounds lo hi none n).2.2=1:=by
 refine⟨?_,?_,rfl⟩
 .cases lo with
  | none=>simp[sliceBounds,HT.bo]
  | some i=>
   simp only[sliceBounds,HT.bo,Option.getD_none,show(1:Int) > 0 by decide,ZZ];by_cases h:i<0
   .simp only[h,ZZ]<;>omega
   .simp only[h,JQ]<;>omega
 .cases hi with
  | none=>simp[sliceBounds,HT.bo]
  | some i=>
   simp only[sliceBounds,HT.bo,Option.getD_none,show(1:Int) > 0 by decide,ZZ];by_cases h:i<0
   .simp only[h,ZZ]<;>omega
   .simp only[h,JQ]<;>omega
theorem Md(ar:List Value)(lo hi:Option Int):slicePick ar.toArray lo hi none=((ar.drop (HT.bo ar.length 0 lo)).take (HT.bo ar.length ar.length hi-HT.bo ar.length 0 lo)).toArray:=by obtain⟨h1,h2,h3⟩:=Mc lo hi ar.toArray.size;unfold slicePick;rw[h1,h2,h3];simp only[sliceRange_one,pick_run,Qi]<;>rfl
def Me (K:PySem.W.Frag):V->Option Int->Option Int->Hp->VK->Prop:=λx lo hi H Q=>∃ a xs,x=.ref a/\cM K H a xs/\∀ p,H p=none->Q (.ref p) (upd H p (.lst (nq xs lo hi)))
theorem Mf:oh X (Me X.K):=by intro Z_ s σ H x v vl vu lo hi sl Q I rx hs pl pu h;obtain⟨a,xs,rfl,hx,q⟩:=h;cases rx;obtain⟨ar,r,ht,hz⟩:=I.list hx;have hlen:=r.length;refine⟨"list",_,slot_list_getitem.lookup,ht.isList.typeIs,?_⟩;refine wpAny_getItem_list_slice ht.isList hs pl pu .none (by simp) ?_ (by rw[Qi]<;>omega);rw[Md,<- hlen];refine⟨.ref s.heap.objs.size,_,I.laid (t':=s.toks) (o:=.lst (nq xs lo hi)) (λb ob q=>Qh _ q) (Qf _) ?_,rfl,q _ (I.aK.fresh (Qf _))⟩;exact⟨Qq (DV xs lo hi) hz,_,0,(r.drop (HT.bo xs.length 0 lo)).take (HT.bo xs.length xs.length hi-HT.bo xs.length 0 lo),Qy _ rfl⟩
theorem Mg:jy X (.builtin "len") (λxs H Q=>∃ p ys,xs=[.ref p]/\(cM X.K H p ys\/dv X.K H p ys)/\Q (.int ys.length) H):=by
 intro Z_ s σ H xs us Q I r h;obtain⟨p,ys,rfl,hq,q⟩:=h;obtain⟨u,rfl,rx⟩:=lN r;cases rx;have hn:=qK;rcases hq with hq|hq
 .obtain⟨ar,r',pl,hz⟩:=I.list hq;have hlen:=r'.length;exact Calls.call_len_list pl.isList (by simp only[Qi]<;>omega) ⟨.int ys.length,H,I.tok _,⟨s.toks+1,by rw[Qi,hlen]⟩,q⟩
 .obtain⟨ar,r',pl,hz⟩:=I.tuple hq;have hlen:=r'.length;exact len_tuple pl (by simp only[Qi]<;>omega) ⟨.int ys.length,H,I.tok _,⟨s.toks+1,by rw[Qi,hlen]⟩,q⟩
theorem Mh:jy X (.builtin "len") (λxs H Q=>∃ z,xs=[.str z]/\z.length<=sizeLine/\Q (.int z.length) H):=by intro Z_ s σ H xs us Q I r h;obtain⟨z,rfl,hz,q⟩:=h;obtain⟨u,rfl,t,rfl⟩:=lN r;have hn:=qK;exact len_str (by omega) ⟨.int z.length,H,I.tok _,⟨_,rfl⟩,q⟩
theorem Mi:jy X (.type "list") (λxs H Q=>∃ p ys,xs=[.ref p]/\(cM X.K H p ys\/dv X.K H p ys)/\∀ l,H l=none->Q (.ref l) (upd H l (.lst ys))):=by
 intro Z_ s σ H xs us Q I r h;obtain⟨p,ys,rfl,hq,q⟩:=h;obtain⟨u,rfl,rx⟩:=lN r;cases rx;have fin:∀ (ar:List Value),bf ys ar->ys.length<=sizeLine->∀ (h':Heap) (c':Nat),(∀ b o',s.heap.get? b=some o'->h'.get? b=some o')->
   h'.get? s.heap.objs.size=some { cls:=.type "list",dict:=none,data:=.seq ar.toArray c',slots:=#[] }->EP X Z_ σ Q (.ref s.heap.objs.size) { s with heap:=h' }:=λar r' hz h' c' kp e=>
  ⟨.ref s.heap.objs.size,_,I.laid (t':=s.toks) kp (Qf _) (show d7 X.prog X.w _ h' _ (.lst ys)from⟨hz,ar,c',r',e⟩),rfl,q _ (I.aK.fresh (Qf _))⟩
 rcases hq with hq|hq
 .obtain⟨ar,r',pl,hz⟩:=I.list hq;have hlen:=r'.length;obtain⟨o,ho,hc,n,hd⟩:=pl.isList;exact call_list_seq p (.inl rfl) ho hc hd (λh' c' kp e=>fin ar r' hz h' c' kp e) (by simp only[Qi]<;>omega)
 .obtain⟨ar,r',pl,hz⟩:=I.tuple hq;have hlen:=r'.length;obtain⟨o,ho,hc,n,hd⟩:=pl;exact call_list_seq p (.inr rfl) ho hc hd (λh' c' kp e=>fin ar r' hz h' c' kp e) (by simp only[Qi]<;>omega)
theorem Mj:jy X (.type "tuple") (λxs H Q=>∃ p ys,xs=[.ref p]/\((cM X.K H p ys/\∀ l,H l=none->Q (.ref l) (upd H l (.tup ys)))\/(dv X.K H p ys/\Q (.ref p) H))):=by
 intro Z_ s σ H xs us Q I r h;obtain⟨p,ys,rfl,h⟩:=h;obtain⟨u,rfl,rx⟩:=lN r;cases rx;rcases h with⟨hq,q⟩|⟨hq,q⟩
 .obtain⟨ar,r',pl,hz⟩:=I.list hq;have hlen:=r'.length;refine call_tuple_list pl.isList (λh' kp=>?_) (by simp only[Qi]<;>omega);have I1:Inv X Z_ σ H { s with heap:=h' }:=I.kept (t':=s.toks) kp;have I2:Inv X Z_ σ (upd H h'.objs.size (.tup ys)) { s with heap:=h'.push { cls:=.type "tuple",data:=.seq ar.toArray } }:=
   I1.laid (t':=s.toks) (λb o e=>Qh _ e) (Qf _) (show d7 X.prog X.w _ _ _ (.tup ys)from⟨hz,ar,r',jS.new _ _⟩)
  exact⟨.ref h'.objs.size,_,I2,rfl,q _ (I1.aK.fresh (Qf _))⟩
 .obtain⟨ar,r',pl,hz⟩:=I.tuple hq;exact call_tuple_same pl ⟨.ref p,H,I,rfl,q⟩
def D0 (K:PySem.W.Frag)(T:String)(x:V)(H:Hp):Prop:=match x with
 | .str _=>T = "str"
 | .int _=>T = "int"
 | .ref p=>(T = "list" /\ ∃ xs,cM K H p xs)\/(T = "tuple" /\ ((∃ o,K.lookup p=some o/\o.cls=.type "tuple" /\ o.dict=none)\/∃ xs,H p=some (.tup xs))) \/
   (T = "dict" /\ ((∃ cL,H p=some (.dK cL))\/∃ cL,H p=some (.dT cL)))\/(T = "set" /\ ∃ S n,H p=some (.set S n))
 | _=>False
theorem Mk{Z_:List (Addr×Obj)}{σ:St}{H:Hp}{s:Shared}{T:String}{x:V}{v:Value}(I:Inv X Z_ σ H s)(r:cE x v)(ty:D0 X.K T x H) :
  s.TypeIs v T/\∀ a,v=.ref a->∃ ob,s.heap.get? a=some ob/\ob.dict=none:=by
 cases x with
 | str z=>
  obtain⟨t,rfl⟩:=r;cases (show T = "str" from ty);exact⟨Js s z t,λ_ e=>nomatch e⟩
 | int i=>
  obtain⟨t,rfl⟩:=r;cases (show T = "int" from ty);exact⟨Yp s i t,λ_ e=>nomatch e⟩
 | ref p=>
  cases r;rcases ty with⟨rfl,xs,hq⟩|⟨rfl,⟨o,hk,hc,hd⟩|⟨xs,hk⟩⟩|⟨rfl,hk⟩|⟨rfl,S,n,hk⟩
  .obtain⟨ar,_,pl,_⟩:=I.list hq;refine⟨pl.isList.typeIs,λa e=>?_⟩;cases e;obtain⟨o,n,e,c,hd,_⟩:=pl;exact⟨o,e,hd⟩
  .refine⟨⟨o,I.fu p o hk,hc⟩,λa e=>?_⟩;cases e;exact⟨o,I.fu _ o hk,hd⟩
  .obtain⟨_,ar,_,o,e,c,_,hd⟩:=(show d7 X.prog X.w H s.heap p (.tup xs)from I.aK p _ hk);refine⟨⟨o,e,c⟩,λa e2=>?_⟩;cases e2;exact⟨o,e,hd⟩
  .have z:∃ o,s.heap.get? p=some o/\o.ExactDict:=by
    rcases hk with⟨cL,hk⟩|⟨cL,hk⟩
    .obtain⟨_,_,_,_,o,_,_,e,ex,_⟩:=I.aK p _ hk;exact⟨o,e,ex⟩
    .obtain⟨_,_,_,_,o,_,_,e,ex,_⟩:=I.aK p _ hk;exact⟨o,e,ex⟩
   obtain⟨o,e,ex⟩:=z;refine⟨⟨o,e,ex.1⟩,λa e2=>?_⟩;cases e2;exact⟨o,e,ex.2.1⟩
  .obtain⟨o,_,_,_,e,ex,_⟩:=I.aK p _ hk;refine⟨⟨o,e,ex.1⟩,λa e2=>?_⟩;cases e2;exact⟨o,e,ex.2.1⟩
 | _=>exact False.elim ty
def Ml (K:PySem.W.Frag)(T:String)(r:V->List V->Hp->VK->Prop)(to:TE)(t:TA):TE:=λσ H Q=>to σ H λx H1=>D0 K T x H1/\t σ H1 λxs H2=>r x xs H2 Q
variable {o e:Expr}{es:List Expr}{to:TE}{t:TA}{name:Str}{apos az:Pos}{T id:String}{r:V->List V->Hp->VK->Prop}
theorem om(pa:PlainAttrs T)(slot:Slot T name id)(oo:typeOf (.builtin id)=pure (.type "method_descriptor"))(hm:qQ X id r)(ho:PE X o to)(ha:PA X (e::es) t)
  (bS:attributeBase o name X.env (eval o X.env)=eval o X.env:=by rfl)
  (di:((backTo az (starEach (e::es) X.env)).all (λx=>!x.1)&&(backToKw az (keywordEach [] X.env)).all (λx=>x.1.isSome)
    && decide ((e::es).length+([]:List Keyword).length+(if([]:List Keyword).isEmpty then 0 else 1)<30))=true:=by rfl)
  (bT:(apos.endLine==az.line)=true:=by rfl) (hs:starEach (e::es) X.env=(false,eval e X.env)::starEach es X.env:=by rfl) (bg:(backTo az (starEach es X.env)).any (·.1)=false:=by rfl) :
  PE X (.Call (.Attribute o name apos) (e::es) [] az) (Ml X.K T r to t):=by intro Z_ s σ H Q I h;refine wpAny_Call_method_late bS di bT rfl (a_ (ho Z_ s σ H _ I h) λv s1 ak=>?_);obtain⟨x,H1,I1,r1,ty,q1⟩:=ak;obtain⟨h1,h2⟩:=Mk I1 r1 ty;refine⟨T,id,pa,slot,oo,h1,h2,?_⟩;have hA:=ha az Z_ s1 σ H1 _ I1 q1;rw[hs]at hA ⊢;refine Calls.callWith_builtin (by show(false||(backTo az (starEach es X.env)).any (·.1))=false;rw[bg]<;>rfl) (Jz ?_);exact a_ hA λus s2 ⟨vs,H2,I2,r2,q2⟩=>hm Z_ s2 σ H2 x vs v us Q I2 r1 r2 q2
end
def zZ (X:Cx)(id:String)(r:V->List V->Hp->VK->Prop):Prop:=
 ∀ (Z_:List (Addr×Obj)) (s:Shared) (σ:St) (H:Hp) (x:V) (xs:List V) (v:Value) (us:List Value) (Q:VK),Inv X Z_ σ H s->cE x v->bf xs us->r x xs H Q->
  wpAny (model X.prog X.w) X.A (call (.builtin id) (v::us)) (EP X Z_ σ Q) X.xe s
theorem bf.one:∀ {x:V} {us:List Value},bf [x] us->∃ u,us=[u]/\cE x u
 | _,_,.cons r .nil=>⟨_,rfl,r⟩
theorem bf.eraseIdx:∀ {xs:List V} {us:List Value} (i:Nat),bf xs us->bf (xs.eraseIdx i) (us.eraseIdx i)
 | _,_,_,.nil=>.nil
 | _,_,0,.cons _ t=>t
 | _,_,i+1,.cons r t=>.cons r (bf.eraseIdx i t)
theorem bf.rep{xs:List V}(h:bf xs us):∀ k:Nat,bf (replicate k xs).flatten (replicate k us).flatten
 | 0=>.nil
 | k+1=>by rw[Zo,Zo,QR,QR];exact bf.append h (bf.rep h k)
theorem D1{α:Type}:∀ (l:List α) (i:Nat),(l.eraseIdx i).length<=l.length
 | [],_=>Qf _
 | _::_,0=>Z2 _
 | _::r,i+1=>Yd (D1 r i)
theorem z_(ar:List Value):∀ (k:Nat) (acc:List Value),
  List.foldl (λx1 x2=>x1++x2) acc.toArray (replicate k ar.toArray)=(acc++(replicate k ar).flatten).toArray
 | 0,acc=>by simp
 | k+1,acc=>by
  have e:acc.toArray++ar.toArray=(acc++ar).toArray:=by simp
  have e2:(acc++ar)++(replicate k ar).flatten=acc++(replicate (k+1) ar).flatten:=by rw[Zo,QR,Zg]
  rw[<- e2,<- z_ ar k (acc++ar),<- e,Zo,List.foldl_cons]
section
variable {X:Cx}{Z_:List (Addr×Obj)}{σ:St}{H:Hp}{s:Shared}{l b:Addr}{xs ys zs:List V}
theorem Inv.qS{ar its':List Value}{n:Nat}{f:Array Value->Array Value}{t':Nat}(I:Inv X Z_ σ H s)(hH:H l=some (.lst xs))
  (e:s.heap.get? l=some { cls:=.type "list",data:=.seq ar.toArray n }) (hf:f ar.toArray=its'.toArray) (hv:bf ys its') (hz:ys.length<=sizeLine) :
  Inv X Z_ σ (upd H l (.lst ys)) { s with heap:=s.heap.update l (Obj.mapSeq f),toks:=t' }:=by have q:=PySem.IsL.update e f;rw[hf]at q;refine I.write (x:=l) (e:=l) (by rw[hH];exact trivial) (.inl rfl) (λb' u hb hu=>(ZO s.heap (Obj.mapSeq f) (ZM hb)).trans hu) ⟨_,q⟩ ?_;exact⟨hz,its',_,hv,q⟩
theorem Inv.qT{ar:List Value}{t':Nat}(I:Inv X Z_ σ H s)(hv:bf ys ar)(hz:ys.length<=sizeLine) :
  Inv X Z_ σ (upd H s.heap.objs.size (.lst ys)) { s with heap:=s.heap.push { cls:=.type "list",data:=.seq ar.toArray },toks:=t' }:=
 I.laid (λ_ _ q=>Qh _ q) (Qf _) ⟨hz,ar,0,hv,Qy _ rfl⟩
theorem Inv.fresh(I:Inv X Z_ σ H s):H s.heap.objs.size=none:=I.aK.fresh (Qf _)
theorem Inv.lQ(I:Inv X Z_ σ H s)(hH:H l=some (.lst xs)):xs.length<=sizeLine/\∃ (ar:List Value) (n:Nat),bf xs ar/\xs.length=ar.length/\s.heap.get? l=some { cls:=.type "list",data:=.seq ar.toArray n }:=by obtain⟨z,ar,n,r,e⟩:=I.aK l _ hH;exact⟨z,ar,n,r,r.length,e⟩
theorem D2(h:n<=sizeLine):Builtin.List.listTooLong n=false:=by unfold Builtin.List.listTooLong;exact Zd (by omega)
end
section
variable {X:Cx}
def Mm:V->List V->Hp->VK->Prop:=λx vs H Q=>∃ l xs y,x=.ref l/\vs=[y]/\H l=some (.lst xs)/\xs.length<sizeLine/\Q .aO (upd H l (.lst (xs++[y])))
theorem Mn:zZ X "list.append" Mm:=by intro Z_ s σ H x vs v us Q I rx rv h;obtain⟨l,xs,y,rfl,rfl,hH,hz,q⟩:=h;cases rx;obtain⟨u,rfl,ru⟩:=rv.one;obtain⟨z,ar,n,r,hl,e⟩:=I.lQ hH;refine Zs F.slot_list_append ⟨_,e,rfl⟩ F.entry_list_append (F.args_list_append_2 _ _) (PySem.list_append l ar.toArray n u (by rw[Qi];omega)) ⟨e,?_⟩;refine⟨.aO,_,I.qS (its':=ar++[u]) hH e (by simp) (r.append (.cons ru .nil)) ?_,rfl,q⟩;rw[Qe,Q8];omega
def Mp:V->List V->Hp->VK->Prop:=λx vs H Q=>∃ l b xs zs,x=.ref l/\vs=[.ref b]/\H l=some (.lst xs)/\H b=some (.lst zs)/\xs.length+zs.length<=sizeLine/\Q .aO (upd H l (.lst (xs++zs)))
theorem Mq:zZ X "list.extend" Mp:=by
 intro Z_ s σ H x vs v us Q I rx rv h;obtain⟨l,b,xs,zs,rfl,rfl,hH,hB,hz,q⟩:=h;cases rx;obtain⟨u,rfl,ru⟩:=rv.one;cases ru;obtain⟨z,ar,n,r,hl,e⟩:=I.lQ hH;obtain⟨z2,gN,n2,r2,xC,e2⟩:=I.lQ hB;have hsz:ar.toArray.size+gN.toArray.size<=sizeLine:=by rw[Qi,Qi];omega
 have lS:¬ (!ar.toArray.isEmpty&&Builtin.List.listTooLong (ar.toArray.size+gN.toArray.size))=true:=by rw[D2 hsz,Bool.and_false];exact ZC
 refine Zs F.slot_list_extend ⟨_,e,rfl⟩ F.entry_list_extend (F.args_list_extend_2 _ _)
  (AutoSeq1.list_extend_list_list_0 l ar.toArray n b gN.toArray n2 lS (by rw[Qi];omega) (by omega)) ⟨e,e2,?_⟩
 refine⟨.aO,_,I.qS (its':=ar++gN) hH e (by simp) (r.append r2) ?_,rfl,q⟩;rw[Qe];omega
def Mr:V->List V->Hp->VK->Prop:=λx vs H Q=>∃ l xs i k y,x=.ref l/\vs=[.int i]/\H l=some (.lst xs) /\ -(2 ^ 63)<=i/\i<2 ^ 63/\seqIndex? i xs.length=some k/\xs[k]? = some y/\Q y (upd H l (.lst (xs.eraseIdx k)))
theorem Ms:zZ X "list.pop" Mr:=by
 intro Z_ s σ H x vs v us Q I rx rv h;obtain⟨l,xs,i,k,y,rfl,rfl,hH,h1,h2,hk,hy,q⟩:=h;cases rx;obtain⟨u,rfl,ru⟩:=rv.one;obtain⟨t,rfl⟩:=ru;obtain⟨z,ar,n,r,hl,e⟩:=I.lQ hH;obtain⟨w,hw,uU⟩:=r.get hy;refine Zs F.slot_list_pop ⟨_,e,rfl⟩ F.entry_list_pop (F.args_list_pop_2 _ _)
  (MeetsSeq.list_pop_at l ar.toArray n i t k w (fitsIndex_both h1 h2) (by rw[Qi,<- hl];exact hk) (by rw[<- Array.getElem?_toList];exact hw) (by rw[Qi];omega)) ⟨e,?_⟩
 refine⟨y,_,I.qS (its':=ar.eraseIdx k) hH e ?_ (r.eraseIdx k) ?_,uU,q⟩
 .show ar.toArray.eraseIdxIfInBounds k=(ar.eraseIdx k).toArray;rw[List.eraseIdxIfInBounds_toArray]
 .have:=D1 xs k;omega
def Mt:R2:=λx y H Q=>∃ l k xs,x=.ref l/\y=.int k/\H l=some (.lst xs) /\ -(2 ^ 63)<=k/\k<2 ^ 63/\xs.length*k.toNat<=sizeLine /\
 ∀ p,H p=none->Q (.ref p) (upd H p (.lst (replicate k.toNat xs).flatten))
theorem Aa{α:Type}(xs:List α)(k:Nat):(replicate k xs).flatten.length=k*xs.length:=by
 induction k with
 | zero=>simp
 | succ k ih=>rw[Zo,QR,Qe,ih,Nat.succ_mul,Nat.add_comm]
theorem Mu:cN X (binaryOp .Mult) Mt:=by
 intro Z_ s σ H x y v u Q I rx ry h;obtain⟨l,k,xs,rfl,rfl,hH,h1,h2,hz,q⟩:=h;cases rx;obtain⟨t,rfl⟩:=ry;obtain⟨z,ar,n,r,hl,e⟩:=I.lQ hH;have hlen:ar.toArray.size*k.toNat<=sizeLine:=by rw[Qi,<- hl];exact hz
 have Ab:¬ ar.toArray.size*k.toNat > (2 ^ 63-1) / 8:=by
  have:(sizeLine:Nat)<=(2 ^ 63-1) / 8:=by decide
  omega
 have Ac:¬ (!Builtin.List.listFitsIndex k)=true:=by rw[fitsIndex_both h1 h2];exact ZC
 have lS:¬ Builtin.List.listTooLong (ar.toArray.size*k.toNat)=true:=by rw[D2 hlen];exact ZC
 have Ad:List.foldl (λx1 x2=>x1++x2) #[] (replicate (if ar.toArray.isEmpty=true then 0 else k.toNat) ar.toArray)=(replicate k.toNat ar).flatten.toArray:=by
  have f0:∀ m:Nat,List.foldl (λx1 x2=>x1++x2) #[] (replicate m ar.toArray)=(replicate m ar).flatten.toArray:=λm=>by have:=z_ ar m [];rw[Yt]at this;exact this
  rw[f0];cases ar with
  | nil=>simp
  | cons a r'=>rw[Qw (by simp)]
 refine J1 (T:="list") (U:="int") (by decide) ⟨_,e,rfl⟩ (λs'=>Yp s' k t) noFill_list_mul F.fills_int_mul JC repeat_list F.slot_int_index.lookup
  (Zs JC (Yp s k t) F.entry_int_rmul (F.args_int_rmul_2 _ _) (int___rmul___int_list k t l ar.toArray n)
    ⟨e,rfl,⟨_,e,rfl⟩,Zs F.slot_list_mul ⟨_,e,rfl⟩ F.entry_list_mul (F.args_list_mul_2 _ _) (AutoListH.list___mul___list_int_3 l ar.toArray n k t Ac Ab lS) ⟨e,?_⟩⟩)
 rw[Ad];exact⟨.ref _,_,I.qT (t':=s.toks) (r.rep k.toNat) (by rw[Aa,YL];exact hz),rfl,q _ I.fresh⟩
end
end L2
namespace D3
open PySem PySem.W PySem.Calls PyProof.Rows
variable {P:Params}{h:Heap}{l:OpenLaw}{n:Nat}
theorem Mv:∀ (ns:List Int) (vs:List Value),WellAll P h vs (ns.map WData.int)->IntsAre vs ns:=by
 intro ns;induction ns with
 | nil=>
  intro vs w;rw[Z7]at w;cases w;exact .nil
 | cons n ns ih=>
  intro vs w;rw[Qr]at w;cases w with
  | cons a b=>
   cases a;exact .cons _ _ (ih _ b)
theorem Mw(hn:l.most=some n){args:List WData}{vals:List Value}
  (oq:l.row.toRowW.claim.pre args=true) (Ae:WellAll P h vals args) :
  ∃ a vs ns,vals=[Value.ref a]/\args=[WData.list (ns.map WData.int)]/\h.get? a=some { cls:=.type "list",data:=.seq vs.toArray }/\IntsAre vs ns/\ns.length<=n:=by
 have Mx:WShape.hasAll [] args [.list .int]=true:=(pre_splitW oq).1;have hc:l.pre.holds [] { args:=args }=true:=(pre_splitW oq).2;obtain⟨d,r,rfl,h1,h2⟩:=hasAllW_cons Mx;obtain rfl:=hasAllW_nil h2;obtain⟨xs,rfl,h3⟩:=hasW_list h1;obtain⟨ns,rfl⟩:=items_int h3;have hlen:ns.length<=n:=by
  unfold OpenLaw.pre at hc;have h4:(WTm.not (.lt (.lit (.int (n:Int))) (.len (.arg 0)))).holds [] { args:=[.list (ns.map .int)] }=true:=by have h4:=(holds_andW hc).1;rw[hn]at h4;exact h4
  have h5:=condW_of h4 (w_not (w_lt w_lit (w_len_list (w_arg rfl))));rw[Qa]at h5;refine Nat.le_of_not_lt λq=>?_;have q':(n:Int)<((ns.length:Nat):Int):=by omega
  first
   | (rw[Qt q']at h5;exact absurd h5 (by decide))
   | (simp at h5;omega)
 cases Ae with
 | cons w1 w2=>
  cases w2;cases w1 with
  | list ho il=>exact⟨_,_,ns,rfl,rfl,ho,Mv ns _ il,hlen⟩
theorem Mz(l:OpenLaw)(args:List WData):l.row.toRowW.claim.post args (.bool true) args=true:=
 postW_of (r:=l.row.toRowW) (X:=(true==true))
  (show WShape.has [] (.bool true) .bool=true by first|rfl|decide|simp[WShape.has,WShape.arms,WShape.armsAll])
  (show(WTm.eq .res (.lit (.bool true))).value [] { args:=args,res:=some (.bool true),after:=args }=some (.bool (true==true))from w_eq_bool (w_res rfl) w_lit) rfl
theorem MA{q:Program}{loose:List Str}{XP:(Str->Option Value)->Heap->Prop}{YP:World->Heap->Prop}{d:DefRec}
  (hn:l.most=some n) (uW:d.params.defaults=[])
  (call:∀ (w:World) (ai aT:Shared) (mg mb:Str->Option Value) (fa:Addr) (o:Obj) (pm cd doc:Value) (a:Addr) (vs:List Value) (ns:List Int),
    Ground q loose [] XP w ai mg mb aT.heap->YP w aT.heap->
    aT.heap.get? fa=some o->o.data=.func (docDef d.name d.params d.body d.scope pm cd doc)->aT.heap.CodeRec cd d.name->mg d.name=some (.ref fa)->
    aT.heap.get? a=some { cls:=.type "list",data:=.seq vs.toArray }->IntsAre vs ns->ns.length<=n->aT.gens = #[]->
    codeAny (model l.prog w) callerA (.call (.ref fa) ⟨[.ref a],[]⟩) (λr s'=>r=.ok (.ret (.bool true))/\OldK aT.heap s'.heap/\s'.os=aT.os/\AllBare s'.gens) aT) :
  WalkO q loose XP YP l.row.toRowW d [] (λf vs=>PySem.call f vs):=by intro w ai aT mg mb G Y fa o pm cd doc dV kV ho hd gM hD hmg hg args vals as oq MB Xg Ae D4;obtain rfl:dV=.none:=Dflts.none hD uW;obtain rfl:kV=.none:=Dflts.noKw hD;obtain⟨a,vs,ns,rfl,rfl,qU,hints,hlen⟩:=Mw hn oq Ae;refine enter_call (JK (call w ai aT mg mb fa o pm cd doc a vs ns G Y ho (fd_plain hd) gM hmg qU hints hlen hg) λr s' hq=>?_);obtain⟨rfl,h2,h3,h4⟩:=hq;exact⟨.inl ⟨.bool true,.bool true,[],rfl,λ_=>rfl,.bool true,Mz l _,λ_=>⟨List.Pairwise.nil,λ_ hm=>(nomatch hm)⟩⟩,h2,h3,h4⟩
end D3
namespace L2
open PySem PySem.Spec PyProof.Rows
theorem xD:∀ {vs:List Value} {ns:List Int},IntsAre vs ns->bf (ns.map V.int) vs
 | _,_,.nil=>.nil
 | _,_,.cons n t h=>.cons ⟨t,rfl⟩ (xD h)
def Af (H:Hp):Prop:=∀ b,H b=none\/∃ o xs,H b=some (.fF o (.lst xs))
theorem MC{P:Program}{w:World}{K:PySem.W.Frag}{mg mb:Str->Option Value}{CX:lO}{k:Nat}{fa a:Addr}{fd:FuncData}{x:Str}{sp:Sp}{aT:Shared}{vs:List Value}{ns:List Int}
  (KX:K.In aT.heap) (g8:aT.heap.Ns mainGlobals mg) (hb:aT.heap.Ns builtinsNs mb) (xE:∀ x:Str,x ≠ "__name__"->mb x=bootBuiltins x) (Ag:aT.heap.NoLimit) (hg:aT.gens = #[])
  (ha:aT.heap.get? a=some { cls:=.type "list",data:=.seq vs.toArray }) (hi:IntsAre vs ns) (hl:ns.length<=sizeLine) (hr:bc k callerA)
  (F:∀ base:Heap,K.In base->base.Ns mainGlobals mg->eG P w K mg base CX k fa fd [x] sp) (uX:∀ (s:Shared) (u:Value),BindsTo s fd ⟨[u],[]⟩ [(x,u)])
  (jz:∀ H:Hp,Af H->cM K H a (ns.map V.int)->sp [.ref a] H (λv _=>v=.bl true) λ_ _ _=>False)
  (MD:∀ H e s',CX [] H aT (λ_ _ _=>False) e s'->False) :
  codeAny (model P w) callerA (.call (.ref fa) ⟨[.ref a],[]⟩) (λr s'=>r=.ok (.ret (.bool true))/\OldK aT.heap s'.heap/\s'.os=aT.os/\AllBare s'.gens) aT:=by
 have rv:=xD hi;have Ah:=hi.length;have core:∀ H:Hp,Af H->cM K H a (ns.map V.int)->dN P w H aT.heap->(∀ b,H b≠none->b=a)->(H a≠none->K.lookup a=none)->
   codeAny (model P w) callerA (.call (.ref fa) ⟨[.ref a],[]⟩) (λr s'=>r=.ok (.ret (.bool true))/\OldK aT.heap s'.heap/\s'.os=aT.os/\AllBare s'.gens) aT:=by
  intro H hO hS aK hA hK;have jZ:∀ {b:Addr} {o:Obj},aT.heap.get? b=some o->H b=none->(nZ aT.heap H).get? b=some o:=λe n=>Ka e n;have uP:∀ {b:Addr} {o:Obj} {es:Array DictEntry} {ep:Nat},aT.heap.get? b=some o->o.data=.dict es ep->H b=none:=λ{b o es ep} e d=>by
   cases q:H b with
   | none=>rfl
   | some u=>
    have e':b=a:=hA b (by rw[q];simp);subst e';rw[ha]at e;cases e;have d':Data.seq vs.toArray _=Data.dict es ep:=d;cases d'
  have xF:∀ {b:Addr} {m:Str->Option Value},aT.heap.Ns b m->(nZ aT.heap H).Ns b m:=λ{b m} ⟨o,es,ep,e,d,r⟩=>⟨o,es,ep,jZ e (uP e d),d,r⟩;have D5:K.In (nZ aT.heap H):=λb o e=>jZ (KX b o e) (by
   cases q:H b with
   | none=>rfl
   | some u=>
    have e':b=a:=hA b (by rw[q];simp);subst e';rw[hK (by rw[q];simp)]at e;cases e)
  have hM:Mod K mg (nZ aT.heap H):=⟨D5,xF g8,⟨mb,xF hb,xE⟩,let ⟨mc,h1,h2⟩:=Ag;⟨mc,xF h1,h2⟩⟩;have e0:n_ P w K mg (nZ aT.heap H) callerA [] aT H:=⟨rfl,hM,λb o e=>Kb e,YM (J_ _ _),trivial,λb hb=>absurd (show b∈([]:List Addr)from hb) (by simp),aK,.of_eq hg⟩;refine JK ((F _ D5 (xF g8)).run callerA [] aT H ⟨[.ref a],[]⟩ [.ref a] [.ref a] _ _ hr e0 (uX aT (.ref a)) (.cons rfl .nil) (jz H hO hS)) λr s' h=>?_;cases r with
  | error e=>exact(MD H e s' h).elim
  | ok fl=>
   cases fl with
   | next=>exact False.elim h
   | brk=>exact False.elim h
   | cont=>exact False.elim h
   | ret u=>
    obtain⟨v,H',os,bare,un,qV,r',q⟩:=h;have q':v=.bl true:=q;subst q';obtain rfl:u=Value.bool true:=r';refine⟨rfl,OldK.of_keep λb o e=>?_,os,bare⟩;cases q:H b with
    | none=>exact un.keep b o e q (by intro z;exact absurd (show b∈([]:List Addr)from z) (by simp)) (by simp)
    | some u=>
     rcases hO b with z|⟨ob,xs,z⟩
     .rw[q]at z;cases z
     .have z2:=un.cU b ob _ z;obtain⟨e1,_⟩:=aK b _ z;obtain⟨e2,_⟩:=qV b _ z2;rw[e]at e1;cases e1;exact e2
 cases hk:K.lookup a with
 | some o=>
  have e:=KX a o hk;rw[ha]at e;cases e;refine core (λ_=>none) (λ_=>.inl rfl) (.inr ⟨_,vs.toArray,_,hk,rfl,rfl,rfl,by rw[Qi,Ah];exact hl,by simpa using rv⟩) (λb u z=>by have z':(none:Option HO)=some u:=z;cases z') (λb z=>absurd rfl z) λz=>absurd rfl z
 | none=>
  refine core (λb=>if b=a then some (.fF { cls:=.type "list",data:=.seq vs.toArray } (.lst (ns.map V.int)))else none) (λb=>?_) (.inl (.inr ⟨{ cls:=.type "list",data:=.seq vs.toArray },Qk rfl⟩)) (λb u z=>?_) (λb z=>?_) λ_=>hk
  .by_cases hb:b=a
   .exact .inr ⟨_,_,Qk hb⟩
   .exact .inl (Qw hb)
  .by_cases hb:b=a
   .have z':=(Qk hb).symm.trans z;cases z';subst hb;exact⟨ha,by rw[Qa];exact hl,vs,_,rv,ha⟩
   .have z':=(Qw hb).symm.trans z;cases z'
  .by_cases hb:b=a
   .exact hb
   .exact absurd (Qw hb) z
variable {f:Addr}{fd:FuncData}{ps:List Str}{qual x:Str}{st:Stmt}
def pJ (s:Stmt):Arguments:=match s with
 | .FunctionDef _ a _ _ _ _ _ _ _ _=>a
 | _=>{ posonlyargs:=[],args:=[],vararg:=none,kwonlyargs:=[],kw_defaults:=[],kwarg:=none,defaults:=[] }
def jk (s:Stmt):List Stmt:=match s with
 | .FunctionDef _ _ b _ _ _ _ _ _ _=>b
 | _=>[]
def bh (s:Stmt):Scope:=match s with
 | .FunctionDef _ _ _ _ _ _ sc _ _ _=>sc
 | _=>{ kind:=.function,names:=[],isGenerator:=false,isCoroutine:=false }
abbrev jl:lO:=λ_ _ _ _ _ _=>False
abbrev E0:XK:=λ_ _ _=>False
theorem D6{X:Cx}:xu jl X E0:=λ_ _ _ _ _ _ _ h=>h.elim
structure lT (K:PySem.W.Frag) (x qual:Str) (st:Stmt) (f:Addr) (fd:FuncData):Prop where
 ex:∃ (oc:Value) (od:Option Addr) (kV doc pm:Value) (an:Option Addr) (b6 ct:Value) (og:Array (Option Value)),
  fd=W.fnOf x qual (pJ st) (jk st) (bh st) .none kV doc pm an b6 ct/\K.lookup f=some ⟨oc,od,.func fd,og⟩/\W.codeIn K b6 qual=true
 kp:W.keepIn K (.ref f)=true
section
variable {P:Program}{w:World}{K:PySem.W.Frag}{mg:Str->Option Value}{base:Heap}
theorem lT.ok{N:List Str}{k:Nat}{sp:Sp}(F:lT K x qual st f fd)(S:ah N ps (bh st))(len:∀ vs H Q E,sp vs H Q E->vs.length=ps.length)
  (lP:∀ (b6:Value) (A:Around) (outer:List Env) (s:Shared) (H:Hp) (vs:List V) (Q:VK) (E:XK),bc k (A.deeper (envOfC qual (bh st) s.heap.objs.size f b6))->sp vs H Q E->
    ∃ t,gL (k8 jl P w K mg base N qual (bh st) f b6 A outer s H E).g7 (jk st) t/\t { nx:=λ_ H'=>Q .aO H',rt:=Q } (k7 N vs) H):eG P w K mg base jl (k+1) f fd ps sp:=by obtain⟨oc,od,kV,doc,pm,an,b6,ct,og,rfl,lk,gM⟩:=F.ex;refine DQ lk gM S len λA outer s H vs Q E hr jz=>?_;obtain⟨t,h,q⟩:=lP b6 A outer s H vs Q E hr jz;exact⟨t,h.g7,q⟩
theorem lT.binds(F:lT K x qual st f fd)
  (h:∀ (kV doc pm:Value) (an:Option Addr) (b6 ct:Value) (us:List Value),us.length=ps.length->bindArgs (W.fnOf x qual (pJ st) (jk st) (bh st) .none kV doc pm an b6 ct) ⟨us,[]⟩=pure (ps.zip us)):oa K fd ps []:=by obtain⟨oc,od,kV,doc,pm,an,b6,ct,og,rfl,lk,gM⟩:=F.ex;exact .all (h kV doc pm an b6 ct)
theorem D7{oc:Value}{od an:Option Addr}{og:Array (Option Value)}{kV doc pm b6 ct:Value}(l:K.lookup f=some ⟨oc,od,.func (W.fnOf x qual (pJ st) (jk st) (bh st) .none kV doc pm an b6 ct),og⟩)
  (c:W.codeIn K b6 qual=true) (k:W.keepIn K (.ref f)=true):lT K x qual st f (W.fnOf x qual (pJ st) (jk st) (bh st) .none kV doc pm an b6 ct):=⟨⟨oc,od,kV,doc,pm,an,b6,ct,og,rfl,l,c⟩,k⟩
end
theorem qW{n:Nat}(h:n<=1000):n<sizeLine:=Nat.lt_of_le_of_lt h (by decide)
section
variable {X:Cx}
theorem pv(i:Nat){pos:Pos}(hN:X.N[i]? = some x:=by rfl)(hv:sW X.env.scope x:=by first|exact Or.inl rfl|exact Or.inr (Or.inl rfl)|exact Or.inr (Or.inr rfl))(hd:(x==("__debug__":Str))=false:=by decide)
  (gM:(x==("__classdict__":Str))=false:=by decide):PE X (.Name x pos) (jV i):=Ke hN hv hd gM
end
variable {C c:Addr}{H H':Hp}{P:Program}{cells:List (Str×Addr)}{env:Env}{h:Heap}{i lo:Nat}{o:HO}{s:Shared}{w:World}{y:Str}
theorem ME{prog:Program}{A:Around}{R:Result->Shared->Prop}{elt target iter:Expr}{ifs:List Expr}{scope:Scope}{pos:Pos}{it acc:Value}(I:Nat->Shared->Prop)
  (turn:∀ n s,I n s->wpAny (model prog w) A (pyNext it) (λr aT=>match r with
    | none=>R (.ok .next) aT
    | some v=>wpAny (model prog w) A (letOwnedTupleGo target it v) (λ_ iV=>wpAny (model prog w) A (assign target env v) (λ_ ig=>
      wpAny (model prog w) A (forIn ifs true λc r=>if r=true then do let ok <- isTrue c env (eval c env);pure (ForInStep.yield ok)else pure (ForInStep.yield r)) (λok fw=>
       if ok=true then wpAny (model prog w) A (eval elt env) (λx ip=>
        wpAny (model prog w) A (call (.builtin "list.append") [acc,x]) (λ_ lU=>∃ m,m<n/\I m lU) (λ_ _=>False) ip) (λ_ _=>False) fw
       else ∃ m,m<n/\I m fw) (λ_ _=>False) ig) (λ_ _=>False) iV) (λ_ _=>False) aT) (λ_ _=>False) s)
  (n:Nat) (h:I n s):codeAny (model prog w) A (.compLoop (.ListComp elt [⟨target,iter,ifs,0⟩] scope pos) 0 it acc env) R s:=by
 refine codeAny_loop rfl I (λn s hI=>?_) n h;show wpAny _ A ((compTurn (.ListComp elt [⟨target,iter,ifs,0⟩] scope pos) 0 it acc env).onRaise (λx=>do noteFrame x env;theTreesLotGoes x)) _ _ s;refine wpAny_noted ?_;rw[compTurn_list];refine Qb (Yb (Qb (Q2 (turn n s hI) (λr aT lV=>?_) λ_ _ h'=>h'.elim)));cases r with
 | none=>exact Ql lV
 | some v=>
  refine Qb (Q2 lV (λ_ iV lW=>?_) λ_ _ h'=>h'.elim);refine Qb (Q2 lW (λ_ ig qX=>Qb (Q2 qX (λok fw lX=>?_) λ_ _ h'=>h'.elim)) λ_ _ h'=>h'.elim);cases ok with
  | false=>exact Ql ⟨rfl,lX⟩
  | true=>
   exact Qb (Qb (Q2 lX (λx ip ou=>Qb (Q2 ou (λ_ lU ow=>Ql (Ql ⟨rfl,ow⟩)) λ_ _ h'=>h'.elim)) λ_ _ h'=>h'.elim))
theorem D8{M:Model}{A:Around}{E:Y0}{scope:Scope}{globals:Addr}{cl:List (Str×Addr)}{qual:Str}{outer:Env}{Q:Env->Shared->Prop}
  (hQ:Q (newEnv scope s.heap.objs.size globals (cellsFrom (s.heap.objs.size+1) scope.names cl) qual none .none (some outer) builtinsNs)
    { s with heap:=pushCells (s.heap.push { cls:=.type "dict",data:=.dict #[] }) scope.names }) :
  wpAny M A (newFunctionEnv scope globals cl [] qual none .none (some outer)) Q E s:=by simp only[newFunctionEnv,Option.isSome_some,ZZ];refine Qb (wpAny_alloc ?_);refine Qb (wpAny_layCells _ (λname kind cells=>by cases MF:kind==NameKind.cell<;>simp[MF]) _ _ _ _ ?_);rw[show({ s with heap:=s.heap.push { cls:=.type "dict",data:=.dict #[] } }:Shared).heap.objs.size=s.heap.objs.size+1 from Zi ..];refine Qb ?_;rw[List.forIn_nil];exact Ql (Ql hQ)
def gO (cells:List (Str×Addr)):List (Str×NameKind)->List (Str×Addr)->List (Str×Addr)
 | [],acc=>acc
 | (n,k)::r,acc=>if k == .free then(match cells.lookup n with
   | some c=>gO cells r ((n,c)::acc)
   | none=>gO cells r acc)else gO cells r acc
theorem Ai{scope:Scope}(h:∀ y∈scope.names,y.2=.free->∃ c,env.cells.lookup y.1=some c):closureFor scope env=pure (gO env.cells scope.names []):=by
 unfold closureFor;have key:∀ (names:List (Str×NameKind)) (acc:List (Str×Addr)),(∀ y∈names,y.2=.free->∃ c,env.cells.lookup y.1=some c)->
   (forIn names acc (λ(x:Str×NameKind) (r:List (Str×Addr))=>(match x with
     | (name,kind)=>if(kind==NameKind.free)=true then do
       let c <- cellOf env name
       pure (ForInStep.yield ((name,c)::r))
      else pure (ForInStep.yield r):Sem (ForInStep (List (Str×Addr))))))=(pure (gO env.cells names acc):Sem (List (Str×Addr))):=by
  intro names;induction names with
  | nil=>intro acc _;rfl
  | cons y r ih=>
   intro acc hh;obtain⟨n,kd⟩:=y;rw[List.forIn_cons];unfold gO;by_cases hk:(kd==NameKind.free)=true
   .obtain⟨c,hc⟩:=hh (n,kd) Qd (by simpa using hk);have kB:env.cells.lookup n=some c:=hc;simp only[hk,ZZ,kB];have e:cellOf env n=pure c:=by unfold cellOf;rw[kB]
    rw[e];exact ih ((n,c)::acc) λz hz=>hh z (Qc _ hz)
   .simp only[hk];exact ih acc λz hz=>hh z (Qc _ hz)
 exact(Zr (λm=>m >>= λcs=>(pure cs:Sem (List (Str×Addr)))) (key scope.names [] h)).trans rfl
theorem xG:∀ {names:List (Str×NameKind)} {acc:List (Str×Addr)},(∀ y c,(y,c)∈acc->cells.lookup y=some c)->∀ y c,(y,c)∈gO cells names acc->cells.lookup y=some c
 | [],_,h,y,c,m=>h y c m
 | (n,k)::r,acc,h,y,c,m=>by
  unfold gO at m;split at m
  .split at m;next c' e=>
    refine xG (acc:=(n,c')::acc) (λz d hz=>?_) y c m;rcases Qp.mp hz with q|q
    .cases q;exact e
    .exact h z d q
   .exact xG h y c m
  .exact xG h y c m
theorem xH:∀ {names:List (Str×NameKind)} {acc:List (Str×Addr)} {y:Str},(acc.lookup y).isSome=true->((gO cells names acc).lookup y).isSome=true
 | [],_,_,h=>h
 | (n,k)::r,acc,y,h=>by
  unfold gO;split
  .split
   .refine xH ?_;rw[Q5];split
    .rfl
    .exact h
   .exact xH h
  .exact xH h
theorem uY(hc:cells.lookup y=some c):∀ {names:List (Str×NameKind)} {acc:List (Str×Addr)},(y,NameKind.free)∈names->((gO cells names acc).lookup y).isSome=true
 | (n,k)::r,acc,h=>by
  unfold gO;rcases Qp.mp h with q|q
  .cases q;simp only[hc];rw[Qk (by rfl)];refine xH ?_;rw[Q5,Z8];rfl
  .split
   .split
    .exact uY hc q
    .exact uY hc q
   .exact uY hc q
theorem Aj:∀ {names:List (Str×NameKind)} {h:Heap} {acc:List (Str×Addr)} {y:Str} {c:Addr},(y,c)∈cellsFrom h.objs.size names acc->(y,c)∈acc\/(h.objs.size<=c/\(pushCells h names).IsCell c none)
 | [],_,_,_,_,m=>.inl m
 | (n,k)::r,h,acc,y,c,m=>by
  unfold cellsFrom at m;unfold pushCells;split at m;next hk=>
   rw[Qk hk];have m':(y,c)∈cellsFrom (h.push { cls:=.type "cell",data:=.cell none }).objs.size r ((n,h.objs.size)::acc):=by rw[Zi];exact m
   rcases Aj m' with q|⟨q1,q2⟩
   .rcases Qp.mp q with e|q
    .cases e;refine .inr ⟨Qf _,_,ZU _ _ _ _ (Qy _ rfl),rfl⟩
    .exact .inl q
   .rw[Zi]at q1;exact .inr ⟨by omega,q2⟩
  next hk=>
   rw[Qw hk];exact Aj m
theorem Ak:∀ {names:List (Str×NameKind)} {n:Nat} {acc:List (Str×Addr)},(∀ y c,(y,c)∈acc->c<n)->(∀ x y c,(x,c)∈acc->(y,c)∈acc->x=y)->∀ x y c,(x,c)∈cellsFrom n names acc->(y,c)∈cellsFrom n names acc->x=y
 | [],_,_,_,h=>h
 | (nm,k)::r,n,acc,eN,h=>by
  unfold cellsFrom;split
  .refine Ak (n:=n+1) (acc:=(nm,n)::acc) (λy c m=>?_) (λx y c m1 m2=>?_)
   .rcases Qp.mp m with e|m
    .cases e;exact Zt _
    .exact ZH (eN y c m)
   .rcases Qp.mp m1 with e1|m1<;>rcases Qp.mp m2 with e2|m2
    .cases e1;cases e2;rfl
    .cases e1;exact absurd (eN y _ m2) (Qx _)
    .cases e2;exact absurd (eN x _ m1) (Qx _)
    .exact h x y c m1 m2
  .exact Ak eN h
theorem Al:∀ {names:List (Str×NameKind)} {n:Nat} {acc:List (Str×Addr)},lo<=n->(∀ c,acc.lookup y=some c->lo<=c)->∀ c,(cellsFrom n names acc).lookup y=some c->lo<=c
 | [],_,_,_,h=>h
 | (nm,k)::r,n,acc,hn,h=>by
  unfold cellsFrom;split
  .refine Al (n:=n+1) (by omega) λc e=>?_;rw[Q5]at e;split at e
   .cases e;exact hn
   .exact h c e
  .exact Al hn h
theorem Am:∀ {names:List (Str×NameKind)} {n:Nat} {acc:List (Str×Addr)},lo<=n->(y,NameKind.cell)∈names->∀ c,(cellsFrom n names acc).lookup y=some c->lo<=c
 | (nm,k)::r,n,acc,hn,h=>by
  unfold cellsFrom;rcases Qp.mp h with q|q
  .cases q;rw[Qk (by rfl)];refine Al (n:=n+1) (by omega) λc e=>?_;rw[Q5,Z8]at e;cases e;exact hn
  .split
   .exact Am (n:=n+1) (by omega) q
   .exact Am hn q
theorem An:∀ {names:List (Str×NameKind)} {n:Nat} {acc:List (Str×Addr)},(y,NameKind.cell) ∉ names->(cellsFrom n names acc).lookup y=acc.lookup y
 | [],_,_,_=>rfl
 | (nm,k)::r,n,acc,h=>by
  unfold cellsFrom;split;next hk=>
   rw[An (λz=>h (Qc _ z)),Q5];have eH:(y==nm)=false:=by
    cases e:y==nm with
    | false=>rfl
    | true=>
     have e1:y=nm:=Zy.mp e;have e2:k=NameKind.cell:=by simpa using hk
     exact absurd (by rw[e1,<- e2];exact Qd) h
   rw[eH]
  .exact An λz=>h (Qc _ z)
def pK (env:Env)(y:Str)(k:NameKind):NameKind:=if(k==NameKind.free&&env.scope.kind == .function&&env.kindOf y==some .cell)then .cell else k
theorem Ao{env:Env}{y:Str}:∀ (names:List (Str×NameKind)),(names.map λ(n,k)=>if(k==NameKind.free&&env.scope.kind == .function&&env.kindOf n==some .cell)then(n,NameKind.cell)else(n,k)).lookup y=(names.lookup y).map (pK env y)
 | []=>rfl
 | (n,k)::r=>by
  have ih:=Ao (env:=env) (y:=y) r;show List.lookup y ((if(k==NameKind.free&&env.scope.kind == .function&&env.kindOf n==some .cell)=true then(n,NameKind.cell)else(n,k))::_)=_;cases hx:y==n with
  | true=>
   have e:=Zy.mp hx;subst e;rw[Q5,Q5];by_cases hc:(k==NameKind.free&&env.scope.kind == .function&&env.kindOf y==some .cell)=true
   .simp only[pK,hc,ZZ,Z8,Zq]
   .simp only[pK,hc,Z8,Zq];simp
  | false=>
   by_cases hc:(k==NameKind.free&&env.scope.kind == .function&&env.kindOf n==some .cell)=true
   .rw[Qk hc,Q5,Q5];simp only[hx];exact ih
   .rw[Qw hc,Q5,Q5];simp only[hx];exact ih
theorem D9{l:List (Str×NameKind)}(hn:(l.map (·.1)).Nodup){k:NameKind}(h:(y,k)∈l):l.lookup y=some k:=by
 induction l with
 | nil=>cases h
 | cons p r ih=>
  rw[Q5];rcases Qp.mp h with e|h
  .rw[<- e,Z8]
  .have eH:y≠p.1:=λe=>by have:=(ZT.mp hn).1;exact this (by show p.1∈_;rw[<- e];exact Qm.mpr ⟨(y,k),h,rfl⟩)
   have:(y==p.1)=false:=by simpa using eH
   rw[this];exact ih (ZT.mp hn).2 h
def nu (scope:Scope)(env:Env)(C:Addr):Env:=
 { newEnv scope C env.globals (cellsFrom (C+1) scope.names (gO env.cells scope.names [])) env.qual none .none (some env) builtinsNs with scope:=relabel scope env }
def dw (X:Cx)(N':List Str)(scope:Scope)(C:Addr)(s:Shared)(H:Hp)(fp:List Addr):Cx where
 prog:=X.prog
 w:=X.w
 K:=X.K
 mg:=X.mg
 base:=X.base
 A:=X.A
 N:=N'
 ai:=s
 aD:=H
 env:=nu scope X.env C
 outer:=X.stack
 stack:=X.stack
 ex:=fp
 fn:=λy=>scope.names.lookup y==some .cell
 calm:=X.calm
 pn:=[]
 xe:=λ_ _=>False
structure bL (X:Cx) (k:Nat) (N':List Str) (scope:Scope):Prop where
 kind:scope.kind=.function
 names:(scope.names.map (·.1)).Nodup
 len:N'.length=X.N.length+k
 frees:(scope.names.all λy=>y.2 != .free||X.env.kindOf y.1==some .cell||X.env.kindOf y.1==some .free)=true
 outs:((N'.zip X.N).all λp=>(p.1==p.2&&scope.names.lookup p.1==some .free)||scope.names.lookup p.1==none||scope.names.lookup p.1==some .globalImplicit)=true
theorem bL.free{X:Cx}{k:Nat}{N':List Str}{scope:Scope}(S:bL X k N' scope)(h:(y,NameKind.free)∈scope.names):X.env.kindOf y=some .cell\/X.env.kindOf y=some .free:=by
 have:=QU.mp S.frees (y,NameKind.free) h;simp only[Bool.or_eq_true,bne_iff_ne,ne_eq,Zy]at this;rcases this with(h1|h1)|h1
 .exact absurd trivial h1
 .exact .inl h1
 .exact .inr h1
theorem bL.out{X:Cx}{k:Nat}{N':List Str}{scope:Scope}(S:bL X k N' scope)(fG:i<X.N.length)(h:N'[i]? = some y)(hv:sW (relabel scope X.env) y):X.N[i]? = some y/\scope.names.lookup y=some .free:=by
 have e2:X.N[i]? = some X.N[i]:=by simp[fG]
 have m:(y,X.N[i])∈N'.zip X.N:=YB (i:=i) (by rw[List.getElem?_zip_eq_some];exact⟨h,e2⟩);have:=QU.mp S.outs _ m;simp only[Bool.or_eq_true,QX,Zy]at this;have hl:(relabel scope X.env).names.lookup y=(scope.names.lookup y).map (pK X.env y):=Ao _;rcases this with(⟨h1,h2⟩|h1)|h1
 .exact⟨by rw[e2,<- h1],h2⟩
 .rw[h1]at hl;rcases hv with z|z|z<;>(rw[hl]at z;cases z)
 .rw[h1]at hl;have hr:pK X.env y .globalImplicit=.globalImplicit:=rfl;rw[Zq,hr]at hl;rcases hv with z|z|z<;>(rw[hl]at z;cases z)
theorem Un.qY{fs ex:List Addr}{h':Heap}{D:Addr}(u:Un fs ex H H' h h')(aK:dN P w H h)(hD:h.objs.size<=D):Un fs ex H (upd H' D o) h h':=by
 have ne:∀ b ob,h.get? b=some ob->b≠D:=λb ob e z=>absurd (Qo (Qn e) hD) (by rw[z];exact Qx _);have ne':∀ b x,H b=some x->b≠D:=λb x e z=>absurd (Qo (aK.lt e) hD) (by rw[z];exact Qx _);refine⟨u.keep,u.slot,λb ob e n hx=>?_,u.there,λb xs e=>?_,λb ob x e=>?_,λb ps e=>?_⟩
 .rw[bR (ne b ob e)];exact u.free b ob e n hx
 .rw[bR (ne' b _ e)];exact u.cZ b xs e
 .rw[bR (ne' b _ e)];exact u.cU b ob x e
 .rw[bR (ne' b _ e)];exact u.c_ b ps e
theorem dN.add{D:Addr}(x:dN P w H h)(hn:H D=none)(new:d7 P w (upd H D o) h D o):dN P w (upd H D o) h:=λb u e=>by
 by_cases hb:b=D
 .subst hb;rw[jj]at e;cases e;exact new
 .rw[bR hb]at e;exact(x b u e).gJ (λc v _ q=>q) (λc q=>by rw[bR (kZ q hn)];exact q) λc xs q=>by rw[bR (kZ q hn)];exact q
def pL (X:Cx)(ifs:List Expr)(t:TT):Prop:=
 ∀ (Z_:List (Addr×Obj)) (s:Shared) (σ:St) (H:Hp) (Q:Bool->Hp->Prop),Inv X Z_ σ H s->t σ H Q->
  wpAny (model X.prog X.w) X.A (forIn ifs true λc r=>if r=true then do let ok <- isTrue c X.env (eval c X.env);pure (ForInStep.yield ok)else pure (ForInStep.yield r)) (TP X Z_ σ Q) X.xe s
def MG:TT:=λ_ H Q=>Q true H
theorem MH{X:Cx}:pL X [] MG:=λZ_ s σ H Q I h=>wpAny_tests_nil ⟨H,I,h⟩
theorem MI{X:Cx}{c:Expr}{t:TT}(h:PT X c t):pL X [c] t:=λZ_ s σ H Q I q=>wpAny_tests_one (h Z_ s σ H Q I q)
def Ap (k:Nat)(g:TG)(tt:TT)(te:TE)(σ:St)(J:It)(H:Hp)(Fin:List V->Hp->Prop):Prop:=
 ∃ W:Nat->Nat->List V->Hp->Prop,(∃ m,W 0 m [] H)/\∀ i m ys H2,W i m ys H2->ys.length<=sizeLine /\
  ((J.stop i H2/\Fin ys H2)\/(J.go i H2/\ys.length<sizeLine/\∀ x H3,J.pE i H2 x H3->g x (σ++replicate k none) H3 λqZ H4=>(∃ τ,qZ=σ++τ/\τ.length=k) /\
    tt qZ H4 λb H5=>if b=true then te qZ H5 λv H6=>∃ m',m'<m/\W (i+1) m' (ys++[v]) H6 else ∃ m',m'<m/\W (i+1) m' ys H5))
def tm (k:Nat)(wi:TI)(g:TG)(tt:TT)(te:TE):TE:=λσ H Q=>wi σ H λJ H1=>Ap k g tt te σ J H1 λys H2=>∀ p,H2 p=none->Q (.ref p) (upd H2 p (.lst ys))
def d8 (us:List Value)(n:Nat):Obj:={ cls:=.type "list",data:=.seq us.toArray n }
theorem xI{X:Cx}{Z_:List (Addr×Obj)}{τ σ:St}(I:Inv X Z_ (σ++τ) H s):Inv X Z_ (σ++replicate τ.length none) H s:=
 I.weak (by simp) λi v e=>by
  by_cases hi:i<σ.length
  .rw[QV hi]at e ⊢;exact e
  .rw[Zb (by omega),Zu]at e;split at e<;>cases e
section
variable {X:Cx}{k:Nat}{N':List Str}{scope:Scope}{Z_:List (Addr×Obj)}{σ:St}{H2:Hp}{s2:Shared}{fp:List Addr}
abbrev q8 (scope:Scope)(s2:Shared):Heap:=pushCells ((s2.heap.push (d8 [] 0)).push { cls:=.type "dict",data:=.dict #[] }) scope.names
theorem D_(S:bL X k N' scope)(I2:Inv X Z_ σ H2 s2)(f2:∀ b∈fp,jX X Z_ H2 b)(k_:∀ b∈fp,b<s2.heap.objs.size) :
  Inv (dw X N' scope (s2.heap.objs.size+1) s2 H2 fp) [(s2.heap.objs.size,d8 [] 0)] (σ++replicate k none) H2 { s2 with heap:=q8 scope s2 }:=by
 have e1:(s2.heap.push (d8 [] 0)).objs.size=s2.heap.objs.size+1:=Zi ..;have e2:((s2.heap.push (d8 [] 0)).push { cls:=.type "dict",data:=.dict #[] }).objs.size=s2.heap.objs.size+1+1:=by rw[Zi,e1]
 have keep:∀ b o,s2.heap.get? b=some o->(q8 scope s2).get? b=some o:=λb o e=>ZU _ _ b o (Qh _ (Qh _ e));have dY:∀ y c,(y,c)∈gO X.env.cells scope.names []->X.env.cells.lookup y=some c:=xG (λ_ _ m=>nomatch m);have q9:∀ y c,(y,c)∈cellsFrom (s2.heap.objs.size+1+1) scope.names (gO X.env.cells scope.names [])->X.env.cells.lookup y=some c\/(s2.heap.objs.size+1+1<=c/\(q8 scope s2).IsCell c none):=λy c m=>by
  have m':(y,c)∈cellsFrom ((s2.heap.push (d8 [] 0)).push { cls:=.type "dict",data:=.dict #[] }).objs.size scope.names (gO X.env.cells scope.names []):=by rw[e2];exact m
  rcases Aj m' with q|⟨q1,q2⟩
  .exact .inl (dY y c q)
  .rw[e2]at q1;exact .inr ⟨q1,q2⟩
 have MJ:∀ y c,X.env.cells.lookup y=some c->c<s2.heap.objs.size:=λy c e=>by obtain⟨v,z⟩:=I2.cell y c e;exact z.lt
 have hl:∀ y,(relabel scope X.env).names.lookup y=(scope.names.lookup y).map (pK X.env y):=λy=>Ao _;have ok:(dw X N' scope (s2.heap.objs.size+1) s2 H2 fp).Ok:=by
  refine⟨I2.ok.mod,S.kind,I2.ok.glob,I2.ok.blt,Z2 _,λx y c h1 h2=>?_,λx hx=>?_,λx c hf h=>?_,I2.ok.hd,I2.ok.frames,.inl rfl,λb hb=>⟨?_,λx c h z=>?_⟩,I2.bs,Qq I2.ok.lH I2.sz,λb o e hb=>?_,λb hb z=>?_,I2.stack,I2.eV⟩
  .refine Ak (n:=s2.heap.objs.size+1+1) (names:=scope.names) (acc:=gO X.env.cells scope.names []) (λy c m=>?_) (λx y c m1 m2=>?_) x y c (QH h1) (QH h2)
   .exact Qo (MJ y c (dY y c m)) (by omega)
   .exact I2.ok.inj x y c (dY x c m1) (dY y c m2)
  .have jA:(relabel scope X.env).names.lookup x=some .cell\/(relabel scope X.env).names.lookup x=some .free:=hx;rw[hl x]at jA;have:scope.names.lookup x=some .cell\/scope.names.lookup x=some .free:=by
    cases e:scope.names.lookup x with
    | none=>rw[e]at jA;rcases jA with z|z<;>cases z
    | some kd=>
     rw[e,Zq]at jA;cases kd<;>first
      | exact .inl rfl
      | exact .inr rfl
      | (rcases jA with z|z<;>(have z':=QM z;unfold pK at z';simp at z'))
   rcases this with q|q
   .exact Zh.mp (ZN scope.names (s2.heap.objs.size+1+1) _ (.inl q))
   .have qm:=QH q;have hk:=S.free qm;obtain⟨c,hc⟩:=I2.ok.has x hk;exact Zh.mp (ZN scope.names (s2.heap.objs.size+1+1) _ (.inr (uY hc qm)))
  .have ML:(scope.names.lookup x==some .cell)=true:=hf;have:=Am (lo:=s2.heap.objs.size) (n:=s2.heap.objs.size+1+1) (acc:=gO X.env.cells scope.names []) (by omega) (QH (Zy.mp ML)) c h;exact this
  .have:=k_ b hb;show b≠s2.heap.objs.size+1;exact QS (Qo this (Z2 _))
  .have q:=k_ b hb;rcases q9 x c (QH h)with w|⟨w,_⟩
   .exact(f2 b hb).2.2.2.2.1 x c w z
   .subst z;exact absurd (Qo q (Qq (by omega) w)) (Qx _)
  .rcases(f2 b hb).2.2.2.1 with z|z
   .exact I2.ok.kz b o e z
   .have:=Qn e;have:=I2.ok.lH;exact absurd (Qo (Qn e) (Qq I2.ok.lH z)) (Qx _)
  .rcases Qp.mp (I2.ib b z)with q|q
   .exact(f2 b hb).2.1 q
   .exact(f2 b hb).2.2.1 q
 obtain⟨m,hn,Aq⟩:=id I2.loc;refine⟨ok,rfl,I2.bare,Un.kept keep,⟨λ_=>none,?_,λi y v h1 h2 h3=>?_⟩,λy c h=>?_,I2.aK.fresh (Z2 _),λy c h=>?_,λp hp=>?_,I2.aK.kept keep,?_⟩
 .have:=(Heap.Ns.new (s2.heap.push (d8 [] 0)) (.type "dict")).keeps (ZU scope.names _);rw[e1]at this;exact this
 .by_cases hi:i<σ.length
  .have MM:sW (relabel scope X.env) y:=h3;obtain⟨o1,o2⟩:=S.out (by rw[<- I2.len];exact hi) h1 MM;have hk:=S.free (QH o2);have hs:σ[i]? = some (some v):=by rw[QV hi]at h2;exact h2
   obtain⟨u,r,l⟩:=Aq i y v o1 hs (.inr hk);refine⟨u,r,?_⟩;rcases l with⟨l,_⟩|⟨_,c,hc,jW⟩
   .rcases hk with z|z<;>(rw[l]at z;cases z)
   .refine .inr ⟨?_,c,?_,jW.keeps keep⟩
    .show(relabel scope X.env).names.lookup y=some .cell\/(relabel scope X.env).names.lookup y=some .free;rw[hl y,o2,Zq];unfold pK;split
     .exact .inl rfl
     .exact .inr rfl
    .show(cellsFrom (s2.heap.objs.size+1+1) scope.names (gO X.env.cells scope.names [])).lookup y=some c;rw[An (λz=>by have:=D9 S.names z;rw[o2]at this;cases this)];obtain⟨c',kB⟩:=Zh.mp (uY (acc:=[]) hc (QH o2));have:=dY y c' (QH kB);rw[hc]at this;cases this;exact kB
  .rw[Zb (by omega),Zu]at h2;split at h2<;>cases h2
 .rcases q9 y c (QH h)with w|⟨_,w⟩
  .obtain⟨v,z⟩:=I2.cell y c w;exact⟨v,z.keeps keep⟩
  .exact⟨_,w⟩
 .rcases q9 y c (QH h)with w|⟨w,_⟩
  .exact I2.cQ y c w
  .exact I2.aK.fresh (by omega)
 .have e:p=(s2.heap.objs.size,d8 [] 0):=by have:p ∈ [(s2.heap.objs.size,d8 [] 0)]:=hp;simpa using this
  subst e;refine⟨ZU _ _ _ _ (Qh _ (Qy _ rfl)),I2.aK.fresh (Qf _),?_,λz=>?_,λv z=>nomatch z⟩
  .show s2.heap.objs.size≠s2.heap.objs.size+1;omega
  .have z':s2.heap.objs.size∈bJ X.stack:=z;rcases Qp.mp (I2.ib _ z')with q|q
   .exact absurd I2.lt (by rw[<- q];exact Qx _)
   .exact I2.uC (Qf _) q
 .rw[Qe,Q7,I2.len];exact S.len.symm
theorem Ea{us:List Value}{n:Nat}{ys:List V}{s':Shared}{aP:St}(I2:Inv X Z_ σ H2 s2)(f2:∀ b∈fp,jX X Z_ H2 b)
  (I3:Inv (dw X N' scope C s2 H2 fp) [(s2.heap.objs.size,d8 us n)] aP H' s') (r:bf ys us) (hz:ys.length<=sizeLine):Inv X Z_ σ (upd H' s2.heap.objs.size (.lst ys)) s':=by obtain⟨e,hn,_⟩:=I3.pin (s2.heap.objs.size,d8 us n) (Qg _ (Qu.mpr rfl));have u:Un (bJ X.stack) fp H2 H' s2.heap s'.heap:=I3.base;exact I2.jU (ch:=fp) I3.os (u.qY I2.aK (Qf _)) (I3.aK.add hn ⟨hz,us,n,r,e⟩) I3.bare λb hb=>⟨(f2 b hb).2.2.2.1,(f2 b hb).2.1,(f2 b hb).2.2.2.2⟩
end
theorem Eb{X:Cx}{k:Nat}{N':List Str}{scope:Scope}{Z_:List (Addr×Obj)}{σ:St}{H2:Hp}{s2:Shared}{fp:List Addr}{elt tg iter:Expr}{ifs:List Expr}{pos:Pos}{it:Addr}{tn:Nat->Heap->Prop}{J:It}{g:TG}{tt:TT}{te:TE}{Fin:List V->Hp->Prop}{E:Y0}{RR:Value->Addr->Result->Shared->Prop}
  (hc:X.calm=true) (S:bL X k N' scope) (hg:∀ C s H fp,PG (dw X N' scope C s H fp) tg g) (ht:∀ C s H fp,pL (dw X N' scope C s H fp) ifs tt) (he:∀ C s H fp,PE (dw X N' scope C s H fp) elt te)
  (I2:Inv X Z_ σ H2 s2) (T:Turn X.prog X.w X.K tg J fp it tn) (kC:tn 0 s2.heap) (f2:∀ b∈fp,jX X Z_ H2 b) (R:Ap k g tt te σ J H2 Fin)
  (Ar:∀ C ys H' s' m',Inv X Z_ σ (upd H' s2.heap.objs.size (.lst ys)) s'->s'.heap.Ns C m'->H' s2.heap.objs.size=none->upd H' s2.heap.objs.size (.lst ys) C=none->C≠X.env.locals->X.ai.heap.objs.size<=C->s2.heap.objs.size<C->
    Fin ys H'->RR (.ref s2.heap.objs.size) C (.ok .next) s') :
  wpAny (model X.prog X.w) X.A (newList []) (λacc fw=>wpAny (model X.prog X.w) X.A (newFunctionEnv scope X.env.globals (gO X.env.cells scope.names []) [] X.env.qual none .none (some X.env)) (λfX ip=>
   codeAny (model X.prog X.w) X.A (.compStart (.ListComp elt [⟨tg,iter,ifs,0⟩] scope pos) 0 (.ref it) acc { fX with scope:=relabel scope X.env }) (RR acc fX.locals) ip) E fw) E s2:=by
 refine Q9 (D8 ?_);have e1:(s2.heap.push (d8 [] 0)).objs.size=s2.heap.objs.size+1:=Zi ..;have k_:∀ b∈fp,b<s2.heap.objs.size:=λb hb=>by obtain⟨o,e,_⟩:=T.obj _ _ kC b hb;exact Qn e
 obtain⟨W,⟨m0,w0⟩,turn⟩:=R;have I3:=D_ S I2 f2 k_;have pG:tn 0 (q8 scope s2):=T.keep _ _ _ kC λb hb o e=>ZU _ _ b o (Qh _ (Qh _ e));have As:s2.heap.objs.size≠s2.heap.objs.size+1:=by omega
 have fW:∀ {H':Hp} {us:List Value} {n:Nat},(∀ b∈fp,H' b=none)->∀ b∈fp,jX (dw X N' scope (s2.heap.objs.size+1) s2 H2 fp) [(s2.heap.objs.size,d8 us n)] H' b:=λ{H' us n} hn b hb=>by
  have q:=I3.ok.uB b hb;refine⟨hn b hb,q.1,I3.ok.jx b hb,.inl hb,q.2,λp hp z=>?_⟩;have lY:p ∈ [(s2.heap.objs.size,d8 us n)]:=hp;have e:p=(s2.heap.objs.size,d8 us n):=by simpa using lY
  subst e;have:=k_ b hb;have z':s2.heap.objs.size=b:=z;exact absurd this (by rw[z'];exact Qx _)
 have loop:∀ uZ,uZ=Value.ref it->codeAny (model X.prog X.w) X.A (.compLoop (.ListComp elt [⟨tg,iter,ifs,0⟩] scope pos) 0 uZ (.ref s2.heap.objs.size) (nu scope X.env (s2.heap.objs.size+1))) (RR (.ref s2.heap.objs.size) (s2.heap.objs.size+1)) { s2 with heap:=q8 scope s2 }:=by
  rintro _ rfl;refine ME (λn s'=>∃ i ys us cnt H',Inv (dw X N' scope (s2.heap.objs.size+1) s2 H2 fp) [(s2.heap.objs.size,d8 us cnt)] (σ++replicate k none) H' s'/\tn i s'.heap/\(∀ b∈fp,H' b=none)/\bf ys us/\W i n ys H') ?_ m0
   ⟨0,[],[],0,H2,I3,pG,λb hb=>(f2 b hb).1,.nil,w0⟩
  rintro n s3 ⟨i,ys,us,cnt,H3,J3,st,fr,r3,w3⟩;obtain⟨hz,hw⟩:=turn i n ys H3 w3;rcases hw with⟨stop,fin⟩|⟨go,eN,step⟩
  .refine a_ (T.done (dw X N' scope (s2.heap.objs.size+1) s2 H2 fp) rfl rfl rfl hc i _ s3 _ H3 _ J3 (fW fr) st stop) λrr s4 ⟨hr,I4⟩=>?_;subst hr;obtain⟨m',lJ,_⟩:=id I4.loc;obtain⟨eD,nD,_⟩:=I4.pin (s2.heap.objs.size,d8 us cnt) (Qg _ (Qu.mpr rfl));refine Ar (s2.heap.objs.size+1) ys H3 s4 m' (Ea I2 f2 I4 r3 hz) lJ nD ?_ ?_ ?_ (Zt _) fin
   .rw[bR (ZM As)];exact I4.free
   .exact ZM (QS (Qo I2.lt (Z2 _)))
   .have:=I2.sz;omega
  .refine a_ (T.item (dw X N' scope (s2.heap.objs.size+1) s2 H2 fp) rfl rfl rfl hc i _ s3 _ H3 _ J3 (fW fr) st go) λrr s4 ⟨u,hr,h4⟩=>?_;subst hr;refine a_ h4 λ_ s5 ak=>?_;obtain⟨x,H5,I5,r5,y5,lL,uJ⟩:=ak;have uK:=I5.pinned (fW uJ) (T.obj _ _ lL);refine a_ (hg _ _ _ _ _ s5 _ H5 x u _ uK r5 (step x H5 y5)) λ_ s6 ⟨zO,H6,I6,⟨τ,e6,l6⟩,q6⟩=>?_;subst e6;refine a_ (ht _ _ _ _ _ s6 _ H6 _ I6 q6) λok s7 ak=>?_;obtain⟨H7,I7,q7⟩:=ak;have kept:∀ {s':Shared} {H':Hp} {aP:St},Inv (dw X N' scope (s2.heap.objs.size+1) s2 H2 fp) ([(s2.heap.objs.size,d8 us cnt)]++k6 fp s5.heap) aP H' s'->tn (i+1) s'.heap/\∀ b∈fp,H' b=none:=λ{s' H' aP} I'=>by refine⟨T.keep _ _ _ lL λb hb o e=>(I'.pin (b,o) (Qg _ (Qg _ (s_ hb e)))).1,λb hb=>?_⟩;obtain⟨o,e,d⟩:=T.obj _ _ lL b hb;exact(I'.pin (b,o) (Qg _ (Qg _ (s_ hb e)))).2.1
   cases ok with
   | false=>
    rw[Qw (by decide)]at q7 ⊢;obtain⟨m',hm,w7⟩:=q7;have:=xI I7.dO;rw[l6]at this;exact⟨m',hm,i+1,ys,us,cnt,H7,this,(kept I7).1,(kept I7).2,r3,w7⟩
   | true=>
    rw[Qk rfl]at q7 ⊢;refine a_ (he _ _ _ _ _ s7 _ H7 _ I7 q7) λu8 s8 ak=>?_;obtain⟨v,H8,I8,r8,m',hm,w8⟩:=ak;obtain⟨eD,nD,u0,Au,dD⟩:=I8.pin (s2.heap.objs.size,d8 us cnt) (Qg _ (QW _ (Qu.mpr rfl)));refine append_at eD (λh9 u4 Av=>?_) (hsz:=by rw[Qi,<- r3.length];exact ZG eN);have Ia:=I8.dW (pins':=k6 fp s5.heap) λp hp=>I8.pin p (Qg _ (Qg _ hp));have q_:∀ p∈k6 fp s5.heap,p.1≠s2.heap.objs.size:=λp hp z=>by have:=k_ p.1 (zN hp).1;exact absurd this (by rw[z];exact Qx _)
    have Ib:=Ia.turned (h':=h9) (t':=s8.toks) (it:=s2.heap.objs.size) (λb o hb e=>u4.extBut b o hb e) nD u0 (.inr (Qf _)) (λy c h z=>by
      obtain⟨vv,o,ho,hd⟩:=I8.cell y c h;rw[z,eD]at ho;cases ho;cases hd) (λp hp=>q_ p (by have lY:p ∈ []++k6 fp s5.heap:=hp;simpa using lY))
    have Ic:=Ib.dW (pins':=[(s2.heap.objs.size,d8 (us++[u8]) (cnt+1))]) λp hp=>by
     have e:p=(s2.heap.objs.size,d8 (us++[u8]) (cnt+1)):=by simpa using hp
     subst e;refine⟨?_,nD,u0,Au,λv z=>nomatch z⟩;show h9.get? s2.heap.objs.size=_;rw[Av];unfold d8;simp
    have Id:=xI Ic;rw[l6]at Id;have kp:=kept I8;refine⟨m',hm,i+1,ys++[v],us++[u8],cnt+1,H8,Id,T.keep _ _ _ kp.1 λb hb o e=>u4.extBut b o (λz=>by have:=k_ b hb;have z':b=s2.heap.objs.size:=z;exact absurd this (by rw[z'];exact Qx _)) e,kp.2,bf.append r3 (.cons r8 .nil),w8⟩
 have hC:(s2.heap.push { cls:=.type "list",dict:=none,data:=.seq ([]:List Value).toArray }).objs.size=s2.heap.objs.size+1:=Zi ..;have fin:=codeAny_compStart_list (loop _ rfl) (T.self X.A 0 _ _ _ pG (loop _ rfl));dsimp only at fin ⊢;rw[hC];exact fin
theorem bL.locs{X:Cx}{k:Nat}{N':List Str}{scope:Scope}(S:bL X k N' scope):∀ y∈scope.names,y.2=.local->scope.names.lookup y.1=some .local:=λy hy e=>by obtain⟨n,kd⟩:=y;have e':kd=.local:=e;subst e';exact D9 S.names hy
theorem xJ{m:Str->Option Value}{v:Option Value}(hn:h.Ns C m)(hc:h.IsCell c v):c≠C:=λz=>by obtain⟨o,es,ep,ho,hd,_⟩:=hn;obtain⟨o',gK,nh⟩:=hc;rw[z,ho]at gK;cases gK;rw[hd]at nh;cases nh
section
variable {X:Cx}{k:Nat}{N':List Str}{scope:Scope}{elt tg iter:Expr}{ifs:List Expr}{pos:Pos}{wi:TI}{g:TG}{tt:TT}{te:TE}
theorem MN(hc:X.calm=true)(S:bL X k N' scope)(hi:PI X tg iter wi)(hg:∀ C s H fp,PG (dw X N' scope C s H fp) tg g)(ht:∀ C s H fp,pL (dw X N' scope C s H fp) ifs tt)(he:∀ C s H fp,PE (dw X N' scope C s H fp) elt te)
  (hs:∀ x,foldedSetIterable iter X.env x=pure x:=by intro _;rfl):PE X (.ListComp elt [⟨tg,iter,ifs,0⟩] scope pos) (tm k wi g tt te):=by
 intro Z_ s σ H Q I h;rw[eval_ListComp];refine Jd (use:=none) rfl hs (Ai λy hy e=>?_) S.kind S.locs (a_ (hi Z_ s σ H _ I h) λv s1 h1=>a_ h1 λuH s2 h2=>?_)
 .obtain⟨n,kd⟩:=y;have e':kd=.free:=e;subst e';exact I.ok.has n (S.free hy)
 .obtain⟨it,fp,tn,J,H2,e,I2,T,kC,f2,R⟩:=h2;subst e;refine Eb hc S hg ht he I2 T kC f2 R ?_;intro C ys H' s' m' I' hn hD u5 tq u6 u7 fin;refine⟨m',hn,λh' j0=>⟨.ref s2.heap.objs.size,_,I'.turned (h':=h') (t':=s'.toks) (it:=C) (λb o hb e=>j0.extBut b o hb e) u5 tq (.inr u6) (λx c h=>?_) (λp hp z=>?_),rfl,fin _ hD⟩⟩
  .obtain⟨v,q⟩:=I'.cell x c h;exact xJ hn q
  .have:=Qn (I2.pin p hp).1;exact absurd (Zj this u7) (by rw[z];exact Qx _)
theorem MO{py iW:Pos}(hN:X.N.Nodup)(hy:X.N[i]? = some y)(hx:Loc X.env.scope y)(rf:swapsWith (.ListComp elt [⟨tg,iter,ifs,0⟩] scope pos) (some (.Name y py)) iW.line X.env=pure true)
  (hc:X.calm=true) (S:bL X k N' scope) (hi:PI X tg iter wi) (hg:∀ C s H fp,PG (dw X N' scope C s H fp) tg g) (ht:∀ C s H fp,pL (dw X N' scope C s H fp) ifs tt) (he:∀ C s H fp,PE (dw X N' scope C s H fp) elt te)
  (hs:∀ x,foldedSetIterable iter X.env x=pure x:=by intro _;rfl) (hf:X.fn y=true\/X.env.scope.names.lookup y=some .local:=by first|exact .inl rfl|exact .inr rfl|assumption) :
  PS X (.Assign [.Name y py] (.ListComp elt [⟨tg,iter,ifs,0⟩] scope pos) iW) (zI (tm k wi g tt te) (zH i)):=by
 intro Z_ s σ H D I h;rw[exec_Assign_Name_used _ _ _ _ rf];refine Qb (Yb (Qb ?_));show wpAny _ X.A (do let _ <- comprehension (.ListComp elt [⟨tg,iter,ifs,0⟩] scope pos) scope X.env _ (newList []) false (eval iter X.env) (some (assign (.Name y py) X.env))) _ _ s;refine Qb (Q2 (Jd (use:=some (assign (.Name y py) X.env)) (Q:=λ_ s'=>SP X Z_ D .next s') rfl hs (Ai λz hz e=>?_) S.kind S.locs
  (a_ (hi Z_ s σ H _ I h) λv s1 h1=>a_ h1 λuH s2 h2=>?_)) (λ_ s' hq=>Ql (Ql hq)) λ_ _ e=>e)
 .obtain⟨n,kd⟩:=z;have e':kd=.free:=e;subst e';exact I.ok.has n (S.free hz)
 .obtain⟨it,fp,tn,J,H2,e,I2,T,kC,f2,R⟩:=h2;subst e;refine Eb hc S hg ht he I2 T kC f2 R ?_;intro C ys H' s' m' I' hn hD u5 tq u6 u7 fin;show wpAny _ X.A (assign (.Name y py) X.env (.ref s2.heap.objs.size)) _ _ _;refine wpAny_assign_Name (Dm I' hN hy hx (v:=.ref s2.heap.objs.size) rfl (λpI Ec ⟨a,sb,ha⟩=>?_) hf);have MP:C≠a:=λz=>by
   rcases ha with q|q
   .exact tq (z.trans q)
   .obtain⟨v,w⟩:=I'.cell y a q;exact xJ hn w z.symm
  have xK:=hn.sameBut sb MP;refine⟨m',xK,λh' j0=>⟨_,_,Ec.turned (h':=h') (t':=pI.toks) (it:=C) (λb o hb e=>j0.extBut b o hb e) u5 tq (.inr u6) (λx c h=>?_) (λp hp z=>?_),fin _ hD⟩⟩
  .obtain⟨v,q⟩:=Ec.cell x c h;exact xJ xK q
  .have:=Qn (I2.pin p hp).1;exact absurd (Zj this u7) (by rw[z];exact Qx _)
end
end L2
namespace L3
open PySem PySem.Spec PyProof.Rows PySem.W L2
variable {M:Model}{Q:Y0}{R:Result->Shared->Prop}{T:String}{h:Heap}
section
variable {prog:Program}{w:World}{A:Around}{E:Y0}{s:Shared}{K:Frag}{x C:Addr}{ox:Obj}
structure jm (h:Heap) (x:Addr) (ox:Obj) (C:Addr):Prop where
 at_:h.get? x=some ox
 cls:ox.cls=.ref C
theorem jm.type(I:jm h x ox C):Looks M h (typeOf (.ref x)) (.ref C):=I.cls ▸ (Looks.ld I.at_).andThen .now
structure fy (K:Frag) (C:Addr):Prop where
 ci:(clsIn K C).isSome=true
 ga:findIn K (.ref C) "__getattribute__" = some (some (.builtin "BaseException.__getattribute__"))
 gt:findIn K (.ref C) "__getattr__" = some none
 cl:findIn K (.ref C) "__class__" = some (some (.builtin "object.__class__"))
 cg:specialIn K (.builtin "object.__class__") "__get__" = some (some (.builtin "getset_descriptor.__get__"))
 ct:takesIn K (.builtin "object.__class__")=some true
 mo:mroIn K C (.type "object")=some true
 mb:mroIn K C (.type "BaseException")=some true
theorem MQ(X:K.In h)(I:jm h x ox C)(XC:fy K C):Looks M h (Builtin.ObjectAttr.find (.ref x) (.ref C) "__class__") (.bind (.builtin "getset_descriptor.__get__") (.builtin "object.__class__")):=by have L1:=looks_findIn (M:=M) X XC.cl;have L2:Looks M h (Builtin.ObjectAttr.getOf (some (.builtin "object.__class__"))) _:=looks_specialIn (M:=M) X XC.cg;have L3:=looks_takesIn (M:=M) X XC.ct;exact L1.andThen (L2.andThen ((show Looks M h (Builtin.ObjectAttr.dataDescriptor? (some (.builtin "object.__class__")) (some (.builtin "getset_descriptor.__get__"))) (some ((.builtin "getset_descriptor.__get__"),(.builtin "object.__class__")))from L3.andThen .now).andThen (Looks.tag .now)))
theorem MR{tp:Value}(X:K.In s.heap)(I:jm s.heap x ox C)(hm:mroIn K C (.type "object")=some true)
  (h:R (.ok (.ret (.ref C))) s):codeAny (model prog w) A (.call (.builtin "getset_descriptor.__get__") ⟨[.builtin "object.__class__",.ref x,tp],[]⟩) R s:=by
 obtain⟨hh,g,dr,t,os⟩:=s;have L0:=I.type (M:=model prog w);have L1:=looks_mroIn (M:=model prog w) X hm;refine Z3 KF.slot_gs.plain KF.entry_gs (KF.slot_gs.check _ _ _ _ _ _ _ _ KF.type_class (KF.args_gs _ _ _) ?_);unfold Builtin.«getset_descriptor.__get__» Builtin.Getset_descriptor.descrGet;rw[dga_obj];refine Qb (Ql ?_);unfold Builtin.Getset_descriptor.descrGetter Builtin.Getset_descriptor.descrCheckInstance Builtin.Getset_descriptor.descrNameAndClass isInstance;simp only[KF.owner_class]
 repeat lk
 refine⟨Code.quiet_builtin _ (by decide +kernel),JD KF.entry_class ?_⟩;unfold Builtin.«object.__class__» shownTypeOf
 repeat lk
 exact h
theorem MS{pM:Value}{Q:Unit->Shared->Prop}(X:K.In s.heap)(I:jm s.heap x ox C)(XC:fy K C)(hq:Q () s):wpAny M A (checkBuiltinCall "BaseException.__getattribute__" ⟨[.ref x,pM],[]⟩) Q E s:=by
 obtain⟨hh,g,d,t,os⟩:=s;have L0:=I.type (M:=M);have L1:=looks_mroIn (M:=M) X XC.mb;have hk:builtinKind "BaseException.__getattribute__" = some .slot:=by decide +kernel
 have rg:splitId "BaseException.__getattribute__" = some ("BaseException","__getattribute__"):=by decide +kernel
 have ha:=PySem.F.args_bexc_ga (.ref x) pM;simp only[checkBuiltinCall,hk,rg];unfold isInstance
 repeat lk
 exact hq
theorem MT{tk:Tok}(X:K.In s.heap)(I:jm s.heap x ox C)(XC:fy K C)(h:R (.ok (.ret (.ref C))) s) :
  codeAny (model prog w) A (.call (.builtin "BaseException.__getattribute__") ⟨[.ref x,.str "__class__" tk],[]⟩) R s:=by refine Z3 JR.ga.plain PySem.F.entry_bexc_ga (MS X I XC ?_);obtain⟨hh,g,d,t,os⟩:=s;have L0:=I.type (M:=model prog w);have L1:=MQ (M:=model prog w) X I XC;show wpAny _ _ (Builtin.«object.__getattribute__» ⟨[.ref x,.str "__class__" tk],[]⟩) _ _ _;refine Qb (Ql ?_);refine Qb (Ql ?_);refine Qb (L0.at (Qb (L1.at ?_)));show wpAny _ _ (holding [.builtin "object.__class__"] (call (.builtin "getset_descriptor.__get__") [.builtin "object.__class__",.ref x,.ref C]) >>= ret) _ _ _;exact Qb (ZI (wpAny_call (MR X I XC.mo (Ql h))))
theorem MU{Q:Option Value->Shared->Prop}(X:K.In s.heap)(I:jm s.heap x ox C)(XC:fy K C)(h:Q (some (.ref C)) { s with toks:=s.toks+1 }):wpAny (model prog w) A (getAttr? (.ref x) "__class__") Q E s:=by obtain⟨hh,g,d,t,os⟩:=s;have L0:=I.type (M:=model prog w);have L1:=looks_findIn (M:=model prog w) X XC.ga;have L2:=looks_findIn (M:=model prog w) X XC.gt;have f3:=JR.ga.bind (.ref x);unfold getAttr? getAttrBy? getAttrBy;refine Qb (wpAny_mkText (Qb (wpAny_attempt (ZI (Qb (L0.at (Qb (L1.at ?_))))))));show wpAny _ _ (getAttrByItsOwn _ _ _ _ _ _) _ _ _;unfold getAttrByItsOwn;refine Qb (L2.at ?_);refine Qb (wpAny_attempt (ZI ?_));show wpAny _ _ (boundAndCalled _ _ _) _ _ _;unfold boundAndCalled;rw[f3];refine Qb (Ql ?_);show wpAny _ _ (call (.builtin "BaseException.__getattribute__") [.ref x,.str "__class__" t]) _ _ _;refine wpAny_call (MT (s:=⟨hh,g,d,t+1,os⟩) X I XC ?_);exact handed_on rfl (Ql h)
theorem Aw{D:Addr}(X:K.In h)(e:(clsIn K D).isSome=true):Looks M h (isType (.ref D)) true:=by
 unfold clsIn at e;split at e;next c' d' Xh jT ho=>
  intro A' Q' E' s' k q;unfold isType loadHead;exact Qb (wpAny_loadPart (k _ _ (X _ _ ho)) (Ql q))
 .cases e
theorem Ed{c:Value}{lZ:Int}{tk:Tok}{Q:Fin->Shared->Prop}(X:K.In s.heap)(I:jm s.heap x ox C)(XC:fy K C)(oo:Looks (model prog w) s.heap (typeOf c) (.type "type"))(MV:Looks (model prog w) s.heap (isType c) true)
  (eH:(Value.ref C==c)=false) (dY:Looks (model prog w) s.heap (isSubtype (.ref C) c) false) (h:Q (.done (.ret (.bool false))) { s with toks:=s.toks+1 }) :
  wpAny (model prog w) A (Builtin.«isinstance.nested» ⟨[.ref x,c,.int lZ tk],[]⟩) Q E s:=by
 have Ax:=Aw (M:=model prog w) X XC.ci;obtain⟨h0,g,d,tt,os⟩:=s;have L0:=I.type (M:=model prog w);have LI:Looks (model prog w) h0 (isInstance (.ref x) c) false:=L0.andThen dY;unfold Builtin.«isinstance.nested»;refine Qb (L0.at ?_);rw[Qw (λq=>by rw[eH]at q;exact Bool.noConfusion q)];refine Qb (oo.at ?_);rw[Qk (by decide)]
 k_delta "plainIsInstance"
 refine Qb (Qb (MV.at ?_));simp only[YK,ZP,JQ];refine Qb (LI.at ?_);simp only[ZP,JQ];refine Qb (MU X I XC ?_);refine Qb (Ax.at ?_);simp only[YK,ZP,JQ];refine Qb (wpAny_rule ?_);refine dY.at ?_
 first
  | exact Ql h
  | exact Ql (Ql h)
  | exact Qb (Ql (Ql h))
theorem MW{D:Addr}(X:K.In s.heap)(I:jm s.heap x ox C)(XC:fy K C)(e:kin_not K C D=true)(h:Q (.bool false) { s with toks:=s.toks+1 }):wpAny (model prog w) A (call (.builtin "isinstance") [.ref x,.ref D]) Q E s:=by
 unfold kin_not at e;rw[QX,QX,QX]at e;obtain⟨⟨⟨e0,e1⟩,e2⟩,e3⟩:=e;have eH:(Value.ref C==Value.ref D)=false:=Bool.eq_false_iff.mpr λq=>Zv e0 (Value.ref.inj (Zy.mp q));exact Yu (S:=λ_ R s=>(K.In s.heap/\jm s.heap x ox C)/\R (.ok (.ret (.bool false))) { s with toks:=s.toks+1 })
  (λ_ _ _ _ _ hs=>Ye (Ed hs.1.1 hs.1.2 XC (looks_typeIn hs.1.1 (Zy.mp e2)) (Aw hs.1.1 e1) eH (YC hs.1.1 (Zy.mp e3)) hs.2) (by intro q;cases q)) ⟨⟨X,I⟩,h⟩
theorem MX{D:Addr}(X:K.In s.heap)(I:jm s.heap x ox C)(e:isIn K (.ref C) D=true)(h:Q (.bool true) s):wpAny (model prog w) A (call (.builtin "isinstance") [.ref x,.ref D]) Q E s:=
 isi_call X (λM=>I.type) e (by intro q;cases q) h
theorem MY(X:K.In s.heap)(I:jm s.heap x ox C)(oo:typeOf (.type T)=pure (.type "type"))(e:subIn K (.ref C) (.type T)=some true)(h:Q (.bool true) s):wpAny (model prog w) A (call (.builtin "isinstance") [.ref x,.type T]) Q E s:=
 Yu (S:=λ_ R s=>(K.In s.heap/\jm s.heap x ox C)/\R (.ok (.ret (.bool true))) s) (λprog w A R s hs=>Ye (by
  obtain⟨⟨X,I⟩,h⟩:=hs;obtain⟨h0,g,d,tt,os⟩:=s;have L0:=I.type (M:=model prog w);have LI:Looks (model prog w) h0 (isInstance (.ref x) (.type T)) true:=L0.andThen (YC X e);have hT:Looks (model prog w) h0 (typeOf (.type T)) (.type "type"):=Jx oo;have hI:Looks (model prog w) h0 (isType (.type T)) true:=Jx rfl;unfold Builtin.«isinstance.nested»;refine Qb (L0.at ?_);rw[Qw (λq=>by cases Zy.mp q)];refine Qb (hT.at ?_);rw[Qk (by decide)]
  k_delta "plainIsInstance"
  refine Qb (Qb (hI.at ?_));simp only[YK,ZP,JQ];refine Qb (LI.at ?_);simp only[ZZ];exact Ql (Ql h)) (by intro q;cases q)) ⟨⟨X,I⟩,h⟩
theorem MZ(X:K.In s.heap)(I:jm s.heap x ox C)(XC:fy K C)(oo:typeOf (.type T)=pure (.type "type"))(e:subIn K (.ref C) (.type T)=some false)(h:Q (.bool false) { s with toks:=s.toks+1 }):wpAny (model prog w) A (call (.builtin "isinstance") [.ref x,.type T]) Q E s:=
 Yu (S:=λ_ R s=>(K.In s.heap/\jm s.heap x ox C)/\R (.ok (.ret (.bool false))) { s with toks:=s.toks+1 })
  (λ_ _ _ _ _ hs=>Ye (Ed hs.1.1 hs.1.2 XC (Jx oo) (Jx rfl) (Bool.eq_false_iff.mpr λq=>by cases Zy.mp q) (YC hs.1.1 e) hs.2) (by intro q;cases q)) ⟨⟨X,I⟩,h⟩
end
def Ay:List Value:=[.type "ValueError",.type "Exception",.type "BaseException",.type "object"]
structure iX (K:Frag) (nm:Str) (C:Addr):Prop where
 ns:nsIn K mainGlobals nm=some (some (.ref C))
 xc:fy K C
 ex:excIn K C Ay "ValueError.__new__" = true
 ve:subIn K (.ref C) (.type "ValueError")=some true
 no:∀ T ∈ ["int","bool","tuple","list","str"],subIn K (.ref C) (.type T)=some false
def XO (K:Frag)(nm:Str)(ob:Obj):Prop:=∃ C,ob.cls=.ref C/\iX K nm C
end L3
namespace L3
open PySem PySem.Spec PyProof.Rows L2
variable {F:List Addr}{H' H1 H2:Hp}{N ps:List Str}{deep:Bool}{fd:FuncData}{h:Int->Int->V}{i n t':Nat}{op:CmpOp}{r:R2}{u:Tok}{v:V}{vs xs:List V}{x:HO}{y:Option HO}
theorem xM:Slot "function" "__getattribute__" "object.__getattribute__" :=
 .of (owner:="object") (n:="__getattribute__") (by rw[typeLookup_type,builtinLookup_eq_fast];kernel_rfl) (by decide +kernel) (by decide +kernel) (by decide +kernel)
  (by first|exact .inl (by decide +kernel)|exact .inr (by decide +kernel)) (by rw[isSubtype_type];kernel_rfl)
theorem M0:typeLookup (.type "function") "__class__" = pure (some (.builtin "object.__class__")):=by rw[typeLookup_type,builtinLookup_eq_fast];kernel_rfl
theorem M1:isSubtype (.type "function") (.type (".".intercalate ("object.__class__".cutAt '.').dropLast))=pure true:=by rw[PySem.F.owner_object_class,isSubtype_type];kernel_rfl
theorem M2:entryFor table "object.__getattribute__" = some Builtin.«object.__getattribute__»:=entryFor_of_tree (by kernel_rfl)
theorem M3(a b:Value):argsOk "object.__getattribute__" ⟨[a,b],[]⟩:=by unfold argsOk;kernel_rfl
section
variable {prog:Program}{w:World}{A:Around}{E:Y0}{s:Shared}{a:Addr}
theorem M4{R:Result->Shared->Prop}(hT:s.TypeIs (.ref a) "function")(hq:R (.ok (.ret (.type "function"))) s) :
  codeAny (model prog w) A (.call (.builtin "getset_descriptor.__get__") ⟨[.builtin "object.__class__",.ref a,.type "function"],[]⟩) R s:=by
 obtain⟨h,g,d,t,os⟩:=s;have h5:(⟨h,g,d,t,os⟩:Shared).TypeIs (.builtin "object.__class__") "getset_descriptor":=Z0;have f8:=M1;refine Z3 JG.plain PySem.F.entry_gs_get (JG.check _ _ _ _ _ _ _ _ h5 (PySem.F.args_gs_get _ _ _) ?_)
 repeat (any_goals (first|assumption|wp_step))
 refine⟨Code.quiet_builtin _ (by decide +kernel),JD PySem.F.entry_object_class ?_⟩
 repeat (any_goals (first|assumption|wp_step))
theorem M5{Q:Option Value->Shared->Prop}(hT:s.TypeIs (.ref a) "function")(hq:Q (some (.type "function")) { s with toks:=s.toks+1 }):wpAny (model prog w) A (getAttr? (.ref a) "__class__") Q E s:=by
 obtain⟨h,g,d,t,os⟩:=s;have Ee:∀ t',(⟨h,g,d,t',os⟩:Shared).TypeIs (.ref a) "function":=λ_=>hT;have en:∀ {tk:Tok} {t':Nat} {Q:Fin->Shared->Prop} {E:Y0} {A:Around},Q (.done (.ret (.type "function"))) ⟨h,g,d,t',os⟩->
   wpAny (model prog w) A (Builtin.«object.__getattribute__» ⟨[.ref a,.str "__class__" tk],[]⟩) Q E ⟨h,g,d,t',os⟩:=by
  intro tk t' Q E A hq;have hT:=Ee t';have h5:(⟨h,g,d,t',os⟩:Shared).TypeIs (.builtin "object.__class__") "getset_descriptor":=Z0;have f4:=M0;have f5:=Z0;have f6:=JG.lookup;have f7:=PySem.F.slot_gs_set.lookup
  repeat (any_goals (first|assumption|wp_step))
  refine M4 hT ?_
  repeat (any_goals (first|assumption|wp_step))
 have M6:∀ {tk:Tok} {t':Nat} {Q:Y0} {E:Y0} {A:Around},Q (.type "function") ⟨h,g,d,t',os⟩->wpAny (model prog w) A (getAttrBy (.ref a) (.str "__class__" tk) false) Q E ⟨h,g,d,t',os⟩:=by
  intro tk t' Q E A hq;have hT:=Ee t';have f2:=xM.lookup;have f3:=xM.bind (.ref a)
  repeat (any_goals (first|assumption|wp_step))
  refine Z3 xM.plain M2 (xM.check _ _ _ _ _ _ _ _ hT (M3 _ _) (en ?_))
  repeat (any_goals (first|assumption|wp_step))
 unfold getAttr? getAttrBy?
 repeat (any_goals (first|assumption|with_reducible apply M6 | wp_step))
theorem M7{K:PySem.W.Frag}:PySem.W.KitX K (.ref a) (.type "function") (PySem.W.KitAt a "function"):=W.kitx_of W.kitAt_ty (λ{_ _ _ _ _ s} p k=>M5 (by obtain⟨o,h1,h2⟩:=p;exact⟨o,h1,h2⟩) k)
end
theorem nM{α:Type}{P:α->Prop}(a:α)(z:a∈([]:List α)):P a:=nomatch z
inductive MK where
 | t (ks:List (List Key))
 | k (ks:List Key)
 | i (nm:Str) (fs:List Str) (p:Option Addr)
 | l (n:Nat) (p:Option Addr)
def MK.len:MK->Nat
 | .t ks=>ks.length
 | .k ks=>ks.length
 | .i _ fs _=>fs.length
 | .l n _=>n
inductive D where
 | aO|bl (b:Bool)|int (i:Int)|str (x:Str)|tup (ds:List D)|lst (ds:List D)
 | iY (ks:List Str) (ds:List D)
 | exc (nm:Str)
 | ob (f:Addr) (fo:Obj) (vs:List V) (ds:List D)
 | mp (k:MK) (ds:List D)
abbrev St:=L2.St
inductive Ow where
 | s (i:Nat)|t (i:Nat)|f
 deriving DecidableEq
abbrev Wn:=Addr->Option Ow
def KL (K:PySem.W.Frag)(a:Addr)(xs:List V):Prop:=
 ∃ (o:Obj) (ar:Array Value) (n:Nat),K.lookup a=some o/\o.cls=.type "list" /\ o.dict=none/\o.data=.seq ar n/\ar.size<=sizeLine/\bf xs ar.toList
theorem cM.cases{K:PySem.W.Frag}{H:Hp}{a:Addr}(h:cM K H a xs):Rd H a (.lst xs)\/KL K a xs:=h
theorem KL.sq{K:PySem.W.Frag}{H:Hp}{a:Addr}(h:KL K a xs):cM K H a xs:=.inr h
def Ef (ks:List Str)(vs:List V):List (Key×V):=(ks.map λx=>(Sum.inr x:Key)).zip vs
def M8 (fo:Obj)(c:Addr)(oc:Obj):Prop:=fo.cls=.type "function" /\ (∃ fd,fo.data=.func fd/\fd.code=.ref c)/\∃ fs q t,oc.data=.fields fs/\fs[1]? = some (.str q t)
structure Az (K:PySem.W.Frag) (C:Addr):Prop where
 cl:L2.xt K C
 ha:W.findIn K (.ref C) "__class__" = some (some (.builtin "object.__class__"))
 hn:W.specialIn K (.builtin "object.__class__") "__get__" = some (some (.builtin "getset_descriptor.__get__"))
 uN:W.takesIn K (.builtin "object.__class__")=some true
 hm:W.mroIn K C (.type "object")=some true
 no:∀ t∈(["bool","int","tuple","list","str"]:List String),W.kitOne K (.ref C) (.type t)=some false
def MK.Is (K:PySem.W.Frag)(a:Addr):MK->List V->HO->Prop
 | .t ks,vs,x=>x=.dT (ks.zip vs)
 | .k ks,vs,x=>x=.dK (ks.zip vs)
 | .i nm fs p,vs,x=>∃ C dx,W.nsIn K mainGlobals nm=some (some (.ref C))/\x=.ins C dx (fs.zip vs)/\Az K C/\(∀ f∈fs,L2.Ly K C f)/\∀ d,p=some d->a=d
 | .l _ p,vs,x=>x=.lst vs/\∀ d,p=some d->a=d
mutual
inductive Rep (K:PySem.W.Frag) (H:Hp) (w:Wn) (o:Ow):Nat->D->V->List Addr->Prop
 | aO {q}:Rep K H w o q .aO .aO []
 | bl {q} (b:Bool):Rep K H w o q (.bl b) (.bl b) []
 | int {q} (i:Int):Rep K H w o q (.int i) (.int i) []
 | str {q} (x:Str):Rep K H w o q (.str x) (.str x) []
 | tup {q} {a:Addr} {vs:List V} {ds:List D}:H a=some (.tup vs)->ag K H w o 0 ds vs []->Rep K H w o q (.tup ds) (.ref a) []
 | iY {q} {a:Addr} {ks:List Str} {vs:List V} {ds:List D}:H a=some (.dK (Ef ks vs))->w a=none->ag K H w o 0 ds vs []->Rep K H w o q (.iY ks ds) (.ref a) []
 | exc {q} {a:Addr} {nm:Str} {ob:Obj} {u:HO}:H a=some (.fF ob u)->XO K nm ob->(∀ xs,u ≠ .lst xs)->Rep K H w o q (.exc nm) (.ref a) []
 | ob {q} {f c:Addr} {fo oc:Obj} {u u':HO} {vs:List V} {ds:List D}:H f=some (.fF fo u)->H c=some (.fF oc u')->M8 fo c oc->ag K H w o 0 ds vs []->Rep K H w o q (.ob f fo vs ds) (.ref f) []
 | kl {a:Addr} {vs:List V} {ds:List D}:KL K a vs->ag K H w o 0 ds vs []->Rep K H w o 0 (.lst ds) (.ref a) []
 | shr {a:Addr} {vs:List V} {ds:List D}:Rd H a (.lst vs)->w a=none->ag K H w o 0 ds vs []->Rep K H w o 0 (.lst ds) (.ref a) []
 | own {q} {a:Addr} {vs:List V} {ds:List D} {F:List Addr}:H a=some (.lst vs)->w a=some o->ag K H w o q ds vs F->a ∉ F->Rep K H w o (q+1) (.lst ds) (.ref a) (a::F)
 | pN {a:Addr} {vs:List V} {ds:List D} {k:MK} {x:HO}:H a=some x->k.Is K a vs x->w a=none->k.len=ds.length->ag K H w o 0 ds vs []->Rep K H w o 0 (.mp k ds) (.ref a) []
 | tu {q} {a:Addr} {vs:List V} {ds:List D} {k:MK} {x:HO}:H a=some x->k.Is K a vs x->w a=some o->k.len=ds.length->ag K H w o 0 ds vs []->Rep K H w o (q+1) (.mp k ds) (.ref a) [a]
inductive ag (K:PySem.W.Frag) (H:Hp) (w:Wn) (o:Ow):Nat->List D->List V->List Addr->Prop
 | nil {q}:ag K H w o q [] [] []
 | cons {q} {d:D} {v:V} {ds:List D} {vs:List V} {F G:List Addr}:Rep K H w o q d v F->ag K H w o q ds vs G->(∀ a∈F,a ∉ G)->ag K H w o q (d::ds) (v::vs) (F++G)
end
def AA:HO->Bool
 | .lst _=>true
 | .dK _=>true
 | .dT _=>true
 | .ins _ _ _=>true
 | _=>false
inductive OX where
 | l (vs:List V)|t (cL:List (List Key×V))|k (cL:List (Key×V))|i (C dx:Addr) (fs:List (Str×V))
def OX.ho:OX->HO
 | .l vs=>.lst vs
 | .t cL=>.dT cL
 | .k cL=>.dK cL
 | .i C dx fs=>.ins C dx fs
theorem OX.is(v:OX):AA v.ho=true:=by cases v<;>rfl
theorem MK.ox{K:PySem.W.Frag}{a:Addr}{k:MK}(h:k.Is K a vs x):∃ v:OX,x=v.ho:=by
 cases k with
 | t ks=>exact⟨.t _,h⟩
 | k ks=>exact⟨.k _,h⟩
 | i nm fs p=>obtain⟨C,dx,_,h,_⟩:=h;exact⟨.i _ _ _,h⟩
 | l n p=>exact⟨.l _,h.1⟩
def tv:HO->Bool
 | .ji _=>true
 | _=>false
def Sm (x:HO)(y:Option HO):Prop:=match x with
 | .ji _=>∃ ps,y=some (.ji ps)
 | x=>y=some x
theorem sm(h:y=some x):Sm x y:=by cases x<;>first|exact h|exact⟨_,h⟩
theorem Sm.is(h:Sm x y):∃ z,y=some z/\tv z=tv x:=by cases x<;>first|exact⟨_,h,rfl⟩|(obtain⟨ps,e⟩:=h;exact⟨_,e,rfl⟩)
theorem Sm.eq(h:Sm x y)(n:tv x=false):y=some x:=by cases x<;>first|exact h|cases n
def tz:List Str:=["turned","chain_ladder","flat_ladder","paired","height_of","_law_high"]
structure TB (K:PySem.W.Frag) (H:Hp):Prop where
 tr:∀ P ps,H P=some (.ji ps)->PySem.TriplesOk ps.toList
 cd:∀ P ps,H P=some (.ji ps)->∀ pos cv,PySem.codeAmong pos ps.toList=some cv->∃ c oc u vs q t,cv=.ref c/\H c=some (.fF oc u)/\oc.data=.fields vs/\vs[1]? = some (.str q t)/\∀ xs,u ≠ .lst xs
 is:∀ x∈tz,∀ c P,W.tabIn K x=some (c,P)->∃ ps,H P=some (.ji ps)
structure WL (K:PySem.W.Frag) (w:Wn) (H:Hp):Prop where
 own:∀ a o,w a=some o->∃ vs:OX,H a=some vs.ho
 tb:TB K H
instance {K:PySem.W.Frag} {w:Wn} {H:Hp}:CoeFun (WL K w H) (λ_=>∀ a o,w a=some o->∃ vs:OX,H a=some vs.ho):=⟨WL.own⟩
theorem TB.upd{K:PySem.W.Frag}{H:Hp}(t:TB K H){p:Addr}(hx:tv x=false)(hp:H p=none\/∃ vs:OX,H p=some vs.ho):TB K (L2.upd H p x):=by
 have ne:∀ a y,H a=some y->AA y=false->a≠p:=λa y e h z=>by
  subst z;rcases hp with q|⟨vs,q⟩
  .rw[e]at q;cases q
  .rw[e]at q;rw[QM q,vs.is]at h;cases h
 refine⟨λP ps e=>?_,λP ps e pos cv hc=>?_,λx hx c P hP=>by obtain⟨ps,e⟩:=t.is x hx c P hP;exact⟨ps,by rw[bR (ne P _ e rfl)];exact e⟩⟩
 .by_cases hP:P=p
  .subst hP;rw[jj]at e;cases e;cases hx
  .rw[bR hP]at e;exact t.tr P ps e
 .by_cases hP:P=p
  .subst hP;rw[jj]at e;cases e;cases hx
  .rw[bR hP]at e;obtain⟨c,oc,u,vs,q,tt,h1,h2,h3,h4,h5⟩:=t.cd P ps e pos cv hc;exact⟨c,oc,u,vs,q,tt,h1,by rw[bR (ne c _ h2 rfl)];exact h2,h3,h4,h5⟩
def d9 (H:Hp)(w:Wn)(H':Hp)(w':Wn):Prop:=∀ a x,H a=some x->w a=none->Sm x (H' a)/\w' a=none
theorem d9.trans{H:Hp}{w w1 w2:Wn}(a:d9 H w H1 w1)(b:d9 H1 w1 H2 w2):d9 H w H2 w2:=λc x h n=>by
 obtain⟨s1,n1⟩:=a c x h n;cases ht:tv x with
 | false=>exact b c x (s1.eq ht) n1
 | true=>
  obtain⟨y,e,hy⟩:=s1.is;obtain⟨s2,n2⟩:=b c y e n1;refine⟨?_,n2⟩;rw[ht]at hy;cases x with
  | ji ps=>
   cases y with
   | ji Xi=>exact s2
   | _=>cases hy
  | _=>cases ht
theorem WL.tE{K:PySem.W.Frag}{w:Wn}{H:Hp}(wl:WL K w H){a:Addr}(e:H a=some x)(h:AA x=false):w a=none:=by
 cases q:w a with
 | none=>rfl
 | some o=>
  obtain⟨vs,e'⟩:=wl a o q;rw[e]at e';rw[QM e',vs.is]at h;cases h
theorem dv.go{K:PySem.W.Frag}{H:Hp}{w w':Wn}(wl:WL K w H)(st:d9 H w H' w'){a:Addr}(h:dv K H a vs):dv K H' a vs:=by
 rcases h with(h|⟨o,h⟩)|h
 .exact .inl (.inl (st a _ h (wl.tE h rfl)).1)
 .exact .inl (.inr ⟨o,(st a _ h (wl.tE h rfl)).1⟩)
 .exact .inr h
theorem xN.go{H:Hp}{w w':Wn}(st:d9 H w H' w'){a:Addr}(n:w a=none)(h:Rd H a (.lst vs)):Rd H' a (.lst vs)/\w' a=none:=by
 rcases h with h|⟨o,h⟩
 .exact⟨.inl (st a _ h n).1,(st a _ h n).2⟩
 .exact⟨.inr ⟨o,(st a _ h n).1⟩,(st a _ h n).2⟩
theorem Rep.go{K:PySem.W.Frag}{H:Hp}{w w':Wn}{o o':Ow}(wl:WL K w H)(st:d9 H w H' w'):∀ {q:Nat} {d:D} {v:V} {F:List Addr},Rep K H w o q d v F->(∀ a∈F,H' a=H a/\w' a=some o')->Rep K H' w' o' q d v F:=by
 intro q d v F r;refine Rep.rec (motive_1:=λq d v F _=>(∀ a∈F,H' a=H a/\w' a=some o')->Rep K H' w' o' q d v F) (motive_2:=λq ds vs F _=>(∀ a∈F,H' a=H a/\w' a=some o')->ag K H' w' o' q ds vs F) ?_ ?_ ?_ ?_ ?_ ?_ ?_ ?_ ?_ ?_ ?_ ?_ ?_ ?_ ?_ r
 .intro q _;exact .aO
 .intro q b _;exact .bl b
 .intro q i _;exact .int i
 .intro q x _;exact .str x
 .intro q a vs ds h r ih _;exact .tup (st _ _ h (wl.tE h rfl)).1 (ih nM)
 .intro q a ks vs ds h n r ih _;exact .iY (st _ _ h n).1 (st _ _ h n).2 (ih nM)
 .intro q a nm ob u h x n _;exact .exc (st _ _ h (wl.tE h rfl)).1 x n
 .intro q f c fo oc u u' vs ds h1 h2 x r ih _;exact .ob (st _ _ h1 (wl.tE h1 rfl)).1 (st _ _ h2 (wl.tE h2 rfl)).1 x (ih nM)
 .intro a vs ds h r ih _;exact .kl h (ih nM)
 .intro a vs ds h n r ih _;exact .shr (xN.go st n h).1 (xN.go st n h).2 (ih nM)
 .intro q a vs ds F h e r ne ih k;exact .own ((k _ Qd).1.trans h) (k _ Qd).2 (ih λa m=>k a (Qc _ m)) ne
 .intro a vs ds k x h i n l r ih _;have nt:tv x=false:=by obtain⟨v,rfl⟩:=MK.ox i;cases v<;>rfl
  exact .pN ((st _ _ h n).1.eq nt) i (st _ _ h n).2 l (ih nM)
 .intro q a vs ds k x h i e l r ih kk;exact .tu ((kk _ Qd).1.trans h) i (kk _ Qd).2 l (ih nM)
 .intro q _;exact .nil
 .intro q d v ds vs F G r s ne rh rj k;exact .cons (rh λa m=>k a (QW _ m)) (rj λa m=>k a (Qg _ m)) ne
theorem ag.go{K:PySem.W.Frag}{H:Hp}{w w':Wn}{o o':Ow}(wl:WL K w H)(st:d9 H w H' w'):∀ {q:Nat} {ds:List D} {vs:List V} {F:List Addr},ag K H w o q ds vs F->(∀ a∈F,H' a=H a/\w' a=some o')->ag K H' w' o' q ds vs F
 | _,_,_,_,.nil,_=>.nil
 | _,_,_,_,.cons r s ne,k=>.cons (Rep.go wl st r λa m=>k a (QW _ m)) (ag.go wl st s λa m=>k a (Qg _ m)) ne
theorem Rep.freeze{K:PySem.W.Frag}{H:Hp}{w w':Wn}{o o':Ow}(n:∀ a,w a=none->w' a=none):∀ {q:Nat} {d:D} {v:V} {F:List Addr},Rep K H w o q d v F->(∀ a∈F,w' a=none)->Rep K H w' o' 0 d v []:=by
 intro q d v F r;refine Rep.rec (motive_1:=λq d v F _=>(∀ a∈F,w' a=none)->Rep K H w' o' 0 d v []) (motive_2:=λq ds vs F _=>(∀ a∈F,w' a=none)->ag K H w' o' 0 ds vs []) ?_ ?_ ?_ ?_ ?_ ?_ ?_ ?_ ?_ ?_ ?_ ?_ ?_ ?_ ?_ r
 .intro q _;exact .aO
 .intro q b _;exact .bl b
 .intro q i _;exact .int i
 .intro q x _;exact .str x
 .intro q a vs ds h r ih _;exact .tup h (ih nM)
 .intro q a ks vs ds h e r ih _;exact .iY h (n _ e) (ih nM)
 .intro q a nm ob u h x n _;exact .exc h x n
 .intro q f c fo oc u u' vs ds h1 h2 x r ih _;exact .ob h1 h2 x (ih nM)
 .intro a vs ds h r ih _;exact .kl h (ih nM)
 .intro a vs ds h e r ih _;exact .shr h (n _ e) (ih nM)
 .intro q a vs ds F h e r ne ih k;exact .shr (Rd.of h) (k _ Qd) (ih λa m=>k a (Qc _ m))
 .intro a vs ds k x h i e l r ih _;exact .pN h i (n _ e) l (ih nM)
 .intro q a vs ds k x h i e l r ih kk;exact .pN h i (kk _ Qd) l (ih nM)
 .intro q _;exact .nil
 .intro q d v ds vs F G r s ne rh rj k;exact .cons (F:=[]) (G:=[]) (rh λa m=>k a (QW _ m)) (rj λa m=>k a (Qg _ m)) nM
theorem ag.freeze{K:PySem.W.Frag}{H:Hp}{w w':Wn}{o o':Ow}(n:∀ a,w a=none->w' a=none):∀ {q:Nat} {ds:List D} {vs:List V} {F:List Addr},ag K H w o q ds vs F->(∀ a∈F,w' a=none)->ag K H w' o' 0 ds vs []
 | _,_,_,_,.nil,_=>.nil
 | _,_,_,_,.cons r s ne,k=>.cons (F:=[]) (G:=[]) (Rep.freeze n r λa m=>k a (QW _ m)) (ag.freeze n s λa m=>k a (Qg _ m)) nM
theorem Rep.aR{K:PySem.W.Frag}{H:Hp}{w:Wn}{o:Ow}:∀ {q:Nat} {d:D} {v:V} {F:List Addr},Rep K H w o q d v F->∀ a∈F,w a=some o:=by
 intro q d v F r;refine Rep.rec (motive_1:=λq d v F _=>∀ a∈F,w a=some o) (motive_2:=λq ds vs F _=>∀ a∈F,w a=some o) ?_ ?_ ?_ ?_ ?_ ?_ ?_ ?_ ?_ ?_ ?_ ?_ ?_ ?_ ?_ r
 .intro q a m;exact(QJ m).elim
 .intro q b a m;exact(QJ m).elim
 .intro q i a m;exact(QJ m).elim
 .intro q x a m;exact(QJ m).elim
 .intro q a vs ds h r ih b m;exact(QJ m).elim
 .intro q a ks vs ds h e r ih b m;exact(QJ m).elim
 .intro q a nm ob u h x n b m;exact(QJ m).elim
 .intro q f c fo oc u u' vs ds h1 h2 x r ih b m;exact(QJ m).elim
 .intro a vs ds h r ih b m;exact(QJ m).elim
 .intro a vs ds h e r ih b m;exact(QJ m).elim
 .intro q a vs ds F h e r ne ih b m;rcases Qp.mp m with z|z
  .rw[z];exact e
  .exact ih b z
 .intro a vs ds k x h i e l r ih b m;exact(QJ m).elim
 .intro q a vs ds k x h i e l r ih b m;rw[Qu.mp m];exact e
 .intro q a m;exact(QJ m).elim
 .intro q d v ds vs F G r s ne rh rj a m;rcases QL.mp m with z|z
  .exact rh a z
  .exact rj a z
theorem ag.aR{K:PySem.W.Frag}{H:Hp}{w:Wn}{o:Ow}:∀ {q:Nat} {ds:List D} {vs:List V} {F:List Addr},ag K H w o q ds vs F->∀ a∈F,w a=some o
 | _,_,_,_,.nil,a,m=>(QJ m).elim
 | _,_,_,_,.cons r s ne,a,m=>(QL.mp m).elim (r.aR a) (s.aR a)
def D.cI:D->Bool
 | .lst _=>true
 | .mp _ _=>true
 | _=>false
@[simp] theorem D.xO:D.cI .aO=false:=rfl
@[simp] theorem D.AB(b:Bool):D.cI (.bl b)=false:=rfl
@[simp] theorem D.oy(i:Int):D.cI (.int i)=false:=rfl
@[simp] theorem D.xP(x:Str):D.cI (.str x)=false:=rfl
@[simp] theorem D.xQ(ds:List D):D.cI (.tup ds)=false:=rfl
@[simp] theorem D.xR(ks:List Str)(ds:List D):D.cI (.iY ks ds)=false:=rfl
@[simp] theorem D.xS(nm:Str):D.cI (.exc nm)=false:=rfl
@[simp] theorem D.AD(f:Addr)(fo:Obj)(vs:List V)(ds:List D):D.cI (.ob f fo vs ds)=false:=rfl
@[simp] theorem D.AE(k:MK)(ds:List D):D.cI (.mp k ds)=true:=rfl
@[simp] theorem D.xT(ds:List D):D.cI (.lst ds)=true:=rfl
theorem Rep.dk{K:PySem.W.Frag}{H:Hp}{w:Wn}{o:Ow}{q:Nat}{d:D}(r:Rep K H w o q d v F)(h:d.cI=false):F=[]/\∀ q',Rep K H w o q' d v []:=by
 cases r with
 | aO=>exact⟨rfl,λ_=>.aO⟩
 | bl b=>exact⟨rfl,λ_=>.bl b⟩
 | int i=>exact⟨rfl,λ_=>.int i⟩
 | str x=>exact⟨rfl,λ_=>.str x⟩
 | tup h' r'=>exact⟨rfl,λ_=>.tup h' r'⟩
 | iY h' e' r'=>exact⟨rfl,λ_=>.iY h' e' r'⟩
 | exc h' x n=>exact⟨rfl,λ_=>.exc h' x n⟩
 | ob h1 h2 x r=>exact⟨rfl,λ_=>.ob h1 h2 x r⟩
 | kl=>cases h
 | shr=>cases h
 | own=>cases h
 | pN=>cases h
 | tu=>cases h
def RL (K:PySem.W.Frag)(H:Hp)(w:Wn)(o:Ow)(a:Addr)(vs:List V)(ds:List D)(F:List Addr):Nat->Prop
 | 0=>(KL K a vs\/Rd H a (.lst vs)/\w a=none)/\ag K H w o 0 ds vs []/\F=[]
 | q+1=>∃ F',F=a::F'/\H a=some (.lst vs)/\w a=some o/\ag K H w o q ds vs F'/\a ∉ F'
def RI (K:PySem.W.Frag)(H:Hp)(w:Wn)(o:Ow)(q:Nat)(v:V)(F:List Addr):D->Prop
 | .aO=>v=.aO/\F=[]
 | .bl b=>v=.bl b/\F=[]
 | .int i=>v=.int i/\F=[]
 | .str x=>v=.str x/\F=[]
 | .tup ds=>∃ a vs,v=.ref a/\F=[]/\H a=some (.tup vs)/\ag K H w o 0 ds vs []
 | .lst ds=>∃ a vs,v=.ref a/\RL K H w o a vs ds F q
 | .exc nm=>∃ a ob u,v=.ref a/\H a=some (.fF ob u)/\XO K nm ob
 | .iY ks ds=>∃ a vs,v=.ref a/\F=[]/\H a=some (.dK (Ef ks vs))/\ag K H w o 0 ds vs []
 | _=>True
theorem Rep.inv{K:PySem.W.Frag}{H:Hp}{w:Wn}{o:Ow}{q:Nat}{d:D}(r:Rep K H w o q d v F):RI K H w o q v F d:=by
 cases r with
 | aO=>exact⟨rfl,rfl⟩
 | bl=>exact⟨rfl,rfl⟩
 | int=>exact⟨rfl,rfl⟩
 | str=>exact⟨rfl,rfl⟩
 | tup h r=>exact⟨_,_,rfl,rfl,h,r⟩
 | iY h _ r=>exact⟨_,_,rfl,rfl,h,r⟩
 | exc h x _=>exact⟨_,_,_,rfl,h,x⟩
 | ob=>trivial
 | kl h r=>exact⟨_,_,rfl,.inl h,r,rfl⟩
 | shr h n r=>exact⟨_,_,rfl,.inr ⟨h,n⟩,r,rfl⟩
 | own h n r m=>exact⟨_,_,rfl,_,rfl,h,n,r,m⟩
 | pN=>trivial
 | tu=>trivial
theorem Rep.zero{K:PySem.W.Frag}{H:Hp}{w:Wn}{o:Ow}{d:D}(r:Rep K H w o 0 d v F):F=[]:=by cases r<;>rfl
theorem ag.zero{K:PySem.W.Frag}{H:Hp}{w:Wn}{o:Ow}:∀ {ds:List D} {vs:List V} {F:List Addr},ag K H w o 0 ds vs F->F=[]
 | _,_,_,.nil=>rfl
 | _,_,_,.cons r s _=>by rw[r.zero,s.zero];rfl
theorem ag.length{K:PySem.W.Frag}{H:Hp}{w:Wn}{o:Ow}{q:Nat}:∀ {ds:List D} {vs:List V} {F:List Addr},ag K H w o q ds vs F->ds.length=vs.length
 | _,_,_,.nil=>rfl
 | _,_,_,.cons _ s _=>by simp[s.length]
theorem Rep.any{K:PySem.W.Frag}{H:Hp}{w:Wn}{o o':Ow}{q:Nat}{d:D}(r:Rep K H w o q d v [])(wl:WL K w H):Rep K H w o' q d v []:=
 Rep.go wl (λa x h n=>⟨sm h,n⟩) r nM
theorem ag.any{K:PySem.W.Frag}{H:Hp}{w:Wn}{o o':Ow}{q:Nat}{d:List D}{v:List V}(r:ag K H w o q d v [])(wl:WL K w H):ag K H w o' q d v []:=
 ag.go wl (λa x h n=>⟨sm h,n⟩) r nM
theorem ag.get{K:PySem.W.Frag}{H:Hp}{w:Wn}{o:Ow}:∀ {ds:List D} {vs:List V} {i:Nat} {d:D},ag K H w o 0 ds vs []->ds[i]? = some d->∃ v,vs[i]? = some v/\Rep K H w o 0 d v []
 | ds,vs,i,d,r,e=>by
  generalize hF:([]:List Addr)=F at r;cases r with
  | nil=>simp at e
  | @cons _ d' v' l7 l8 F' G' r s _=>
   have h1:F'=[]:=r.zero;have h2:G'=[]:=s.zero;subst h1 h2;cases i with
   | zero=>simp at e;subst e;exact⟨v',rfl,r⟩
   | succ j=>
    obtain⟨v,h1,h2⟩:=ag.get (i:=j) (d:=d) s (by simpa using e);exact⟨v,by simpa using h1,h2⟩
theorem ag.snoc{K:PySem.W.Frag}{H:Hp}{w:Wn}{o:Ow}{q:Nat}{d:D}{G:List Addr}(r':Rep K H w o q d v G):∀ {ds:List D} {vs:List V} {F:List Addr},ag K H w o q ds vs F->(∀ a∈F,a ∉ G)->ag K H w o q (ds++[d]) (vs++[v]) (F++G)
 | _,_,_,.nil,_=>by have:ag K H w o q [d] [v] (G++[]):=.cons r' .nil (λa _ z=>nomatch z);simpa using this
 | _,_,_,.cons (F:=F) (G:=F') r s ne,k=>by
  rw[Zg];refine .cons r (ag.snoc r' s λa m=>k a (Qg _ m)) λa m z=>?_;rcases QL.mp z with z|z
  .exact ne a m z
  .exact k a (QW _ m) z
abbrev OD:=Option (D×Nat)
abbrev aV:=List (OD)
structure Good (K:PySem.W.Frag) (ρ:aV) (σ:St) (H:Hp) (w:Wn) (t:Nat):Prop where
 wl:WL K w H
 ws:∀ a i,w a=some (.s i)->i<σ.length
 wt:∀ a i,w a=some (.t i)->i<t
 len:ρ.length=σ.length
 slot:∀ (i:Nat) d q,ρ[i]? = some (some (d,q))->∃ v F,σ[i]? = some (some v)/\Rep K H w (.s i) q d v F
structure Go (H:Hp) (w:Wn) (H':Hp) (w':Wn):Prop where
 bw:d9 H w H' w'
 keep:∀ a o,w a=some o->(∀ i,o ≠ .s i)->H' a=H a/\w' a=some o
theorem Go.refl{H:Hp}{w:Wn}:Go H w H w:=⟨λa x h n=>⟨sm h,n⟩,λa o e _=>⟨rfl,e⟩⟩
theorem Go.trans{H:Hp}{w w1 w2:Wn}(a:Go H w H1 w1)(b:Go H1 w1 H2 w2):Go H w H2 w2:=
 ⟨a.bw.trans b.bw,λc o e h=>by obtain⟨h1,w1⟩:=a.keep c o e h;obtain⟨h2,w2⟩:=b.keep c o w1 h;exact⟨h2.trans h1,w2⟩⟩
theorem Rep.gone{K:PySem.W.Frag}{H:Hp}{w w':Wn}{q:Nat}{d:D}(r:Rep K H w (.t i) q d v F)(wl:WL K w H)(g:Go H w H' w'):Rep K H' w' (.t i) q d v F:=
 Rep.go wl g.bw r λa m=>g.keep a _ (r.aR a m) (λ_ z=>nomatch z)
theorem ag.gone{K:PySem.W.Frag}{H:Hp}{w w':Wn}{q:Nat}{d:List D}{v:List V}(r:ag K H w (.t i) q d v F)(wl:WL K w H)(g:Go H w H' w'):ag K H' w' (.t i) q d v F:=
 ag.go wl g.bw r λa m=>g.keep a _ (r.aR a m) (λ_ z=>nomatch z)
def cm (t:Nat)(w:Wn):Wn:=λa=>match w a with
 | some (.t i)=>if t<=i then none else some (.t i)
 | x=>x
theorem xU{t:Nat}{w:Wn}{a:Addr}(h:w a=none):cm t w a=none:=by unfold cm;rw[h]
theorem M9{t:Nat}{w:Wn}{a:Addr}(h:w a=some (.s i)):cm t w a=some (.s i):=by unfold cm;rw[h]
theorem M_{t:Nat}{w:Wn}{a:Addr}(h:w a=some .f):cm t w a=some .f:=by unfold cm;rw[h]
theorem Na{t:Nat}{w:Wn}{a:Addr}(h:w a=some (.t i))(hi:i<t):cm t w a=some (.t i):=by unfold cm;rw[h];exact Qw (by omega)
theorem Nb{t:Nat}{w:Wn}{a:Addr}(h:w a=some (.t i))(hi:t<=i):cm t w a=none:=by unfold cm;rw[h];exact Qk hi
theorem AF{t:Nat}{w:Wn}{a:Addr}{o:Ow}(h:cm t w a=some o):w a=some o/\∀ i,o=.t i->i<t:=by
 unfold cm at h;cases e:w a with
 | none=>rw[e]at h;cases h
 | some o'=>
  rw[e]at h;cases o' with
  | s i=>cases h;exact⟨rfl,λi z=>nomatch z⟩
  | f=>cases h;exact⟨rfl,λi z=>nomatch z⟩
  | t i=>
   dsimp only at h;split at h
   .cases h
   .cases h;exact⟨rfl,λj z=>by cases z;omega⟩
theorem Good.drop{K:PySem.W.Frag}{ρ:aV}{σ:St}{H:Hp}{w:Wn}{t:Nat}(g:Good K ρ σ H w t):Good K ρ σ H (cm t' w) t':=by refine⟨⟨λa o e=>g.wl a o (AF e).1,g.wl.tb⟩,λa i e=>g.ws a i (AF e).1,λa i e=>(AF e).2 i rfl,g.len,λi d q e=>?_⟩;obtain⟨v,F,h1,h2⟩:=g.slot i d q e;exact⟨v,F,h1,Rep.go g.wl (λa x h n=>⟨sm h,xU n⟩) h2 λa m=>⟨rfl,M9 (h2.aR a m)⟩⟩
theorem Go.drop{H:Hp}{w w':Wn}{t:Nat}(g:Go H w H' w')(wt:∀ a i,w a=some (.t i)->i<t):Go H w H' (cm t w'):=
 ⟨λa x h n=>⟨(g.bw a x h n).1,xU (g.bw a x h n).2⟩,λa o e h=>by
   obtain⟨h1,h2⟩:=g.keep a o e h;refine⟨h1,?_⟩;cases o with
   | s i=>exact absurd rfl (h i)
   | f=>exact M_ h2
   | t i=>exact Na h2 (wt a i e)⟩
theorem Rep.drop{K:PySem.W.Frag}{H:Hp}{w:Wn}{q:Nat}{d:D}{t:Nat}{o:Ow}(r:Rep K H w (.t t) q d v F)(h:t'<=t):Rep K H (cm t' w) o 0 d v []:=
 Rep.freeze (λa n=>xU n) r λa m=>Nb (r.aR a m) h
abbrev aA:=aV->Option (D×Nat×aV)
def tD (K:PySem.W.Frag)(f:aA):TE:=λσ H Q=>∃ ρ w t r q aB,Good K ρ σ H w t/\f ρ=some (r,q,aB)/\∀ v H' w' F,Good K aB σ H' w' (t+1)->Go H w H' w'->Rep K H' w' (.t t) q r v F->Q v H'
theorem PE.imp{X:Cx}{e:Expr}{t t':TE}(h:PE X e t)(i:∀ σ H Q,t' σ H Q->t σ H Q):PE X e t':=λZ_ s σ H Q I q=>h Z_ s σ H Q I (i σ H Q q)
abbrev PD (X:Cx)(e:Expr)(f:aA):Prop:=PE X e (tD X.K f)
structure QD (X:Cx) (e:Expr) (f:aA):Prop where mk::o:PD X e f
theorem Good.up{K:PySem.W.Frag}{ρ:aV}{σ:St}{H:Hp}{w:Wn}{t:Nat}(g:Good K ρ σ H w t):Good K ρ σ H w (t+1):=⟨g.wl,g.ws,λa i e=>ZH (g.wt a i e),g.len,g.slot⟩
@[simp] def bq (d:D):Nat:=if d.cI then 0 else 9
theorem Rep.lZ{K:PySem.W.Frag}{H:Hp}{w:Wn}{o:Ow}{d:D}(r:Rep K H w o 0 d v []):Rep K H w o (bq d) d v []:=by
 unfold bq;cases e:d.cI with
 | true=>exact r
 | false=>exact(r.dk e).2 9
section
variable {K:PySem.W.Frag}{σ:St}{H:Hp}{ρ aB ac ad:aV}{w:Wn}{t:Nat}{Q:VK}
theorem pO{fa fb:aA}{R:V->V->Hp->Prop}(g:Good K ρ σ H w t){d1 d2:D}{q1 q2:Nat}(e1:fa ρ=some (d1,q1,ac))(e2:fb ac=some (d2,q2,ad))
  (k:∀ x y H2 w2 F1 F2,Good K ad σ H2 w2 (t+2)->Go H w H2 w2->Rep K H2 w2 (.t t) q1 d1 x F1->Rep K H2 w2 (.t (t+1)) q2 d2 y F2->R x y H2) :
  tD K fa σ H λx H1=>tD K fb σ H1 λy H2=>R x y H2:=
 ⟨ρ,w,t,d1,q1,ac,g,e1,λx H1 w1 F1 g1 aJ r1=>⟨ac,w1,t+1,d2,q2,ad,g1,e2,λy H2 w2 F2 g2 bb r2=>k x y H2 w2 F1 F2 g2 (aJ.trans bb) (r1.gone g1.wl bb) r2⟩⟩
theorem rl{r:D}{q:Nat}{w2:Wn}{t2:Nat}(k:∀ v H' w' F,Good K aB σ H' w' (t+1)->Go H w H' w'->Rep K H' w' (.t t) q r v F->Q v H')(g:Good K ρ σ H w t)(g2:Good K aB σ H2 w2 t2)(go:Go H w H2 w2)
  (rr:Rep K H2 (cm t w2) (.t t) q r v []):Q v H2:=k v H2 (cm t w2) [] g2.drop.up (go.drop g.wt) rr
def nv (p:Addr)(o:Ow)(w:Wn):Wn:=λa=>if a=p then some o else w a
theorem tF{p:Addr}{o:Ow}{w:Wn}:nv p o w p=some o:=Qk rfl
theorem kF{p a:Addr}{o:Ow}{w:Wn}(h:a≠p):nv p o w a=w a:=Qw h
theorem pP{p:Addr}{ds:List D}{w1:Wn}(g:Good K ρ σ H1 w1 t)(hp:H1 p=none)(r:ag K H1 w1 .f 0 ds vs []) :
  Good K ρ σ (upd H1 p (.lst vs)) (nv p (.t t) w1) (t+1)/\Go H1 w1 (upd H1 p (.lst vs)) (nv p (.t t) w1)/\Rep K (upd H1 p (.lst vs)) (nv p (.t t) w1) (.t t) 1 (.lst ds) (.ref p) [p]:=by
 have ne:∀ a x,H1 a=some x->a≠p:=λa x e=>kZ e hp;have nw:∀ a o,w1 a=some o->a≠p:=λa o e=>by obtain⟨vs,q⟩:=g.wl a o e;exact ne a _ q
 have st:d9 H1 w1 (upd H1 p (.lst vs)) (nv p (.t t) w1):=λa x e n=>⟨sm (by rw[bR (ne a x e)];exact e),by rw[kF (ne a x e)];exact n⟩;refine⟨⟨⟨λa o e=>?_,g.wl.tb.upd rfl (.inl hp)⟩,λa i e=>?_,λa i e=>?_,g.len,λi d q e=>?_⟩,⟨st,λa o e _=>⟨bR (nw a o e),(kF (nw a o e)).trans e⟩⟩,?_⟩
 .by_cases h:a=p
  .subst h;exact⟨.l vs,jj⟩
  .rw[kF h]at e;obtain⟨us,q⟩:=g.wl a o e;exact⟨us,by rw[bR h];exact q⟩
 .by_cases h:a=p
  .subst h;rw[tF]at e;cases e
  .rw[kF h]at e;exact g.ws a i e
 .by_cases h:a=p
  .subst h;rw[tF]at e;cases e;exact Zt _
  .rw[kF h]at e;exact ZH (g.wt a i e)
 .obtain⟨v,F,h1,h2⟩:=g.slot i d q e;exact⟨v,F,h1,Rep.go g.wl st h2 λa m=>⟨bR (nw a _ (h2.aR a m)),(kF (nw a _ (h2.aR a m))).trans (h2.aR a m)⟩⟩
 .exact .own jj tF (ag.go g.wl st r nM) (λz=>nomatch z)
theorem rm{p:Addr}{ds:List D}{w1:Wn}(g:Good K ρ σ H1 w1 t)(hp:H1 p=none)(r:ag K H1 w1 .f 0 ds vs []) :
  Good K ρ σ (upd H1 p (.tup vs)) w1 (t+1)/\Go H1 w1 (upd H1 p (.tup vs)) w1/\Rep K (upd H1 p (.tup vs)) w1 (.t t) 9 (.tup ds) (.ref p) []:=by
 have ne:∀ a x,H1 a=some x->a≠p:=λa x e=>kZ e hp;have nw:∀ a o,w1 a=some o->a≠p:=λa o e=>by obtain⟨vs,q⟩:=g.wl a o e;exact ne a _ q
 have st:d9 H1 w1 (upd H1 p (.tup vs)) w1:=λa x e n=>⟨sm (by rw[bR (ne a x e)];exact e),n⟩;refine⟨⟨⟨λa o e=>?_,g.wl.tb.upd rfl (.inl hp)⟩,g.ws,λa i e=>ZH (g.wt a i e),g.len,λi d q e=>?_⟩,⟨st,λa o e _=>⟨bR (nw a o e),e⟩⟩,?_⟩
 .obtain⟨us,q⟩:=g.wl a o e;exact⟨us,by rw[bR (nw a o e)];exact q⟩
 .obtain⟨v,F,h1,h2⟩:=g.slot i d q e;exact⟨v,F,h1,Rep.go g.wl st h2 λa m=>⟨bR (nw a _ (h2.aR a m)),h2.aR a m⟩⟩
 .exact .tup jj (ag.go g.wl st r nM)
end
@[simp] def eC (d:D):aA:=λρ=>some (d,9,ρ)
@[simp] def aa (i:Nat):aA:=λρ=>match ρ[i]? with
 | some (some (d,q))=>if d.cI=false then some (d,9,ρ)else if q=0 then some (d,0,ρ)else some (d,0,ρ.set i (some (d,0)))
 | _=>none
section
variable {X:Cx}{a b c e:Expr}{fa fb fc f:aA}{pos:Pos}
theorem u9{d:D}(h:PE X e (tC v))(r:∀ K H w o q,Rep K H w o q d v []):PD X e (eC d):=PE.imp h λσ H Q ak=>by obtain⟨ρ,w,t,r',q,aB,g,ee,k⟩:=ak;cases ee;exact k v H w [] g.up Go.refl (r _ _ _ _ _)
theorem aU{i j}:QD X (.Constant (.int i) j pos) (eC (.int i)):=⟨u9 Kf λ_ _ _ _ _=>.int i⟩
theorem fz{i j}:QD X (.Constant (.bool i) j pos) (eC (.bl i)):=⟨u9 Kg λ_ _ _ _ _=>.bl i⟩
theorem AG{j}:QD X (.Constant .none j pos) (eC .aO):=⟨u9 Kh λ_ _ _ _ _=>.aO⟩
theorem fm{x j}:QD X (.Constant (.str x) j pos) (eC (.str x)):=⟨u9 zE λ_ _ _ _ _=>.str x⟩
def iq (i:Nat)(w:Wn):Wn:=λa=>if w a=some (.s i)then none else w a
theorem u_{w:Wn}{a:Addr}(h:w a=none):iq i w a=none:=by unfold iq;rw[h];rfl
theorem Eg{w:Wn}{a:Addr}(h:w a=some (.s i)):iq i w a=none:=by unfold iq;rw[Qk h]
theorem tG{w:Wn}{a:Addr}{o:Ow}(h:w a=some o)(n:o ≠ .s i):iq i w a=some o:=by unfold iq;rw[Qw (by rw[h];exact λz=>n (QM z))];exact h
theorem oz{w:Wn}{a:Addr}{o:Ow}(h:iq i w a=some o):w a=some o/\o ≠ .s i:=by
 unfold iq at h;split at h
 .cases h
 .rename_i n;exact⟨h,λz=>n (by rw[h,z])⟩
theorem Good.give{K:PySem.W.Frag}{ρ:aV}{σ:St}{H:Hp}{w:Wn}{t:Nat}{d:D}{q:Nat}(g:Good K ρ σ H w t)(e:ρ[i]? = some (some (d,q))):Good K (ρ.set i (some (d,0))) σ H (iq i w) t/\Go H w H (iq i w):=by
 have st:d9 H w H (iq i w):=λa x h n=>⟨sm h,u_ n⟩;refine⟨⟨⟨λa o h=>g.wl a o (oz h).1,g.wl.tb⟩,λa j h=>g.ws a j (oz h).1,λa j h=>g.wt a j (oz h).1,by rw[QC];exact g.len,λj d' q' e'=>?_⟩,⟨st,λa o h n=>⟨rfl,tG h (n i)⟩⟩⟩;by_cases hj:i=j
 .subst hj;rw[QB (Qs.mp e).1]at e';cases e';obtain⟨v,F,h1,h2⟩:=g.slot i d q e;exact⟨v,[],h1,Rep.freeze (λa n=>u_ n) h2 λa m=>Eg (h2.aR a m)⟩
 .rw[QF hj]at e';obtain⟨v,F,h1,h2⟩:=g.slot j d' q' e';exact⟨v,F,h1,Rep.go g.wl st h2 λa m=>⟨rfl,tG (h2.aR a m) (λz=>hj (by cases z;rfl))⟩⟩
theorem bu{x:Str}(h:QE X (.Name x pos) (jV i)):QD X (.Name x pos) (aa i):=⟨have h:=h.o;PE.imp h λσ H Q ak=>by
 obtain⟨ρ,w,t,r',q,aB,g,ee,k⟩:=ak;unfold aa at ee;split at ee;next d q0 e0=>
  obtain⟨v,F,h1,h2⟩:=g.slot i d q0 e0;refine⟨v,h1,?_⟩;split at ee;next hl=>
   cases ee;obtain⟨hF,hr⟩:=h2.dk hl;exact k v H w [] g.up Go.refl ((hr 9).any g.wl)
  .split at ee;next hq=>
    subst hq;cases ee;have:=h2.zero;subst this;exact k v H w [] g.up Go.refl (h2.any g.wl)
   .cases ee;obtain⟨g',fP⟩:=g.give e0;refine k v H (iq i w) [] g'.up fP ?_;exact Rep.freeze (λa n=>u_ n) h2 λa m=>Eg (h2.aR a m)
 .cases ee⟩
def kG:D->Option V
 | .aO=>some .aO
 | .bl b=>some (.bl b)
 | .int i=>some (.int i)
 | .str x=>some (.str x)
 | _=>none
theorem xV{K:PySem.W.Frag}{H:Hp}{w:Wn}{o:Ow}{q:Nat}{d:D}(h:kG d=some v):Rep K H w o q d v []:=by
 cases d<;>cases h
 .exact .aO
 .exact .bl _
 .exact .int _
 .exact .str _
@[simp] def e2 (g:D->D->Option D)(fa fb:aA):aA:=λρ=>match fa ρ with
 | some (x,_,ac)=>match fb ac with
  | some (y,_,ad)=>match g x y with
   | some d=>some (d,9,ad)
   | none=>none
  | none=>none
 | none=>none
theorem Nc{g:D->D->Option D}{ρ aB:aV}{r:D}{q:Nat}(h:e2 g fa fb ρ=some (r,q,aB)):∃ x q1 ac y q2,fa ρ=some (x,q1,ac)/\fb ac=some (y,q2,aB)/\g x y=some r/\q=9:=by
 unfold e2 at h;split at h;next x q1 ac h1=>
  split at h;next y q2 ad h2=>
   split at h;next d hd=>
    cases h;exact⟨x,q1,ac,y,q2,h1,h2,hd,rfl⟩
   .cases h
  .cases h
 .cases h
theorem oA{K:PySem.W.Frag}{g:D->D->Option D}(hg:∀ x y d,g x y=some d->∃ v,kG d=some v/\∀ H w o o' q q' u u' F F',Rep K H w o q x u F->Rep K H w o' q' y u' F'->WL K w H->∀ Q:VK,Q v H->r u u' H Q) :
  ∀ σ H Q,tD K (e2 g fa fb) σ H Q->iS r (tD K fa) (tD K fb) σ H Q:=λσ H Q ak=>by obtain⟨ρ,w,t,r',q,aB,gd,ee,k⟩:=ak;obtain⟨x,q1,ac,y,q2,h1,h2,h3,rfl⟩:=Nc ee;obtain⟨v,hv,hr⟩:=hg x y r' h3;exact pO gd h1 h2 λu u' H2 w2 F1 F2 g2 go r1 r2=>hr H2 w2 _ _ _ _ u u' F1 F2 r1 r2 g2.wl Q (rl k gd g2 go (xV hv))
@[simp] def gI (f:Int->Int->Option D):D->D->Option D
 | .int i,.int j=>f i j
 | _,_=>none
theorem pQ{f:Int->Int->Option D}{x y d:D}(h:gI f x y=some d):∃ i j,x=.int i/\y=.int j/\f i j=some d:=by
 unfold gI at h;split at h
 .exact⟨_,_,rfl,rfl,h⟩
 .cases h
theorem dZ{K:PySem.W.Frag}{H:Hp}{w:Wn}{o:Ow}{q:Nat}{i:Int}(r:Rep K H w o q (.int i) v F):v=.int i:=r.inv.1
theorem xW{K:PySem.W.Frag}{f:Int->Int->Option D}{C:Int->Int->Prop}(hf:∀ i j d,f i j=some d->C i j/\kG d=some (h i j)) :
  ∀ σ H Q,tD K (e2 (gI f) fa fb) σ H Q->iS (rI C h) (tD K fa) (tD K fb) σ H Q:=
 oA λx y d e=>by obtain⟨i,j,rfl,rfl,e⟩:=pQ e;obtain⟨c,s⟩:=hf i j d e;exact⟨_,s,λH w o o' q q' u u' F F' r1 r2 _ Q hq=>⟨i,j,dZ r1,dZ r2,c,hq⟩⟩
theorem AH{K:PySem.W.Frag}{f:Int->Int->Option D}(hf:∀ i j d,f i j=some d->kG d=some (h i j)) :
  ∀ σ H Q,tD K (e2 (gI f) fa fb) σ H Q->iS (kD h) (tD K fa) (tD K fb) σ H Q:=
 oA λx y d e=>by obtain⟨i,j,rfl,rfl,e⟩:=pQ e;exact⟨_,hf i j d e,λH w o o' q q' u u' F F' r1 r2 _ Q hq=>⟨i,j,dZ r1,dZ r2,hq⟩⟩
@[simp] def bG:D->D->Option D:=gI λi j=>some (.int (i+j))
@[simp] def j3:D->D->Option D:=gI λi j=>if(-(2 ^ 64)<i/\i<2 ^ 64)\/(-(2 ^ 64)<j/\j<2 ^ 64)then some (.int (i*j))else none
@[simp] def j4:D->D->Option D:=gI λi j=>if 0<j/\j<1073741824 then some (.int (i / j))else none
@[simp] def g9:D->D->Option D:=gI λi j=>if 0<j then some (.int (i % j))else none
theorem cS(ha:QD X a fa)(hb:QD X b fb):QD X (.BinOp a .Add b pos) (e2 bG fa fb):=⟨have ha:=ha.o;have hb:=hb.o;PE.imp (nk Lc ha hb) (AH λi j d h=>by cases h;rfl)⟩
theorem l9(ha:QD X a fa)(hb:QD X b fb):QD X (.BinOp a .Mult b pos) (e2 j3 fa fb):=⟨have ha:=ha.o;have hb:=hb.o;PE.imp (nk Ld ha hb) (xW λi j d h=>by
 split at h
 .cases h;exact⟨by assumption,rfl⟩
 .cases h)⟩
theorem tH(ha:QD X a fa)(hb:QD X b fb):QD X (.BinOp a .FloorDiv b pos) (e2 j4 fa fb):=⟨have ha:=ha.o;have hb:=hb.o;PE.imp (nk Le ha hb) (xW λi j d h=>by
 split at h
 .cases h;exact⟨by assumption,rfl⟩
 .cases h)⟩
theorem l_(ha:QD X a fa)(hb:QD X b fb):QD X (.BinOp a .Mod b pos) (e2 g9 fa fb):=⟨have ha:=ha.o;have hb:=hb.o;PE.imp (nk Lf ha hb) (xW λi j d h=>by
 split at h
 .cases h;exact⟨by assumption,rfl⟩
 .cases h)⟩
def eX:D->Int->Option D
 | .lst ds,i=>dC ds i
 | .tup ds,i=>dC ds i
 | _,_=>none
@[simp] def cf (fa fb:aA):aA:=λρ=>match fa ρ with
 | some (x,_,ac)=>match fb ac with
  | some (.int i,_,ad)=>match eX x i with
   | some d=>some (d,bq d,ad)
   | none=>none
  | _=>none
 | none=>none
theorem Rep.oB{K:PySem.W.Frag}{H:Hp}{w:Wn}{o:Ow}{q:Nat}{ds:List D}(r:Rep K H w o q (.lst ds) v F):∃ a vs q' G,v=.ref a/\cM K H a vs/\ag K H w o q' ds vs G:=by
 obtain⟨a,vs,e,h⟩:=r.inv;cases q with
 | zero=>exact⟨a,vs,_,_,e,h.1.elim (·.sq) λh=>.inl h.1,h.2.1⟩
 | succ q=>
  obtain⟨G,_,h,_,r,_⟩:=h;exact⟨a,vs,_,G,e,cM.of h,r⟩
theorem Rep.d_{K:PySem.W.Frag}{H:Hp}{w:Wn}{o:Ow}{ds:List D}(r:Rep K H w o 0 (.lst ds) v F):∃ a vs,v=.ref a/\cM K H a vs/\ag K H w o 0 ds vs []:=by obtain⟨a,vs,e,h,r,_⟩:=r.inv;exact⟨a,vs,e,h.elim (·.sq) λh=>.inl h.1,r⟩
theorem Rep.fA{K:PySem.W.Frag}{H:Hp}{w:Wn}{o:Ow}{q:Nat}{ds:List D}(r:Rep K H w o q (.tup ds) v F):∃ a vs,v=.ref a/\dv K H a vs/\ag K H w o 0 ds vs []:=by obtain⟨a,vs,e,_,h,r⟩:=r.inv;exact⟨a,vs,e,dv.of h,r⟩
theorem ag.dC{K:PySem.W.Frag}{H:Hp}{w:Wn}{o:Ow}{ds:List D}{i:Int}{d:D}(r:ag K H w o 0 ds vs [])(h:L2.dC ds i=some d):∃ v,L2.dC vs i=some v/\Rep K H w o 0 d v []:=by
 unfold L2.dC at h ⊢;rw[<- r.length];cases e:iU ds.length i with
 | none=>rw[e]at h;cases h
 | some j=>
  rw[e]at h;exact r.get h
theorem fY(ha:QD X a fa)(hb:QD X b fb)(hs:tj b:=by exact λ_ _=>rfl):QD X (.Subscript a b pos) (cf fa fb):=⟨have ha:=ha.o;have hb:=hb.o;PE.imp (uT uV ha hb hs) λσ H Q ak=>by
 obtain⟨ρ,w,t,r',q,aB,gd,ee,k⟩:=ak;unfold cf at ee;split at ee;next x q1 ac h1=>
  split at ee;next i q2 ad h2=>
   split at ee;next d hd=>
    cases ee;refine pO gd h1 h2 λu u' H2 w2 F1 F2 g2 go r1 r2=>?_;have AI:=dZ r2;subst AI;have r0:=r1.drop (o:=.t t) (Qf t);cases x with
    | lst ds=>
     obtain⟨p,vs,rfl,hq,rs⟩:=r0.d_;obtain⟨v,hv,rv⟩:=rs.dC hd;exact .inl ⟨p,vs,i,v,rfl,rfl,hq,hv,rl k gd g2 go rv.lZ⟩
    | tup ds=>
     obtain⟨p,vs,rfl,hq,rs⟩:=r0.fA;obtain⟨v,hv,rv⟩:=rs.dC hd;exact .inr (.inl ⟨p,vs,i,v,rfl,rfl,hq,hv,rl k gd g2 go rv.lZ⟩)
    | _=>cases hd
   .cases ee
  .cases ee
 .cases ee⟩
abbrev bQ:=aV->Option (List D×aV)
def AJ (K:PySem.W.Frag)(f:bQ):TA:=λσ H Q=>∃ ρ w t ds aB,Good K ρ σ H w t/\f ρ=some (ds,aB)/\∀ vs H' w',Good K aB σ H' w' t->Go H w H' w'->ag K H' w' .f 0 ds vs []->Q vs H'
abbrev Eh (X:Cx)(es:List Expr)(f:bQ):Prop:=PA X es (AJ X.K f)
structure eO (X:Cx) (e:List Expr) (f:bQ):Prop where mk::o:Eh X e f
theorem PA.imp{X:Cx}{e:List Expr}{t t':TA}(h:PA X e t)(i:∀ σ H Q,t' σ H Q->t σ H Q):PA X e t':=λpos Z_ s σ H Q I q=>h pos Z_ s σ H Q I (i σ H Q q)
@[simp] def af:bQ:=λρ=>some ([],ρ)
@[simp] def ae (f:aA)(g:bQ):bQ:=λρ=>match f ρ with
 | some (d,_,ac)=>match g ac with
  | some (ds,ad)=>some (d::ds,ad)
  | none=>none
 | none=>none
theorem aj:eO X [] af:=⟨PA.imp n9 λσ H Q ak=>by obtain⟨ρ,w,t,ds,aB,gd,ee,k⟩:=ak;cases ee;exact k [] H w gd Go.refl .nil⟩
theorem ao{es:List Expr}{g:bQ}(ha:QD X e f)(hr:eO X es g)(hs:starEach (e::es) X.env=(false,eval e X.env)::starEach es X.env:=by rfl):eO X (e::es) (ae f g):=⟨have ha:=ha.o;have hr:=hr.o;PA.imp (kE ha hr hs) λσ H Q ak=>by
 obtain⟨ρ,w,t,ds,aB,gd,ee,k⟩:=ak;unfold ae at ee;split at ee;next d q ac h1=>
  split at ee;next l7 ad h2=>
   cases ee;refine⟨ρ,w,t,d,q,ac,gd,h1,λx H1 w1 F1 g1 aJ r1=>⟨ac,cm t w1,t,l7,_,g1.drop,h2,λvs H2 w2 g2 bb r2=>?_⟩⟩;have gl:=(g1.drop (t':=t)).wl;have r0:Rep X.K H2 w2 .f 0 d x []:=Rep.go gl bb.bw (r1.drop (o:=.f) (Qf t)) nM;exact k (x::vs) H2 w2 g2 ((aJ.drop gd.wt).trans bb) (.cons (F:=[]) (G:=[]) r0 r2 nM)
  .cases ee
 .cases ee⟩
@[simp] def cF (g:bQ):aA:=λρ=>match g ρ with
 | some (ds,ac)=>if ds.length<=1000 then some (.lst ds,1,ac)else none
 | none=>none
@[simp] def fZ (g:bQ):aA:=λρ=>match g ρ with
 | some (ds,ac)=>if ds.length<=1000 then some (.tup ds,9,ac)else none
 | none=>none
theorem pR(h:n<=1000):n<=sizeLine:=ZG (qW h)
theorem eh{es:List Expr}{g:bQ}(h:eO X es g):QD X (.List es pos) (cF g):=⟨have h:=h.o;PE.imp (LB h) λσ H Q ak=>by
 obtain⟨ρ,w,t,r',q,aB,gd,ee,k⟩:=ak;unfold cF at ee;split at ee;next ds ac h1=>
  split at ee;next hl=>
   cases ee;refine⟨ρ,w,t,ds,_,gd,h1,λvs H1 w1 g1 aJ r1=>⟨by rw[<- r1.length];exact pR hl,λp hp=>?_⟩⟩;obtain⟨a1,a2,a3⟩:=pP g1 hp r1;exact k _ _ _ _ a1 (aJ.trans a2) a3
  .cases ee
 .cases ee⟩
theorem ma{es:List Expr}{g:bQ}{x1}(h:eO X es g):QD X (.Tuple es x1 pos) (fZ g):=⟨have h:=h.o;PE.imp (DJ h) λσ H Q ak=>by
 obtain⟨ρ,w,t,r',q,aB,gd,ee,k⟩:=ak;unfold fZ at ee;split at ee;next ds ac h1=>
  split at ee;next hl=>
   cases ee;refine⟨ρ,w,t,ds,_,gd,h1,λvs H1 w1 g1 aJ r1=>⟨by rw[<- r1.length];exact pR hl,λp hp=>?_⟩⟩;obtain⟨a1,a2,a3⟩:=rm g1 hp r1;exact k _ _ _ _ a1 (aJ.trans a2) a3
  .cases ee
 .cases ee⟩
def kH (K:PySem.W.Frag)(n:Nat)(F:List D->OD):Sp:=λvs H Q _=>vs.length=n/\∃ ds w r q,(∀ a o,w a=some o->o=.f)/\WL K w H/\ag K H w .f 0 ds vs []/\F ds=some (r,q) /\
 ∀ v H' w' Fo,Go H w H' w'->WL K w' H'->Rep K H' w' (.t 0) q r v Fo->Q v H'
@[simp] def ay (F:List D->OD)(n:Nat)(g:bQ):aA:=λρ=>match g ρ with
 | some (ds,ac)=>if ds.length=n then match F ds with
  | some (r,q)=>some (r,q,ac)
  | none=>none
  else none
 | none=>none
theorem Nd{K:PySem.W.Frag}{ρ:aV}{σ:St}{H:Hp}{w w':Wn}{t q:Nat}{d:D}{Fo:List Addr}(g:Good K ρ σ H w t)
  (go:Go H (λa=>(w a).map λ_=>Ow.f) H' w') (va:WL K w' H') (r:Rep K H' w' (.t 0) q d v Fo) :
  Good K ρ σ H' (λa=>if a∈Fo then some (.t t)else w a) (t+1)/\Go H w H' (λa=>if a∈Fo then some (.t t)else w a)/\Rep K H' (λa=>if a∈Fo then some (.t t)else w a) (.t t) q d v Fo:=by
 have kf:∀ a o,w a=some o->H' a=H a/\w' a=some .f:=λa o e=>go.keep a .f (by show(w a).map _=_;rw[e];rfl) (λ_ z=>nomatch z);have nf:∀ a x,H a=some x->a ∉ Fo:=λa x e m=>by
  have h1:=r.aR a m;cases ew:w a with
  | none=>
   have:=(go.bw a x e (by show(w a).map _=_;rw[ew];rfl)).2;rw[h1]at this;cases this
  | some o=>rw[(kf a o ew).2]at h1;cases h1
 have nw:∀ a o,w a=some o->a ∉ Fo:=λa o e=>by obtain⟨vs,q⟩:=g.wl a o e;exact nf a _ q
 have st:d9 H w H' (λa=>if a∈Fo then some (.t t)else w a):=λa x e n=>⟨(go.bw a x e (by show(w a).map _=_;rw[n];rfl)).1,by show(if a∈Fo then _ else _)=_;rw[Qw (nf a x e)];exact n⟩;have wv:∀ a o,(if a∈Fo then some (Ow.t t)else w a)=some o->(a∈Fo/\o=.t t)\/w a=some o:=λa o e=>by
  split at e
  .cases e;exact .inl ⟨by assumption,rfl⟩
  .exact .inr e
 refine⟨⟨⟨λa o e=>?_,va.tb⟩,λa i e=>?_,λa i e=>?_,g.len,λi d q e=>?_⟩,⟨st,λa o e _=>⟨(kf a o e).1,by show(if a∈Fo then _ else _)=_;rw[Qw (nw a o e)];exact e⟩⟩,?_⟩
 .rcases wv a o e with⟨m,_⟩|z
  .exact va a _ (r.aR a m)
  .obtain⟨vs,h⟩:=g.wl a o z;exact⟨vs,(kf a o z).1.trans h⟩
 .rcases wv a _ e with⟨_,z⟩|z
  .cases z
  .exact g.ws a i z
 .rcases wv a _ e with⟨_,z⟩|z
  .cases z;exact Zt _
  .exact ZH (g.wt a i z)
 .obtain⟨v,F,h1,h2⟩:=g.slot i d q e;refine⟨v,F,h1,Rep.go g.wl st h2 λa m=>⟨(kf a _ (h2.aR a m)).1,?_⟩⟩;show(if a∈Fo then _ else _)=_;rw[Qw (nw a _ (h2.aR a m))];exact h2.aR a m
 .refine Rep.go va (λa x e n=>⟨sm e,?_⟩) r λa m=>⟨rfl,Qk m⟩;show(if a∈Fo then _ else _)=_;rw[Qw (λm=>by have:=r.aR a m;rw[n]at this;cases this)];cases ew:w a with
  | none=>rfl
  | some o=>have:=(kf a o ew).2;rw[n]at this;cases this
theorem Nf{CX:lO}{k:Nat}{fn:Addr}{x:Str}{p:Pos}{es:List Expr}{F:List D->OD}{g:bQ}{E:XK}(Fk:eG X.prog X.w X.K X.mg X.base CX k fn fd ps (kH X.K n F))(hr:bc k X.A)(hm:X.mg x=some (.ref fn))(hk:W.keepIn X.K (.ref fn)=true)(hb:oa X.K fd ps [])
  (hx:xu CX X E) (ha:Eh X (e::es) g) (hg:Gl X x:=by rfl) (fO:(x==("__debug__":Str))=false:=by decide) (he:starEach (e::es) X.env=(false,eval e X.env)::starEach es X.env:=by rfl) (cR:(backTo pos (starEach es X.env)).any (·.1)=false:=by rfl) :
  PD X (.Call (.Name x p) (e::es) [] pos) (ay F n g):=PE.imp (xw Fk hr hg hm hk hb .nil hx ha fO he cR) λσ H Q ak=>by
 obtain⟨ρ,w,t,r',q,aB,gd,ee,k⟩:=ak;unfold ay at ee;split at ee;next ds ac h1=>
  split at ee;next hn=>
   split at ee;next r0 q0 h2=>
    cases ee;refine⟨ρ,w,t,ds,_,gd,h1,λvs H1 w1 g1 aJ r1=>?_⟩;show kH X.K n F (vs++[]) H1 Q E;rw[QY];refine⟨by rw[<- r1.length];exact hn,ds,λa=>(w1 a).map λ_=>Ow.f,r',q,λa o e=>?_,⟨λa o e=>?_,g1.wl.tb⟩,?_,h2,λv H2 w2 Fo bb rp rr=>?_⟩
    .dsimp only at e;cases ew:w1 a with
     | none=>rw[ew]at e;cases e
     | some o'=>rw[ew]at e;cases e;rfl
    .try dsimp only at e
     cases ew:w1 a with
     | none=>rw[ew]at e;cases e
     | some o'=>exact g1.wl a o' ew
    .exact ag.freeze (λa n=>by show(w1 a).map _=_;rw[n];rfl) r1 nM
    .obtain⟨b1,b2,b3⟩:=Nd g1 bb rp rr;exact k _ _ _ _ b1 (aJ.trans b2) b3
   .cases ee
  .cases ee
 .cases ee
end
abbrev cy:=aV->Option (Bool×aV)
def pS (K:PySem.W.Frag)(f:cy):TT:=λσ H Q=>∃ ρ w t b aB,Good K ρ σ H w t/\f ρ=some (b,aB)/\∀ H' w',Good K aB σ H' w' t->Go H w H' w'->Q b H'
theorem PT.imp{X:Cx}{e:Expr}{t t':TT}(h:PT X e t)(i:∀ σ H Q,t' σ H Q->t σ H Q):PT X e t':=λZ_ s σ H Q I q=>h Z_ s σ H Q I (i σ H Q q)
theorem PW.imp{X:Cx}{e:Expr}{t t':TT}(h:PW X e t)(i:∀ σ H Q,t' σ H Q->t σ H Q):PW X e t':=λwhole Z_ s σ H Q I q=>h whole Z_ s σ H Q I (i σ H Q q)
abbrev AK (X:Cx)(e:Expr)(f:cy):Prop:=PT X e (pS X.K f)
structure iI (X:Cx) (e:Expr) (f:cy):Prop where mk::o:AK X e f
abbrev Ng (X:Cx)(e:Expr)(f:cy):Prop:=PW X e (pS X.K f)
structure xX (X:Cx) (e:Expr) (f:cy):Prop where mk::o:Ng X e f
@[simp] def Nh:D->Option Bool
 | .aO=>some false
 | .bl b=>some b
 | .int i=>some (i != 0)
 | .tup ds=>some (!ds.isEmpty)
 | .lst ds=>some (!ds.isEmpty)
 | .str _=>none
 | .iY _ _=>none
 | .exc _=>none
 | .ob _ _ _ _=>none
 | .mp _ _=>none
@[simp] def dm (f:aA):cy:=λρ=>match f ρ with
 | some (d,_,ac)=>match Nh d with
  | some b=>some (b,ac)
  | none=>none
 | none=>none
section
variable {X:Cx}{a b c e:Expr}{fa fb fc f:aA}{ga gb gc:cy}{pos:Pos}
theorem xY{α β:Type}{l:List α}{l':List β}(h:l.length=l'.length):(!l.isEmpty) = !l'.isEmpty:=by cases l<;>cases l'<;>first|rfl|cases h
theorem f9(ha:QD X a fa)(he:∀ whole,isTrue a X.env whole=(do let v <- whole;standAt a.pos;holding [v] (truthy v)):=by exact λ_=>rfl):iI X a (dm fa):=⟨have ha:=ha.o;PT.imp (Lr ha he) λσ H Q ak=>by
 obtain⟨ρ,w,t,b,aB,gd,ee,k⟩:=ak;unfold dm at ee;split at ee;next d q ac h1=>
  split at ee;next b' hb=>
   cases ee;refine⟨ρ,w,t,d,q,_,gd,h1,λv H1 w1 F g1 aJ r1=>⟨b,?_,k H1 (cm t w1) g1.drop (aJ.drop gd.wt)⟩⟩;cases r1 with
   | aO=>cases hb;rfl
   | bl x=>cases hb;rfl
   | int i=>cases hb;rfl
   | str x=>cases hb
   | tup h r=>cases hb;exact .inr (.inl ⟨_,dv.of h,xY r.length⟩)
   | iY h e r=>cases hb
   | exc h x n=>cases hb
   | ob h1 h2 x r=>cases hb
   | kl h r=>cases hb;exact .inl ⟨_,h.sq,xY r.length⟩
   | shr h _ r=>cases hb;exact .inl ⟨_,.inl h,xY r.length⟩
   | own h _ r _=>cases hb;exact .inl ⟨_,cM.of h,xY r.length⟩
   | pN h _ _ _ _=>cases hb
   | tu h _ _ _ _=>cases hb
  .cases ee
 .cases ee⟩
@[simp] def bM (f:aA):cy:=λρ=>match f ρ with
 | some (.bl b,_,ac)=>some (b,ac)
 | _=>none
theorem Ei{K:PySem.W.Frag}{te:TE}(h:∀ σ H Q,tD K f σ H Q->te σ H Q):∀ σ H Q,pS K (bM f) σ H Q->zT te σ H Q:=λσ H Q ak=>by
 obtain⟨ρ,w,t,b,aB,gd,ee,k⟩:=ak;unfold bM at ee;split at ee;next b' q ac h1=>
  cases ee;refine h σ H _ ⟨ρ,w,t,.bl b,q,_,gd,h1,λv H1 w1 F g1 aJ r1=>?_⟩;exact⟨b,r1.inv.1,k H1 (cm t w1) g1.drop (aJ.drop gd.wt)⟩
 .cases ee
theorem rq{g:D->D->Option D}(ho:cN X (compareOp op) r)(hr:∀ σ H Q,tD X.K (e2 g fa fb) σ H Q->iS r (tD X.K fa) (tD X.K fb) σ H Q)(ha:PD X a fa)(hb:PD X b fb)(hm:behindInMarks op b=false) :
  AK X (.Compare a [op] [b] pos) (bM (e2 g fa fb)):=PT.imp (Lm ho ha hb hm) (Ei hr)
theorem AL{g:D->D->Option D}(ho:cN X (compareOp op) r)(hr:∀ σ H Q,tD X.K (e2 g fa fb) σ H Q->iS r (tD X.K fa) (tD X.K fb) σ H Q)(ha:PD X a fa)(hb:PD X b fb)(hm:behindInMarks op b=false) :
  PD X (.Compare a [op] [b] pos) (e2 g fa fb):=PE.imp (Ll ho ha hb hm) hr
@[simp] def jB:D->D->Option D:=gI λi j=>some (.bl (decide (i<j)))
@[simp] def ny:D->D->Option D:=gI λi j=>some (.bl (decide (i<=j)))
@[simp] def xZ:D->D->Option D:=gI λi j=>some (.bl (decide (j<i)))
theorem Ni{K:PySem.W.Frag}:∀ σ H Q,tD K (e2 jB fa fb) σ H Q->iS (kD λi j=>.bl (decide (i<j))) (tD K fa) (tD K fb) σ H Q:=AH λi j d h=>by cases h;rfl
theorem Nj{K:PySem.W.Frag}:∀ σ H Q,tD K (e2 xZ fa fb) σ H Q->iS (kD λi j=>.bl (decide (j<i))) (tD K fa) (tD K fb) σ H Q:=AH λi j d h=>by cases h;rfl
theorem tI(ha:QD X a fa)(hb:QD X b fb):iI X (.Compare a [.Lt] [b] pos) (bM (e2 jB fa fb)):=⟨have ha:=ha.o;have hb:=hb.o;rq DC Ni ha hb (qJ _)⟩
theorem Ej(ha:QD X a fa)(hb:QD X b fb):iI X (.Compare a [.Gt] [b] pos) (bM (e2 xZ fa fb)):=⟨have ha:=ha.o;have hb:=hb.o;rq Lk Nj ha hb (qJ _)⟩
@[simp] def dP (g:cy):cy:=λρ=>match g ρ with
 | some (b,ac)=>some (!b,ac)
 | none=>none
theorem ir(ha:iI X a ga):iI X (.UnaryOp .Not a pos) (dP ga):=⟨have ha:=ha.o;PT.imp (Km ha) λσ H Q ak=>by
 obtain⟨ρ,w,t,b,aB,gd,ee,k⟩:=ak;unfold dP at ee;split at ee;next b' ac h1=>
  cases ee;exact⟨ρ,w,t,b',_,gd,h1,λH1 w1 g1 aJ=>k H1 w1 g1 aJ⟩
 .cases ee⟩
@[simp] def fU (g h:cy):cy:=λρ=>match g ρ with
 | some (b,ac)=>if b=true then some (true,ac)else h ac
 | none=>none
variable {cb:List Expr}
theorem la(ha:iI X a ga):xX X (.BoolOp .Or [a] pos) ga:=⟨have ha:=ha.o;Kk ha⟩
theorem j5(ha:iI X a ga)(hb:xX X (.BoolOp .Or (b::cb) pos) gb):xX X (.BoolOp .Or (a::b::cb) pos) (fU ga gb):=⟨have ha:=ha.o;have hb:=hb.o;PW.imp (Kl ha hb) λσ H Q ak=>by
 obtain⟨ρ,w,t,b,aB,gd,ee,k⟩:=ak;unfold fU at ee;split at ee;next b' ac h1=>
  refine⟨ρ,w,t,b',ac,gd,h1,λH1 w1 g1 aJ=>?_⟩;split at ee
  .rename_i hb;rw[Qk hb]
   cases ee;exact k H1 w1 g1 aJ
  .rename_i hb;rw[Qw hb]
   exact⟨ac,w1,t,b,aB,g1,ee,λH2 w2 g2 bb=>k H2 w2 g2 (aJ.trans bb)⟩
 .cases ee⟩
@[simp] def AM (g:cy)(fa fb:aA):aA:=λρ=>match g ρ with
 | some (b,ac)=>if b=true then fa ac else fb ac
 | none=>none
theorem Nk(hc:iI X c gc)(ha:QD X a fa)(hb:QD X b fb):QD X (.IfExp c a b pos) (AM gc fa fb):=⟨have hc:=hc.o;have ha:=ha.o;have hb:=hb.o;PE.imp (Kt hc ha hb) λσ H Q ak=>by
 obtain⟨ρ,w,t,r',q,aB,gd,ee,k⟩:=ak;unfold AM at ee;split at ee;next b' ac h1=>
  refine⟨ρ,w,t,b',ac,gd,h1,λH1 w1 g1 aJ=>?_⟩;split at ee
  .rename_i hb;rw[Qk hb]
   exact⟨ac,w1,t,r',q,aB,g1,ee,λv H2 w2 F g2 bb=>k v H2 w2 F g2 (aJ.trans bb)⟩
  .rename_i hb;rw[Qw hb]
   exact⟨ac,w1,t,r',q,aB,g1,ee,λv H2 w2 F g2 bb=>k v H2 w2 F g2 (aJ.trans bb)⟩
 .cases ee⟩
end
inductive Out where
 | nx (ρ:aV)|rt (d:D) (q:Nat)|bk (ρ:aV)|ct (ρ:aV)
abbrev aH:=aV->Option Out
def rA (K:PySem.W.Frag)(Dn:Ends)(n:Nat)(H:Hp)(w:Wn):Out->Prop
 | .nx aB=>∀ aP H' w',aP.length=n->Good K aB aP H' w' 0->Go H w H' w'->Dn.nx aP H'
 | .bk aB=>∀ aP H' w',aP.length=n->Good K aB aP H' w' 0->Go H w H' w'->Dn.bk aP H'
 | .ct aB=>∀ aP H' w',aP.length=n->Good K aB aP H' w' 0->Go H w H' w'->Dn.ct aP H'
 | .rt d q=>∀ v H' w' F,WL K w' H'->Go H w H' w'->Rep K H' w' (.t 0) q d v F->Dn.rt v H'
def x8 (K:PySem.W.Frag)(f:aH):TS:=λDn σ H=>∃ ρ w o,Good K ρ σ H w 0/\f ρ=some o/\rA K Dn σ.length H w o
theorem PS.imp{X:Cx}{e:Stmt}{t t':TS}(h:PS X e t)(i:∀ D σ H,t' D σ H->t D σ H):PS X e t':=λZ_ s σ H D I q=>h Z_ s σ H D I (i D σ H q)
theorem gL.imp{X:Cx}{e:List Stmt}{t t':TS}(h:gL X e t)(i:∀ D σ H,t' D σ H->t D σ H):gL X e t':=λZ_ s σ H D I q=>h Z_ s σ H D I (i D σ H q)
abbrev Nl (X:Cx)(st:Stmt)(f:aH):Prop:=PS X st (x8 X.K f)
structure j6 (X:Cx) (e:Stmt) (f:aH):Prop where mk::o:Nl X e f
abbrev x9 (X:Cx)(st:List Stmt)(f:aH):Prop:=gL X st (x8 X.K f)
structure gP (X:Cx) (e:List Stmt) (f:aH):Prop where mk::o:x9 X e f
@[simp] def cz:aH:=λρ=>some (.nx ρ)
@[simp] def aE (f g:aH):aH:=λρ=>match f ρ with
 | some (.nx ac)=>g ac
 | o=>o
theorem rA.trans{K:PySem.W.Frag}{Dn:Ends}{H:Hp}{w w1:Wn}(go:Go H w H1 w1):∀ {o:Out},rA K Dn n H w o->rA K Dn n H1 w1 o
 | .nx _,h=>λaP H' w' e g fP=>h aP H' w' e g (go.trans fP)
 | .bk _,h=>λaP H' w' e g fP=>h aP H' w' e g (go.trans fP)
 | .ct _,h=>λaP H' w' e g fP=>h aP H' w' e g (go.trans fP)
 | .rt _ _,h=>λv H' w' F wl fP=>h v H' w' F wl (go.trans fP)
section
variable {X:Cx}{a b c e:Expr}{fa fb fc f:aA}{ga gb gc:cy}{pos:Pos}{st:Stmt}{cb sa sb:List Stmt}{s s':aH}
theorem dG:gP X [] cz:=⟨gL.imp Kx λD σ H ak=>by obtain⟨ρ,w,o,g,ee,k⟩:=ak;cases ee;exact k σ H w rfl g Go.refl⟩
theorem aN(h1:j6 X st s)(h2:gP X cb s'):gP X (st::cb) (aE s s'):=⟨have h1:=h1.o;have h2:=h2.o;gL.imp (Du h1 h2) λD σ H ak=>by
 obtain⟨ρ,w,o,g,ee,k⟩:=ak;unfold aE at ee;split at ee;next ac h1=>
  exact⟨ρ,w,.nx ac,g,h1,λaP H' w' e g' fP=>⟨ac,w',o,g',ee,by rw[e];exact k.trans fP⟩⟩
 next eH=>
  refine⟨ρ,w,o,g,ee,?_⟩;cases o with
  | nx ac=>exact absurd ee (eH ac)
  | bk ac=>exact k
  | ct ac=>exact k
  | rt d q=>exact k⟩
theorem aL(h1:j6 X st s):gP X [st] s:=⟨have h1:=h1.o;Dv h1⟩
@[simp] def aS (f:aA):aH:=λρ=>match f ρ with
 | some (d,q,_)=>some (.rt d q)
 | none=>none
theorem bj(h:QD X e f):j6 X (.Return (some e) pos) (aS f):=⟨have h:=h.o;PS.imp (KG h) λD σ H ak=>by
 obtain⟨ρ,w,o,g,ee,k⟩:=ak;unfold aS at ee;split at ee;next d q ac h1=>
  cases ee;exact⟨ρ,w,0,d,q,ac,g,h1,λv H' w' F g' fP r=>k v H' w' F g'.wl fP r⟩
 .cases ee⟩
@[simp] def cj (g:cy)(s s':aH):aH:=λρ=>match g ρ with
 | some (b,ac)=>if b=true then s ac else s' ac
 | none=>none
theorem dH(hc:iI X c gc)(ha:gP X sa s)(hb:gP X sb s'):j6 X (.If c sa sb pos) (cj gc s s'):=⟨have hc:=hc.o;have ha:=ha.o;have hb:=hb.o;PS.imp (Dw hc ha hb) λD σ H ak=>by
 obtain⟨ρ,w,o,g,ee,k⟩:=ak;unfold cj at ee;split at ee;next b' ac h1=>
  refine⟨ρ,w,0,b',ac,g,h1,λH1 w1 g1 aJ=>?_⟩;split at ee
  .rename_i hb;rw[Qk hb]
   exact⟨ac,w1,o,g1,ee,k.trans aJ⟩
  .rename_i hb;rw[Qw hb]
   exact⟨ac,w1,o,g1,ee,k.trans aJ⟩
 .cases ee⟩
@[simp] def Ek:aH:=λρ=>some (.bk ρ)
theorem Nm:j6 X (.Break pos) Ek:=⟨PS.imp Kz λD σ H ak=>by obtain⟨ρ,w,o,g,ee,k⟩:=ak;cases ee;exact k σ H w rfl g Go.refl⟩
def kI (t i:Nat)(w:Wn):Wn:=λa=>if w a=some (.t t)then some (.s i)else if w a=some (.s i)then none else w a
theorem Good.set{K:PySem.W.Frag}{ρ:aV}{σ:St}{H:Hp}{w:Wn}{q:Nat}{d:D}(g:Good K ρ σ H w 1)(hi:i<σ.length)(r:Rep K H w (.t 0) q d v F) :
  Good K (ρ.set i (some (d,q))) (σ.set i (some v)) H (kI 0 i w) 0/\∀ aD oC,Go aD oC H w->(∀ a j,oC a=some (.t j)->j<0)->Go aD oC H (kI 0 i w):=by
 have mN:∀ a,w a=none->kI 0 i w a=none:=λa e=>by unfold kI;rw[e];rfl
 have mT:∀ a,w a=some (.t 0)->kI 0 i w a=some (.s i):=λa e=>by unfold kI;rw[Qk e]
 have mS:∀ a j,w a=some (.s j)->j≠i->kI 0 i w a=some (.s j):=λa j e n=>by unfold kI;rw[Qw (by rw[e];exact λz=>nomatch z),Qw (by rw[e];intro z;cases z;exact n rfl)];exact e
 have mF:∀ a,w a=some .f->kI 0 i w a=some .f:=λa e=>by unfold kI;rw[Qw (by rw[e];exact λz=>nomatch z),Qw (by rw[e];exact λz=>nomatch z)];exact e
 have mI:∀ a o,kI 0 i w a=some o->(w a=some (.t 0)/\o=.s i)\/(w a=some o/\o ≠ .s i/\o ≠ .t 0):=λa o e=>by
  unfold kI at e;split at e
  .cases e;exact .inl ⟨by assumption,rfl⟩
  next n1=>
   split at e
   .cases e
   .rename_i n2;exact .inr ⟨e,λz=>n2 (by rw[e,z]),λz=>n1 (by rw[e,z])⟩
 have st:d9 H w H (kI 0 i w):=λa x h n=>⟨sm h,mN a n⟩;refine⟨⟨⟨λa o e=>?_,g.wl.tb⟩,λa j e=>?_,λa j e=>?_,by rw[QC,QC];exact g.len,λj d' q' e'=>?_⟩,λaD oC go hw=>⟨λa x h n=>⟨(go.bw a x h n).1,mN a (go.bw a x h n).2⟩,λa o e n=>?_⟩⟩
 .rcases mI a o e with⟨z,_⟩|⟨z,_⟩
  .exact g.wl a _ z
  .exact g.wl a _ z
 .rw[QC];rcases mI a _ e with⟨_,z⟩|⟨z,_⟩
  .cases z;exact hi
  .exact g.ws a j z
 .rcases mI a _ e with⟨_,z⟩|⟨z,_,n⟩
  .cases z
  .have:=g.wt a j z;have:j=0:=by omega
   subst this;exact absurd rfl n
 .by_cases hj:i=j
  .subst hj;rw[QB (by rw[g.len];exact hi)]at e';cases e';exact⟨v,F,QB hi,Rep.go g.wl st r λa m=>⟨rfl,mT a (r.aR a m)⟩⟩
  .rw[QF hj]at e';obtain⟨v',F',h1,h2⟩:=g.slot j d' q' e';exact⟨v',F',by rw[QF hj];exact h1,Rep.go g.wl st h2 λa m=>⟨rfl,mS a j (h2.aR a m) (λz=>hj z.symm)⟩⟩
 .obtain⟨h1,h2⟩:=go.keep a o e n;refine⟨h1,?_⟩;cases o with
  | s j=>exact absurd rfl (n j)
  | f=>exact mF a h2
  | t j=>exact absurd (hw a j e) (Nat.not_lt_zero _)
@[simp] def aY (i:Nat)(f:aA):aH:=λρ=>match f ρ with
 | some (d,q,ac)=>some (.nx (ac.set i (some (d,q))))
 | none=>none
theorem El{K:PySem.W.Frag}{D:Ends}{σ:St}{H:Hp}{te:TE}(hi:i<σ.length)(he:∀ Q,tD K f σ H Q->te σ H Q)(h:x8 K (aY i f) D σ H):te σ H λx H1=>D.nx (σ.set i (some x)) H1:=by
 obtain⟨ρ,w,o,g,ee,k⟩:=h;unfold aY at ee;split at ee;next d q ac h1=>
  cases ee;refine he _ ⟨ρ,w,0,d,q,ac,g,h1,λv H' w' F g' fP r=>?_⟩;obtain⟨a1,a2⟩:=g'.set hi r;exact k _ _ _ (by rw[QC]) a1 (a2 _ _ fP g.wt)
 .cases ee
theorem bP{i:Nat}{x:Str}{pos':Pos}(hN:X.N.Nodup)(he:QD X e f)(hs:swapsWith e (some (.Name x pos')) pos.line X.env=pure false:=by rfl)(hf:X.fn x=true\/X.env.scope.names.lookup x=some .local:=by first|exact .inl rfl|exact .inr rfl)(hi:X.N[i]? = some x:=by rfl)(hx:Loc X.env.scope x:=by first|exact Or.inl rfl|exact Or.inr rfl):j6 X (.Assign [.Name x pos'] e pos) (aY i f):=⟨have he:=he.o;by
 intro Z_ s σ H D I h;have hl:i<σ.length:=by rw[I.len];exact(Qs.mp hi).1
 exact DA (te:=tD X.K f) hN hi hx he hs hf Z_ s σ H D I (El hl (λ_ z=>z) h)⟩
@[simp] def iu (f:aA):aH:=λρ=>match f ρ with
 | some (_,_,ac)=>some (.nx ac)
 | none=>none
theorem kJ(he:QD X e f)(hs:swapsWith e none pos.line X.env=pure false:=by rfl):j6 X (.Expr e pos) (iu f):=⟨have he:=he.o;PS.imp (KC he hs) λD σ H ak=>by
 obtain⟨ρ,w,o,g,ee,k⟩:=ak;unfold iu at ee;split at ee;next d q ac h1=>
  cases ee;exact⟨ρ,w,0,d,q,ac,g,h1,λv H' w' F g' fP r=>k σ H' (cm 0 w') rfl g'.drop (fP.drop g.wt)⟩
 .cases ee⟩
end
structure Mo (K:PySem.W.Frag) (H H':Hp):Prop where
 mo:∀ a o,H a=some o->H' a=some o
 tb:TB K H->TB K H'
theorem Mo.rB{K:PySem.W.Frag}{H:Hp}:Mo K H H:=⟨λ_ _ e=>e,λt=>t⟩
structure me (K:PySem.W.Frag) (J:It) (ds:List D) (P:Hp->Wn->Prop):Prop where
 go:∀ i H w,P H w->i<ds.length->J.go i H
 pE:∀ i H w x H' d,P H w->WL K w H->ds[i]? = some d->J.pE i H x H'->Mo K H H'/\Rep K H' w .f 0 d x []/\P H' w
 stop:∀ H w,P H w->J.stop ds.length H
 st:∀ H w H' w',P H w->WL K w H->d9 H w H' w'->P H' w'
abbrev iZ:=aV->Option (List D×aV)
def vc (K:PySem.W.Frag)(f:iZ):TI:=λσ H R=>∃ ρ w t ds aB,Good K ρ σ H w t/\f ρ=some (ds,aB) /\
 ∀ J P H' w',Good K aB σ H' w' t->Go H w H' w'->me K J ds P->P H' w'->ds.length<sizeLine->R J H'
theorem PI.imp{X:Cx}{tg e:Expr}{t t':TI}(h:PI X tg e t)(i:∀ σ H R,t' σ H R->t σ H R):PI X tg e t':=λZ_ s σ H R I q=>h Z_ s σ H R I (i σ H R q)
abbrev Np (X:Cx)(tg e:Expr)(f:iZ):Prop:=PI X tg e (vc X.K f)
structure rC (X:Cx) (tg e:Expr) (f:iZ):Prop where mk::o:Np X tg e f
theorem It.list{K:PySem.W.Frag}{a:Addr}{vs:List V}{ds:List D}(hl:ds.length=vs.length):me K (zL K a) ds λH w=>(KL K a vs\/(Rd H a (.lst vs)/\w a=none))/\ag K H w .f 0 ds vs []:=by
 have sq:∀ {H:Hp} {w:Wn},KL K a vs\/(Rd H a (.lst vs)/\w a=none)->cM K H a vs:=λh=>h.elim (λz=>z.sq) λz=>.inl z.1;refine⟨λi H w p hi=>⟨vs,vs[i],sq p.1,by simp[hl ▸ hi]⟩,λi H w x H' d p wl hd y=>?_,λH w p=>⟨vs,sq p.1,by omega⟩,λH w H' w' p wl st=>?_⟩
 .obtain⟨rfl,hx⟩:=y;obtain⟨v,hv,rv⟩:=p.2.get hd;have:=hx vs (sq p.1);rw[hv]at this;cases this;exact⟨Mo.rB,rv,p⟩
 .refine⟨?_,ag.go wl st p.2 nM⟩;rcases p.1 with p|⟨p,n⟩
  .exact .inl p
  .exact .inr (xN.go st n p)
theorem It.tup{K:PySem.W.Frag}{a:Addr}{vs:List V}{ds:List D}(hl:ds.length=vs.length):me K (zM K a) ds λH w=>dv K H a vs/\ag K H w .f 0 ds vs []:=
 ⟨λi H w p hi=>⟨vs,vs[i],p.1,by simp[hl ▸ hi]⟩,λi H w x H' d p wl hd y=>by obtain⟨rfl,hx⟩:=y;obtain⟨v,hv,rv⟩:=p.2.get hd;have:=hx vs p.1;rw[hv]at this;cases this;exact⟨Mo.rB,rv,p⟩,λH w p=>⟨vs,p.1,by omega⟩,λH w H' w' p wl st=>⟨dv.go wl st p.1,ag.go wl st p.2 nM⟩⟩
def pU (n:Nat):List V:=(range n).map λi=>.int (Int.ofNat i)
def cq (n:Nat):List D:=(range n).map λi=>.int (Int.ofNat i)
theorem dX(n:Nat):(cq n).length=n:=by simp[cq]
theorem Em(n:Nat):(pU n).length=n:=by simp[pU]
theorem It.range{K:PySem.W.Frag}:me K (xo 0 n) (cq n) λ_ _=>True:=by
 refine⟨λi H w _ hi=>by rw[dX]at hi;exact hi,λi H w x H' d _ _ hd y=>?_,λH w _=>by rw[dX];exact Qf _,λ_ _ _ _ _ _ _=>trivial⟩;have hi:i<n:=by have:=(Qs.mp hd).1;rw[dX]at this;exact this
 have e:x=.int (0+(i:Int)):=y.2;have ed:d=.int (Int.ofNat i):=by
  have:(cq n)[i]? = some (.int (Int.ofNat i)):=by simp[cq,hi]
  rw[hd]at this;exact QM this
 obtain⟨rfl,_⟩:=y;subst ed;rw[e,Int.zero_add];exact⟨Mo.rB,.int _,trivial⟩
theorem x_{K:PySem.W.Frag}{H:Hp}{w:Wn}{o:Ow}:∀ (ns:List Int),ag K H w o 0 (ns.map D.int) (ns.map V.int) []
 | []=>.nil
 | n::r=>.cons (F:=[]) (G:=[]) (.int n) (x_ r) nM
theorem Nq{K:PySem.W.Frag}{H:Hp}{w:Wn}{o:Ow}(n:Nat):ag K H w o 0 (cq n) (pU n) []:=by have:=x_ (K:=K) (H:=H) (w:=w) (o:=o) ((range n).map Int.ofNat);rw[QG,QG]at this;exact this
section
variable {X:Cx}{tg a b c e:Expr}{fa fb fc f:aA}{ga gb gc:cy}{pos p:Pos}
@[simp] def bW (g:bQ):iZ:=λρ=>match g ρ with
 | some ([.int n],ac)=>if -1000<=n/\n<=1000 then some (cq n.toNat,ac)else none
 | _=>none
theorem eP{g:bQ}(hm:X.mg "range" = none)(ha:eO X [a] g)(hg:Gl X "range":=by rfl)(hs:starEach [a] X.env=[(false,eval a X.env)]:=by rfl):rC X tg (.Call (.Name "range" p) [a] [] pos) (bW g):=⟨have ha:=ha.o;PI.imp (K4 hg hm ha hs) λσ H R ak=>by
 obtain⟨ρ,w,t,ds,aB,gd,ee,k⟩:=ak;unfold bW at ee;split at ee;next n ac h1=>
  split at ee;next hn=>
   cases ee;refine⟨ρ,w,t,[.int n],_,gd,h1,λvs H1 w1 g1 aJ r1=>?_⟩;have hv:vs=[.int n]:=by
    have l:=r1.length
    match vs,l with
    | [v],_=>
     obtain⟨v',h1,h2⟩:=r1.get (i:=0) rfl;cases h1;rw[dZ h2]
   subst hv;refine⟨n,rfl,by omega,by omega,k _ _ H1 w1 g1 aJ It.range trivial ?_⟩;rw[dX];exact qW (by omega)
  .cases ee
 .cases ee⟩
def Nr (K:PySem.W.Frag)(tl:TE):TI:=λσ H R=>tl σ H λx H1=>∃ a,x=.ref a/\(((∃ xs,cM K H1 a xs)/\R (zL K a) H1)\/((∃ xs,dv K H1 a xs)/\R (zM K a) H1))
theorem Nt{l:Expr}{tl:TE}(hl:PE X l tl):PI X tg l (Nr X.K tl):=by
 intro Z_ s σ H R I h;refine a_ (hl Z_ s σ H _ I h) λv s1 ⟨x,H1,I1,r1,q1⟩=>?_;obtain⟨a,e,q⟩:=q1;subst e;cases r1;rcases q with⟨⟨xs,hq⟩,q⟩|⟨⟨xs,hq⟩,q⟩
 .obtain⟨ar,rv,p,hz⟩:=I1.list hq;refine wpAny_pyIter_list p.isList ?_;refine⟨s1.heap.objs.size,[s1.heap.objs.size],_,_,H1,rfl,I1.kept (t':=s1.toks) λb o e=>Qh _ e,KZ a _,⟨_,Qy _ rfl,rfl,rfl⟩,λb hb=>?_,q⟩;have e:b=s1.heap.objs.size:=by simpa using hb
  subst e;exact I1.n8 (Qf _) (I1.aK.fresh (Qf _))
 .obtain⟨ar,rv,p,hz⟩:=I1.tuple hq;refine ZQ (show s1.heap.IsTuple a ar.toArray from p) ?_;refine⟨s1.heap.objs.size,[s1.heap.objs.size],_,_,H1,rfl,I1.kept (t':=s1.toks) λb o e=>Qh _ e,K0 a _,⟨_,Qy _ rfl,rfl,rfl⟩,λb hb=>?_,q⟩;have e:b=s1.heap.objs.size:=by simpa using hb
  subst e;exact I1.n8 (Qf _) (I1.aK.fresh (Qf _))
@[simp] def bH (f:aA):iZ:=λρ=>match f ρ with
 | some (.lst ds,_,ac)=>if ds.length<=1000 then some (ds,ac)else none
 | some (.tup ds,_,ac)=>if ds.length<=1000 then some (ds,ac)else none
 | _=>none
theorem eI(ha:QD X a fa):rC X tg a (bH fa):=⟨have ha:=ha.o;PI.imp (Nt ha) λσ H R ak=>by
 obtain⟨ρ,w,t,ds,aB,gd,ee,k⟩:=ak;unfold bH at ee;split at ee;next l7 q ac h1=>
  split at ee;next hl=>
   cases ee;refine⟨ρ,w,t,.lst ds,q,aB,gd,h1,λv H1 w1 F g1 aJ r1=>?_⟩;obtain⟨a,vs,e,h,r,_⟩:=(r1.drop (o:=.f) (Qf t)).inv;exact⟨a,e,.inl ⟨⟨_,h.elim (·.sq) λh=>.inl h.1⟩,k _ _ H1 (cm t w1) g1.drop (aJ.drop gd.wt) (It.list r.length) ⟨h,r⟩ (qW hl)⟩⟩
  .cases ee
 next l7 q ac h1=>
  split at ee;next hl=>
   cases ee;refine⟨ρ,w,t,.tup ds,q,aB,gd,h1,λv H1 w1 F g1 aJ r1=>?_⟩;obtain⟨a,vs,e,h,r⟩:=(r1.drop (o:=.f) (Qf t)).fA;exact⟨a,e,.inr ⟨⟨_,h⟩,k _ _ H1 (cm t w1) g1.drop (aJ.drop gd.wt) (It.tup r.length) ⟨h,r⟩ (qW hl)⟩⟩
  .cases ee
 .cases ee⟩
end
abbrev eo:=D->aV->Option aV
def vd (K:PySem.W.Frag)(b:Nat)(pt:eo):TG:=λv σ H Q=>∃ d ρ w t aB,Good K ρ σ H w t/\Rep K H w .f 0 d v []/\pt d ρ=some aB/\∀ aP H' w',aP.length=σ.length->(∀ i,i<b->aP[i]? = σ[i]?)->Good K aB aP H' w' t->Go H w H' w'->Q aP H'
theorem PG.imp{X:Cx}{tg:Expr}{t t':TG}(h:PG X tg t)(i:∀ v σ H Q,t' v σ H Q->t v σ H Q):PG X tg t':=λZ_ s σ H v u Q I r q=>h Z_ s σ H v u Q I r (i v σ H Q q)
abbrev Nu (X:Cx)(b:Nat)(tg:Expr)(pt:eo):Prop:=PG X tg (vd X.K b pt)
structure pV (X:Cx) (b:Nat) (e:Expr) (f:eo):Prop where mk::o:Nu X b e f
@[simp] def ax (i:Nat):eo:=λd ρ=>if i<ρ.length then some (ρ.set i (some (d,bq d)))else none
theorem Good.rD{K:PySem.W.Frag}{ρ:aV}{σ:St}{H:Hp}{w:Wn}{t:Nat}{d:D}(g:Good K ρ σ H w t)(hi:i<σ.length)(r:Rep K H w .f 0 d v []) :
  Good K (ρ.set i (some (d,bq d))) (σ.set i (some v)) H (iq i w) t/\Go H w H (iq i w):=by
 have st:d9 H w H (iq i w):=λa x h n=>⟨sm h,u_ n⟩;refine⟨⟨⟨λa o h=>g.wl a o (oz h).1,g.wl.tb⟩,λa j h=>by rw[QC];exact g.ws a j (oz h).1,λa j h=>g.wt a j (oz h).1,by rw[QC,QC];exact g.len,λj d' q' e'=>?_⟩,⟨st,λa o h n=>⟨rfl,tG h (n i)⟩⟩⟩;by_cases hj:i=j
 .subst hj;rw[QB (by rw[g.len];exact hi)]at e';cases e';exact⟨v,[],QB hi,(Rep.go g.wl st r nM:Rep K H (iq i w) (.s i) 0 d v []).lZ⟩
 .rw[QF hj]at e';obtain⟨v',F,h1,h2⟩:=g.slot j d' q' e';exact⟨v',F,by rw[QF hj];exact h1,Rep.go g.wl st h2 λa m=>⟨rfl,tG (h2.aR a m) (λz=>hj (by cases z;rfl))⟩⟩
theorem bA{X:Cx}{b:Nat}{x:Str}{pos:Pos}(hb:b<=i)(hN:X.N.Nodup)(hi:X.N[i]? = some x)(hx:Loc X.env.scope x)(hf:X.fn x=true\/X.env.scope.names.lookup x=some .local:=by first|exact .inl rfl|exact .inr rfl):pV X b (.Name x pos) (ax i):=⟨PG.imp (KN hN hi hx hf) λv σ H Q ak=>by
 obtain⟨d,ρ,w,t,aB,g,r,e,k⟩:=ak;unfold ax at e;split at e;next hl=>
  cases e;obtain⟨a1,a2⟩:=g.rD (by rw[<- g.len];exact hl) r;exact k _ _ _ (by rw[QC]) (λj hj=>QF (by omega)) a1 a2
 .cases e⟩
def fq (pt:eo)(body:aH):List D->aV->Option Out
 | [],ρ=>some (.nx ρ)
 | d::ds,ρ=>match pt d ρ with
  | none=>none
  | some ac=>match body ac with
   | some (.nx ad)=>fq pt body ds ad
   | some (.ct ad)=>fq pt body ds ad
   | some (.bk ad)=>some (.nx ad)
   | o=>o
@[simp] def dy (it:iZ)(pt:eo)(body:aH):aH:=λρ=>match it ρ with
 | some (ds,ac)=>fq pt body ds ac
 | none=>none
theorem ag.j7{K:PySem.W.Frag}{H:Hp}{w w':Wn}{ds:List D}(r:ag K H w .f 0 ds vs [])(wl:WL K w H)(st:d9 H w H' w'):ag K H' w' .f 0 ds vs []:=ag.go wl st r nM
theorem Rep.j7{K:PySem.W.Frag}{H:Hp}{w w':Wn}{ds:D}{vs:V}(r:Rep K H w .f 0 ds vs [])(wl:WL K w H)(st:d9 H w H' w'):Rep K H' w' .f 0 ds vs []:=Rep.go wl st r nM
theorem ag.mf{K:PySem.W.Frag}{H:Hp}{w:Wn}:∀ {ds:List D} {vs:List V} (i:Nat),ag K H w .f 0 ds vs []->ag K H w .f 0 (ds.drop i) (vs.drop i) []
 | _,_,0,r=>r
 | ds,vs,i+1,r=>by
  generalize hF:([]:List Addr)=F at r;cases r with
  | nil=>exact .nil
  | cons r s _=>
   have h2:=s.zero;have h1:=r.zero;subst h2;subst h1;exact ag.mf i s
theorem Good.more{K:PySem.W.Frag}{ρ:aV}{σ:St}{H:Hp}{w:Wn}{t:Nat}(g:Good K ρ σ H w t)(hm:Mo K H H'):Good K ρ σ H' w t/\Go H w H' w:=by
 have h:=hm.mo;have st:d9 H w H' w:=λa x e n=>⟨sm (h a x e),n⟩;have kp:∀ a o,w a=some o->H' a=H a:=λa o e=>by obtain⟨vs,q⟩:=g.wl a o e;rw[q,h a _ q]
 refine⟨⟨⟨λa o e=>?_,hm.tb g.wl.tb⟩,g.ws,g.wt,g.len,λi d q e=>?_⟩,st,λa o e _=>⟨kp a o e,e⟩⟩
 .obtain⟨vs,q⟩:=g.wl a o e;exact⟨vs,h a _ q⟩
 .obtain⟨v,F,h1,h2⟩:=g.slot i d q e;exact⟨v,F,h1,Rep.go g.wl st h2 λa m=>⟨kp a _ (h2.aR a m),h2.aR a m⟩⟩
theorem fQ{X:Cx}{tg iter:Expr}{body:List Stmt}{it:iZ}{pt:eo}{s:aH}{pos:Pos}(hp:PassesOwn (model X.prog X.w) X.A X.env X.xe)(hc:X.calm=true)(hi:rC X tg iter it)(hg:pV X 0 tg pt)(hb:gP X body s)(hs:∀ x,foldedSetIterable iter X.env x=pure x:=by intro _;rfl):j6 X (.For tg iter body [] pos) (dy it pt s):=⟨have hi:=hi.o;have hg:=hg.o;have hb:=hb.o;PS.imp (K6 hp hc hi hg hb hs) λD σ H ak=>by
 obtain⟨ρ,w,o,g,ee,k⟩:=ak;unfold dy at ee;split at ee;next ds ac h1=>
  refine⟨ρ,w,0,ds,ac,g,h1,λJ P H1 w1 g1 aJ ok p1 hl=>?_⟩;refine⟨λi m aP H'=>m=ds.length-i/\i<=ds.length/\aP.length=σ.length/\∃ aB w',Good X.K aB aP H' w' 0/\P H' w'/\fq pt s (ds.drop i) aB=some o/\rA X.K D σ.length H' w' o,
   ⟨ds.length,by simp,Jl _,rfl,ac,w1,g1,p1,ee,k.trans aJ⟩,?_⟩
  rintro i m aP H' ⟨rfl,mh,iJ,aB,w',g',p',e',k'⟩;by_cases eN:i<ds.length
  .refine .inr ⟨ok.go i H' w' p' eN,λqI H2=>ds.length-(i+1)=ds.length-(i+1)/\i+1<=ds.length/\qI.length=σ.length/\∃ ad w2,Good X.K ad qI H2 w2 0/\P H2 w2/\fq pt s (ds.drop (i+1)) ad=some o/\rA X.K D σ.length H2 w2 o,
    λqI H2 n2=>⟨ds.length-(i+1),by omega,n2⟩,λx H2 hy=>?_⟩
   obtain⟨mo,rx,p2⟩:=ok.pE i H' w' x H2 ds[i] p' g'.wl (Qz eN) hy;obtain⟨g2,bb⟩:=g'.more mo;have ed:ds.drop i=ds[i]::ds.drop (i+1):=Z9 eN;rw[ed]at e';unfold fq at e';split at e'
   .cases e'
   next dI h3=>
    refine⟨ds[i],aB,w',0,dI,g2,rx,h3,λqZ H4 w4 l4 _ g4 j8=>?_⟩;have p4:=ok.st _ _ _ _ p2 g2.wl j8.bw;have nx:∀ {j9:aV},fq pt s (ds.drop (i+1)) j9=some o->∀ rE H5 w5,rE.length=qZ.length->Good X.K j9 rE H5 w5 0->Go H4 w4 H5 w5->ds.length-(i+1)=ds.length-(i+1)/\i+1<=ds.length/\rE.length=σ.length/\∃ ad w2,Good X.K ad rE H5 w2 0/\P H5 w2/\fq pt s (ds.drop (i+1)) ad=some o/\rA X.K D σ.length H5 w2 o:=λ{j9} e5 rE H5 w5 l5 g5 jn=>
     ⟨rfl,eN,by rw[l5,l4,iJ],j9,w5,g5,ok.st _ _ _ _ p4 g4.wl jn.bw,e5,k'.trans ((bb.trans j8).trans jn)⟩
    cases h6:s dI with
    | none=>rw[h6]at e';cases e'
    | some o6=>
     rw[h6]at e';refine⟨dI,w4,o6,g4,h6,?_⟩;cases o6 with
     | nx j9=>exact nx e'
     | ct j9=>exact nx e'
     | bk j9=>
      cases e';exact λrE H5 w5 l5 g5 jn=>k' rE H5 w5 (by rw[l5,l4,iJ]) g5 ((bb.trans j8).trans jn)
     | rt d q=>
      cases e';exact λv H5 w5 F Nv jn r5=>k' v H5 w5 F Nv ((bb.trans j8).trans jn) r5
  .have fG:i=ds.length:=Yv mh (Nat.not_lt.mp eN);subst fG;refine .inl ⟨ok.stop H' w' p',?_⟩;have ed:ds.drop ds.length=[]:=by simp
   rw[ed]at e';cases e';exact k' aP H' w' iJ g' Go.refl
 .cases ee⟩
@[simp] def jo (n:Nat)(ds:List D):aV:=ds.map (λd=>some (d,bq d))++replicate (n-ds.length) none
@[simp] def bU (n:Nat)(body:aH):List D->OD:=λds=>match body (jo n ds)with
 | some (.rt d q)=>some (d,q)
 | some (.nx _)=>some (.aO,9)
 | _=>none
theorem AN{K:PySem.W.Frag}{H:Hp}{w:Wn}{ds:List D}(hw:∀ a o,w a=some o->o=.f)(wl:WL K w H)(r:ag K H w .f 0 ds vs []):Good K (jo N.length ds) (k7 N vs) H w 0:=by
 refine⟨wl,(λa i e=>by cases (hw a _ e)),(λa i e=>by cases (hw a _ e)),?_,λi d q e=>?_⟩
 .unfold jo L2.k7;rw[Qe,Qe,Qa,Qa,Q7,Q7,r.length]
 .unfold jo at e;by_cases hi:i<ds.length
  .rw[QV (by simpa using hi),QO]at e;cases h:ds[i]? with
   | none=>rw[h]at e;cases e
   | some d'=>
    rw[h]at e;cases e;obtain⟨v,hv,rv⟩:=r.get h;refine⟨v,[],?_,(rv.any wl:Rep K H w (.s i) 0 d v []).lZ⟩;unfold L2.k7;rw[QV (by rw[Qa,<- r.length];exact hi),QO,hv];rfl
  .rw[Zb (by simpa using hi),Zu]at e;split at e<;>cases e
theorem Nw{K:PySem.W.Frag}{body:aH}{H:Hp}{Q:VK}{E:XK}(h:kH K n (bU N.length body) vs H Q E):x8 K body { nx:=λ_ H'=>Q .aO H',rt:=Q } (k7 N vs) H:=by
 obtain⟨hn,ds,w,r,q,hw,wl,rs,e,k⟩:=h;unfold bU at e;split at e;next d q' h1=>
  cases e;exact⟨_,w,_,AN hw wl rs,h1,λv H' w' F va fP r'=>k v H' w' F fP va r'⟩
 next aB h1=>
  cases e;exact⟨_,w,_,AN hw wl rs,h1,λaP H' w' _ g' fP=>k .aO H' w' [] fP g'.wl .aO⟩
 .cases e
theorem En{P:Program}{wd:World}{K:PySem.W.Frag}{mg:Str->Option Value}{base:Heap}{x qual:Str}{st:Stmt}{f:Addr}{k:Nat}{body:aH}(F:lT K x qual st f fd)(S:ah N ps (bh st))
  (h:∀ (b6:Value) (A:Around) (outer:List Env) (s:Shared) (H:Hp) (E:XK),bc k (A.deeper (envOfC qual (bh st) s.heap.objs.size f b6))->x9 (k8 jl P wd K mg base N qual (bh st) f b6 A outer s H E).g7 (jk st) body) :
  eG P wd K mg base jl (k+1) f fd ps (kH K ps.length (bU N.length body)):=
 F.ok S (λvs H Q E h=>h.1) λb6 A outer s H vs Q E hr jz=>⟨_,h b6 A outer s H E hr,Nw jz⟩
def iK (k:Nat)(pt:eo)(tt:cy)(te:aA)(deep:Bool):List D->aV->Option (List D×aV)
 | [],ρ=>some ([],ρ)
 | d::ds,ρ=>match pt d (ρ++replicate k none)with
  | none=>none
  | some ac=>match tt ac with
   | none=>none
   | some (b,ad)=>if b=true then(match te ad with
     | none=>none
     | some (v,q,dI)=>if deep=true/\v.cI=true/\q≠1 then none else match iK k pt tt te deep ds (dI.take ρ.length)with
      | none=>none
      | some (vs,rF)=>some (v::vs,rF))
    else iK k pt tt te deep ds (ad.take ρ.length)
@[simp] def cA (k:Nat)(it:iZ)(pt:eo)(tt:cy)(te:aA)(deep:Bool):aA:=λρ=>match it ρ with
 | some (ds,ac)=>match iK k pt tt te deep ds ac with
  | some (vs,ad)=>some (.lst vs,if deep=true then 2 else 1,ad)
  | none=>none
 | none=>none
@[simp] def bE:cy:=λρ=>some (true,ρ)
theorem Good.ext{K:PySem.W.Frag}{ρ:aV}{σ:St}{H:Hp}{w:Wn}{t:Nat}(g:Good K ρ σ H w t)(k:Nat):Good K (ρ++replicate k none) (σ++replicate k none) H w t:=by
 refine⟨g.wl,λa i e=>by rw[Qe];exact Qo (g.ws a i e) (Yf _ _),g.wt,by rw[Qe,Qe,Q7,Q7,g.len],λi d q e=>?_⟩;by_cases hi:i<ρ.length
 .rw[QV hi]at e;obtain⟨v,F,h1,h2⟩:=g.slot i d q e;exact⟨v,F,by rw[QV (by rw[<- g.len];exact hi)];exact h1,h2⟩
 .rw[Zb (by omega),Zu]at e;split at e<;>cases e
def mi (n:Nat)(w:Wn):Wn:=λa=>match w a with
 | some (.s i)=>if n<=i then none else some (.s i)
 | x=>x
theorem Nx{w:Wn}{a:Addr}(h:w a=none):mi n w a=none:=by unfold mi;rw[h]
theorem Ny{w:Wn}{a:Addr}(h:w a=some (.s i))(hi:i<n):mi n w a=some (.s i):=by unfold mi;rw[h];exact Qw (by omega)
theorem Nz{w:Wn}{a:Addr}{o:Ow}(h:w a=some o)(hn:∀ i,o ≠ .s i):mi n w a=some o:=by
 unfold mi;rw[h];cases o with
 | s i=>exact absurd rfl (hn i)
 | t i=>rfl
 | f=>rfl
theorem AO{w:Wn}{a:Addr}{o:Ow}(h:mi n w a=some o):w a=some o/\∀ i,o=.s i->i<n:=by
 unfold mi at h;cases e:w a with
 | none=>rw[e]at h;cases h
 | some o'=>
  rw[e]at h;cases o' with
  | t i=>cases h;exact⟨rfl,λi z=>nomatch z⟩
  | f=>cases h;exact⟨rfl,λi z=>nomatch z⟩
  | s i=>
   dsimp only at h;split at h
   .cases h
   .cases h;exact⟨rfl,λj z=>by cases z;omega⟩
theorem Good.cut{K:PySem.W.Frag}{ρ:aV}{σ τ:St}{H:Hp}{w:Wn}{t:Nat}(g:Good K ρ (σ++τ) H w t):Good K (ρ.take σ.length) σ H (mi σ.length w) t/\Go H w H (mi σ.length w):=by
 have st:d9 H w H (mi σ.length w):=λa x h n=>⟨sm h,Nx n⟩;refine⟨⟨⟨λa o e=>g.wl a o (AO e).1,g.wl.tb⟩,λa i e=>(AO e).2 i rfl,λa i e=>g.wt a i (AO e).1,?_,λi d q e=>?_⟩,⟨st,λa o e n=>⟨rfl,Nz e n⟩⟩⟩
 .rw[ZK,g.len,Qe];omega
 .by_cases hi:i<σ.length
  .rw[Jb hi]at e;obtain⟨v,F,h1,h2⟩:=g.slot i d q e;rw[QV hi]at h1;exact⟨v,F,h1,Rep.go g.wl st h2 λa m=>⟨rfl,Ny (h2.aR a m) hi⟩⟩
  .rw[JS (by omega)]at e;cases e
theorem Eo{σ aP τ:St}(l:aP.length=(σ++τ).length)(h:∀ i,i<σ.length->aP[i]? = (σ++τ)[i]?):∃ Ep,aP=σ++Ep/\Ep.length=τ.length:=by
 refine⟨aP.drop σ.length,?_,by rw[Z6,l,Qe];omega⟩;have e:aP.take σ.length=σ:=by
  apply Za;intro i;by_cases hi:i<σ.length
  .rw[Jb hi,h i hi,QV hi]
  .rw[JS (by omega),QA (by omega)]
 conv=>lhs;rw[<- List.take_append_drop σ.length aP,e]
def dq (deep:Bool):Nat:=if deep=true then 1 else 0
def jq (deep:Bool)(t:Nat)(w:Wn):Wn:=λa=>if w a=some (.t (t+1))then(if deep=true then some (.t t)else none)else w a
theorem NA{K:PySem.W.Frag}{ρ:aV}{σ:St}{H:Hp}{w:Wn}{t q:Nat}{d:D}(g:Good K ρ σ H w (t+2))(r:Rep K H w (.t (t+1)) q d v F)(hq:¬ (deep=true/\d.cI=true/\q≠1)) :
  Good K ρ σ H (jq deep t w) (t+1)/\(∃ F',Rep K H (jq deep t w) (.t t) (dq deep) d v F'/\∀ a∈F',w a=some (.t (t+1)))/\d9 H w H (jq deep t w)/\(∀ a o,w a=some o->o ≠ .t (t+1)->jq deep t w a=some o):=by
 have hN:∀ a,w a=none->jq deep t w a=none:=λa e=>by unfold jq;rw[e];rfl
 have hO:∀ a o,w a=some o->o ≠ .t (t+1)->jq deep t w a=some o:=λa o e n=>by unfold jq;rw[Qw (by rw[e];exact λz=>n (QM z))];exact e
 have hI:∀ a o,jq deep t w a=some o->(w a=some (.t (t+1))/\o=.t t)\/(w a=some o/\o ≠ .t (t+1)):=λa o e=>by
  unfold jq at e;split at e
  .split at e
   .cases e;exact .inl ⟨by assumption,rfl⟩
   .cases e
  .rename_i n;exact .inr ⟨e,λz=>n (by rw[e,z])⟩
 have st:d9 H w H (jq deep t w):=λa x h n=>⟨sm h,hN a n⟩;refine⟨⟨⟨λa o e=>?_,g.wl.tb⟩,λa i e=>?_,λa i e=>?_,g.len,λi d' q' e'=>?_⟩,?_,st,hO⟩
 .rcases hI a o e with⟨z,_⟩|⟨z,_⟩<;>exact g.wl a _ z
 .rcases hI a _ e with⟨_,z⟩|⟨z,_⟩
  .cases z
  .exact g.ws a i z
 .rcases hI a _ e with⟨_,z⟩|⟨z,n⟩
  .cases z;exact Zt _
  .have:=g.wt a i z;have:i≠t+1:=λz=>n (by rw[z]);omega
 .obtain⟨v',F',h1,h2⟩:=g.slot i d' q' e';exact⟨v',F',h1,Rep.go g.wl st h2 λa m=>⟨rfl,hO a _ (h2.aR a m) (λz=>nomatch z)⟩⟩
 .cases deep with
  | false=>
   refine⟨[],Rep.freeze hN r λa m=>?_,λ_ z=>nomatch z⟩;unfold jq;rw[Qk (r.aR a m)];rfl
  | true=>
   have hT:∀ a,w a=some (.t (t+1))->jq true t w a=some (.t t):=λa e=>by unfold jq;rw[Qk e];rfl
   cases hl:d.cI with
   | false=>
    obtain⟨_,hr⟩:=r.dk hl;exact⟨[],Rep.go g.wl st (hr 1) nM,λ_ z=>nomatch z⟩
   | true=>
    have:q=1:=by
     by_cases h:q=1
     .exact h
     .exact absurd ⟨rfl,hl,h⟩ hq
    subst this;exact⟨F,Rep.go g.wl st r λa m=>⟨rfl,hT a (r.aR a m)⟩,r.aR⟩
theorem NB{K:PySem.W.Frag}{ρ:aV}{σ:St}{w1:Wn}{t q:Nat}{p:Addr}{ds:List D}(g:Good K ρ σ H1 w1 (t+1))(hp:H1 p=none)(r:ag K H1 w1 (.t t) q ds vs F) :
  Good K ρ σ (upd H1 p (.lst vs)) (nv p (.t t) w1) (t+1)/\Go H1 w1 (upd H1 p (.lst vs)) (nv p (.t t) w1)/\Rep K (upd H1 p (.lst vs)) (nv p (.t t) w1) (.t t) (q+1) (.lst ds) (.ref p) (p::F):=by
 have ne:∀ a x,H1 a=some x->a≠p:=λa x e=>kZ e hp;have nw:∀ a o,w1 a=some o->a≠p:=λa o e=>by obtain⟨vs,q⟩:=g.wl a o e;exact ne a _ q
 have st:d9 H1 w1 (upd H1 p (.lst vs)) (nv p (.t t) w1):=λa x e n=>⟨sm (by rw[bR (ne a x e)];exact e),by rw[kF (ne a x e)];exact n⟩;refine⟨⟨⟨λa o e=>?_,g.wl.tb.upd rfl (.inl hp)⟩,λa i e=>?_,λa i e=>?_,g.len,λi d q e=>?_⟩,⟨st,λa o e _=>⟨bR (nw a o e),(kF (nw a o e)).trans e⟩⟩,?_⟩
 .by_cases h:a=p
  .subst h;exact⟨.l vs,jj⟩
  .rw[kF h]at e;obtain⟨us,q⟩:=g.wl a o e;exact⟨us,by rw[bR h];exact q⟩
 .by_cases h:a=p
  .subst h;rw[tF]at e;cases e
  .rw[kF h]at e;exact g.ws a i e
 .by_cases h:a=p
  .subst h;rw[tF]at e;cases e;exact Zt _
  .rw[kF h]at e;exact g.wt a i e
 .obtain⟨v,F,h1,h2⟩:=g.slot i d q e;exact⟨v,F,h1,Rep.go g.wl st h2 λa m=>⟨bR (nw a _ (h2.aR a m)),(kF (nw a _ (h2.aR a m))).trans (h2.aR a m)⟩⟩
 .exact .own jj tF (ag.go g.wl st r λa m=>⟨bR (nw a _ (r.aR a m)),(kF (nw a _ (r.aR a m))).trans (r.aR a m)⟩) λm=>absurd rfl (nw p _ (r.aR p m))
theorem Er{K:PySem.W.Frag}{k:Nat}{it:iZ}{pt:eo}{tt:cy}{te:aA}:∀ σ H Q,tD K (cA k it pt tt te deep) σ H Q->tm k (vc K it) (vd K σ.length pt) (pS K tt) (tD K te) σ H Q:=λσ H Q ak=>by
 obtain⟨ρ,w,t,r',q,aB,g,ee,kk⟩:=ak;unfold cA at ee;split at ee;next ds ac h1=>
  split at ee;next all ad h2=>
   cases ee;refine⟨ρ,w,t,ds,ac,g,h1,λJ P H1 w1 g1 aJ ok p1 hl=>?_⟩;refine⟨λi m ys H'=>m=ds.length-i/\i<=ds.length/\ys.length<=i/\∃ dI w3 zs F cb,Good K dI σ H' w3 (t+1)/\Go H w H' w3/\P H' w3/\ag K H' w3 (.t t) (dq deep) zs ys F /\
     iK k pt tt te deep (ds.drop i) dI=some (cb,aB)/\zs++cb=all,
    ⟨ds.length,by simp,Jl _,Qf _,ac,w1,[],[],all,g1.up,aJ,p1,.nil,h2,rfl⟩,?_⟩
   rintro i m ys H' ⟨rfl,mh,NC,dI,w3,zs,F,cb,g0,j7,p0,Es,e3,ez⟩;have hsz:ys.length<sizeLine:=by omega
   refine⟨ZG hsz,?_⟩;by_cases eN:i<ds.length
   .refine .inr ⟨ok.go i H' w3 p0 eN,hsz,λx H2 hy=>?_⟩;obtain⟨mo,rx,p3⟩:=ok.pE i H' w3 x H2 ds[i] p0 g0.wl (Qz eN) hy;obtain⟨g3,bb⟩:=g0.more mo;have iw:=j7.trans bb;have rz:=Es.gone g0.wl bb;have ed:ds.drop i=ds[i]::ds.drop (i+1):=Z9 eN;rw[ed]at e3;unfold iK at e3;split at e3
    .cases e3
    next rF h4=>
     split at e3
     .cases e3
     next b j9 h5=>
      have gx:=g3.ext k;have vf:dI.length=σ.length:=g3.len;refine⟨ds[i],_,w3,t+1,rF,gx,rx,h4,λqZ H4 w4 l4 s4 g4 j8=>?_⟩;obtain⟨τ,rfl,AQ⟩:=Eo l4 s4;refine⟨⟨τ,rfl,by rw[AQ,Q7]⟩,rF,w4,t+1,b,j9,g4,h5,λH5 w5 g5 jn=>?_⟩;have p5:=ok.st _ _ _ _ (ok.st _ _ _ _ p3 g3.wl j8.bw) g4.wl jn.bw;have z5:ag K H5 w5 (.t t) (dq deep) zs ys F:=(rz.gone g3.wl j8).gone g4.wl jn;cases b with
      | false=>
       rw[Qw (by decide)]at e3;dsimp only;rw[Qw (by decide)];obtain⟨gc,kK⟩:=g5.cut;rw[vf]at e3;refine⟨ds.length-(i+1),by omega,rfl,eN,by omega,_,_,zs,F,cb,gc,(iw.trans j8).trans (jn.trans kK),ok.st _ _ _ _ p5 g5.wl kK.bw,z5.gone g5.wl kK,e3,ez⟩
      | true=>
       rw[Qk rfl]at e3;dsimp only;rw[Qk rfl];split at e3
       .cases e3
       next d6 q6 AR h6=>
        split at e3
        .cases e3
        next ND=>
         split at e3
         .cases e3
         next NF Xj h7=>
          cases e3;refine⟨j9,w5,t+1,d6,q6,AR,g5,h6,λv H6 w6 F6 g6 rG r6=>?_⟩;obtain⟨gs,⟨F',rs,NH⟩,AS,Et⟩:=NA g6 r6 ND;obtain⟨gc,kK⟩:=gs.cut;rw[vf]at h7;have Eu:=z5.gone g5.wl rG;have zF:∀ a∈F,w6 a=some (.t t):=Eu.aR;have NI:ag K H6 (jq deep t w6) (.t t) (dq deep) zs ys F:=ag.go g6.wl AS Eu λa m=>⟨rfl,Et a _ (zF a m) (by intro z;cases z)⟩;have NJ:Go H w H6 (jq deep t w6):=by have go:Go H w H6 w6:=(iw.trans j8).trans (jn.trans rG);refine⟨go.bw.trans AS,λa o h n=>⟨(go.keep a o h n).1,Et a o (go.keep a o h n).2 λz=>?_⟩⟩;subst z;have:=g.wt a _ h;omega
          refine⟨ds.length-(i+1),by omega,rfl,eN,by rw[Qe];simp;omega,_,_,zs++[d6],F++F',NF,gc,NJ.trans kK,ok.st _ _ _ _ (ok.st _ _ _ _ p5 g5.wl rG.bw |> λq=>ok.st _ _ _ _ q g6.wl AS) gs.wl kK.bw,
           ?_,h7,by rw[Zg];exact ez⟩
          refine(ag.snoc rs NI λa m m'=>?_).gone gs.wl kK;have h1:=zF a m;rw[NH a m']at h1;cases h1
   .have fG:i=ds.length:=Yv mh (Nat.not_lt.mp eN);subst fG;refine .inl ⟨ok.stop H' w3 p0,λp hp=>?_⟩;have ed:ds.drop ds.length=[]:=by simp
    rw[ed]at e3;cases e3;rw[QY]at ez;subst ez;obtain⟨a1,a2,a3⟩:=NB g0 hp Es;refine kk _ _ _ (p::F) a1 (j7.trans a2) ?_;cases deep<;>exact a3
  .cases ee
 .cases ee
section
variable {X:Cx}{k:Nat}{N':List Str}{scope:Scope}{elt tg iter:Expr}{ifs:List Expr}{pos:Pos}{it:iZ}{pt:eo}{tt:cy}{te:aA}
abbrev NK (X:Cx)(ifs:List Expr)(f:cy):Prop:=pL X ifs (pS X.K f)
structure mj (X:Cx) (e:List Expr) (f:cy):Prop where mk::o:NK X e f
theorem dQ:mj X [] bE:=⟨λZ_ s σ H Q I ak=>by obtain⟨ρ,w,t,b,aB,gd,ee,k⟩:=ak;cases ee;exact MH Z_ s σ H Q I (k H w gd Go.refl)⟩
theorem AU{c:Expr}{g:cy}(h:iI X c g):mj X [c] g:=⟨have h:=h.o;MI h⟩
theorem eQ(deep:Bool)(hc:X.calm=true)(hi:rC X tg iter it)(hg:∀ C s H fp,pV (dw X N' scope C s H fp) X.N.length tg pt)(ht:∀ C s H fp,mj (dw X N' scope C s H fp) ifs tt)(he:∀ C s H fp,QD (dw X N' scope C s H fp) elt te)(hs:∀ x,foldedSetIterable iter X.env x=pure x:=by intro _;rfl)(S:bL X k N' scope:=by exact⟨rfl,by decide +kernel,rfl,rfl,rfl⟩):QD X (.ListComp elt [⟨tg,iter,ifs,0⟩] scope pos) (cA k it pt tt te deep):=⟨have hi:=hi.o;have hg:=λC s H fp=>(hg C s H fp).o;have ht:=λC s H fp=>(ht C s H fp).o;have he:=λC s H fp=>(he C s H fp).o;by intro Z_ s σ H Q I h;have:=Er σ H Q h;rw[I.len]at this;exact MN (N':=N') hc S hi hg ht he hs Z_ s σ H Q I this⟩
theorem yb{i:Nat}{y:Str}{py iW:Pos}(deep:Bool)(hN:X.N.Nodup)(rf:swapsWith (.ListComp elt [⟨tg,iter,ifs,0⟩] scope pos) (some (.Name y py)) iW.line X.env=pure true)(hc:X.calm=true)(hi:rC X tg iter it)(hg:∀ C s H fp,pV (dw X N' scope C s H fp) X.N.length tg pt)(ht:∀ C s H fp,mj (dw X N' scope C s H fp) ifs tt)(he:∀ C s H fp,QD (dw X N' scope C s H fp) elt te)(hs:∀ x,foldedSetIterable iter X.env x=pure x:=by intro _;rfl)(hf:X.fn y=true\/X.env.scope.names.lookup y=some .local:=by first|exact .inl rfl|exact .inr rfl|assumption)(hy:X.N[i]? = some y:=by rfl)(hx:Loc X.env.scope y:=by first|exact Or.inl rfl|exact Or.inr rfl)(S:bL X k N' scope:=by exact⟨rfl,by decide +kernel,rfl,rfl,rfl⟩):j6 X (.Assign [.Name y py] (.ListComp elt [⟨tg,iter,ifs,0⟩] scope pos) iW) (aY i (cA k it pt tt te deep)):=⟨have hi:=hi.o;have hg:=λC s H fp=>(hg C s H fp).o;have ht:=λC s H fp=>(ht C s H fp).o;have he:=λC s H fp=>(he C s H fp).o;by
 intro Z_ s σ H D I h;have hl:i<σ.length:=by rw[I.len];exact(Qs.mp hy).1
 refine MO (N':=N') (te:=tD X.K te) (tt:=pS X.K tt) (g:=vd X.K X.N.length pt) (wi:=vc X.K it) hN hy hx rf hc S hi hg ht he hs hf Z_ s σ H D I ?_;have z:=El (te:=tm k (vc X.K it) (vd X.K σ.length pt) (pS X.K tt) (tD X.K te)) hl (λQ q=>Er σ H Q q) h;rw[I.len]at z;exact z⟩
end
mutual
def cn:D->PyData
 | .aO=>.none
 | .bl b=>.bool b
 | .int i=>.int i
 | .str x=>.str x
 | .tup ds=>.tuple (d3 ds)
 | .lst ds=>.list (d3 ds)
 | .iY _ _=>.none
 | .exc _=>.none
 | .ob _ _ _ _=>.none
 | .mp _ _=>.none
def d3:List D->List PyData
 | []=>[]
 | d::ds=>cn d::d3 ds
end
mutual
def j_:D->Bool
 | .iY _ _=>false
 | .exc _=>false
 | .ob _ _ _ _=>false
 | .mp _ _=>false
 | .tup ds=>rH ds
 | .lst ds=>rH ds
 | _=>true
def rH:List D->Bool
 | []=>true
 | d::ds=>j_ d&&rH ds
end
def eY (d:D):Bool:=j_ d&&SeqAt.shaped (cn d)
theorem lg{d:D}(h:eY d=true):j_ d=true:=(QT.mp h).1
theorem lh{d:D}(h:eY d=true):SeqAt.shaped (cn d)=true:=(QT.mp h).2
def oD (d e:D):Bool:=PyData.eqv (cn d) (cn e)
section
variable {X:Cx}{Z_:List (Addr×Obj)}{σ:St}{H:Hp}{s:Shared}
theorem Rep.reads(I:Inv X Z_ σ H s){w:Wn}{o:Ow}:∀ {q:Nat} {d:D} {v:V} {F:List Addr} {u:Value},Rep X.K H w o q d v F->cE v u->j_ d=true->∃ as,Reads s.heap u (cn d) as:=by
 intro q d v F u r;refine(Rep.rec (motive_1:=λq d v F _=>∀ u,cE v u->j_ d=true->∃ as,Reads s.heap u (cn d) as) (motive_2:=λq ds vs F _=>∀ us,bf vs us->rH ds=true->∃ as,ReadsAll s.heap us (d3 ds) as) ?_ ?_ ?_ ?_ ?_ ?_ ?_ ?_ ?_ ?_ ?_ ?_ ?_ ?_ ?_ r:∀ u,cE v u->j_ d=true->∃ as,Reads s.heap u (cn d) as) u
 .intro q u ru hn;cases ru;exact⟨_,by unfold cn;exact .none⟩
 .intro q b u ru hn;cases ru;exact⟨_,by unfold cn;exact .bool b⟩
 .intro q i u ru hn;obtain⟨t,rfl⟩:=ru;exact⟨_,by unfold cn;exact .int i t⟩
 .intro q x u ru hn;obtain⟨t,rfl⟩:=ru;exact⟨_,by unfold cn;exact .str x t⟩
 .intro q a vs ds h r ih u ru hn;cases ru;obtain⟨ar,rv,p,hz⟩:=I.tuple (dv.of h);obtain⟨as,ra⟩:=ih ar rv (by unfold j_ at hn;exact hn);obtain⟨ob,ho,hc,n,hd⟩:=p;exact⟨_,by unfold cn;exact .tuple ho hc hd ra⟩
 .intro q a ks vs ds h e r ih u ru hn;cases hn
 .intro q a nm ob v h x n u ru hn;cases hn
 .intro q f c fo oc u1 u2 vs ds h1 h2 x r ih u ru hn;cases hn
 .intro a vs ds h r ih u ru hn;cases ru;obtain⟨ar,rv,p,hz⟩:=I.list h.sq;obtain⟨as,ra⟩:=ih ar rv (by unfold j_ at hn;exact hn);obtain⟨ob,ho,hc,n,hd⟩:=p.isList;exact⟨_,by unfold cn;exact .list ho hc hd ra⟩
 .intro a vs ds h n0 r ih u ru hn;cases ru;obtain⟨ar,rv,p,hz⟩:=I.list (.inl h);obtain⟨as,ra⟩:=ih ar rv (by unfold j_ at hn;exact hn);obtain⟨ob,ho,hc,n,hd⟩:=p.isList;exact⟨_,by unfold cn;exact .list ho hc hd ra⟩
 .intro q a vs ds F h e r ne ih u ru hn;cases ru;obtain⟨ar,rv,p,hz⟩:=I.list (cM.of h);obtain⟨as,ra⟩:=ih ar rv (by unfold j_ at hn;exact hn);obtain⟨ob,ho,hc,n,hd⟩:=p.isList;exact⟨_,by unfold cn;exact .list ho hc hd ra⟩
 .intro a vs ds k x h i e l r ih u ru hn;cases hn
 .intro q a vs ds k x h i e l r ih u ru hn;cases hn
 .intro q us ru hn;cases ru;exact⟨_,by unfold d3;exact .nil⟩
 .intro q d v ds vs F G r s' ne rh rj us ru hn;cases ru with
  | cons rv NL=>
   unfold rH at hn;obtain⟨as,ra⟩:=rh _ rv (QT.mp hn).1;obtain⟨bs,rb⟩:=rj _ NL (QT.mp hn).2;exact⟨_,by unfold d3;exact .cons ra rb⟩
end
def Is (K:PySem.W.Frag)(H:Hp)(d:D)(v:V):Prop:=∃ w o q F,Rep K H w o q d v F
def Ew (K:PySem.W.Frag):R2:=λx y H Q=>∃ d e,Is K H d x/\Is K H e y/\eY d=true/\eY e=true/\Q (.bl (oD d e)) H
def Ex (K:PySem.W.Frag):R2:=λx y H Q=>∃ d e,Is K H d x/\Is K H e y/\eY d=true/\eY e=true/\Q (.bl (!oD d e)) H
def inD (d:D):D->Option Bool
 | .lst ds=>some ((d3 ds).any λy=>PyData.eqv y (cn d))
 | .tup ds=>some ((d3 ds).any λy=>PyData.eqv y (cn d))
 | _=>none
def yc (K:PySem.W.Frag)(neg:Bool):R2:=λx y H Q=>∃ d e b,Is K H d x/\Is K H e y/\eY d=true/\eY e=true/\inD d e=some b/\Q (.bl (if neg then !b else b)) H
section
variable {X:Cx}{a b c e:Expr}{fa fb fc f:aA}{pos:Pos}
theorem Ey(hu:X.A.units+64<cLine):cN X (compareOp .Eq) (Ew X.K):=by intro Z_ s σ H x y v u Q I rx ry ⟨d,e,⟨w,o,q,F,h1⟩,⟨w',o',q',F',h2⟩,k1,k2,hq⟩;obtain⟨as,ra⟩:=h1.reads I rx (lg k1);obtain⟨bs,rb⟩:=h2.reads I ry (lg k2);exact eq_dataH ra rb (lh k1) (lh k2) hu ⟨.bl _,H,I,rfl,hq⟩
theorem NM(hu:X.A.units+64<cLine):cN X (compareOp .NotEq) (Ex X.K):=by intro Z_ s σ H x y v u Q I rx ry ⟨d,e,⟨w,o,q,F,h1⟩,⟨w',o',q',F',h2⟩,k1,k2,hq⟩;obtain⟨as,ra⟩:=h1.reads I rx (lg k1);obtain⟨bs,rb⟩:=h2.reads I ry (lg k2);exact ne_dataH ra rb (lh k1) (lh k2) hu ⟨.bl _,H,I,rfl,hq⟩
theorem Ez(hu:X.A.units+65<cLine):cN X (compareOp .In) (yc X.K false):=by
 intro Z_ s σ H x y v u Q I rx ry ⟨d,e,b,⟨w,o,q,F,h1⟩,⟨w',o',q',F',h2⟩,k1,k2,hb,hq⟩;obtain⟨as,ra⟩:=h1.reads I rx (lg k1);obtain⟨bs,rb⟩:=h2.reads I ry (lg k2);replace k1:=lh k1;replace k2:=lh k2;cases e with
 | lst ds=>
  cases hb;unfold cn at rb k2;exact SeqAt.in_list_reads rb ra (QP k2) (QP k1) (Z4 k1 hu) ⟨.bl _,H,I,rfl,hq⟩
 | tup ds=>
  cases hb;unfold cn at rb k2;exact SeqAt.in_tuple_reads rb ra (QP k2) (QP k1) (Z4 k1 hu) ⟨.bl _,H,I,rfl,hq⟩
 | _=>cases hb
theorem NN(hu:X.A.units+65<cLine):cN X (compareOp .NotIn) (yc X.K true):=by
 intro Z_ s σ H x y v u Q I rx ry ⟨d,e,b,⟨w,o,q,F,h1⟩,⟨w',o',q',F',h2⟩,k1,k2,hb,hq⟩;obtain⟨as,ra⟩:=h1.reads I rx (lg k1);obtain⟨bs,rb⟩:=h2.reads I ry (lg k2);replace k1:=lh k1;replace k2:=lh k2;cases e with
 | lst ds=>
  cases hb;unfold cn at rb k2;exact SeqAt.notIn_list_reads rb ra (QP k2) (QP k1) (Z4 k1 hu) ⟨.bl _,H,I,rfl,hq⟩
 | tup ds=>
  cases hb;unfold cn at rb k2;exact SeqAt.notIn_tuple_reads rb ra (QP k2) (QP k1) (Z4 k1 hu) ⟨.bl _,H,I,rfl,hq⟩
 | _=>cases hb
def eZ (x y:D):Option D:=if eY x=true/\eY y=true then some (.bl (oD x y))else none
def dE (x y:D):Option D:=if eY x=true/\eY y=true then some (.bl (!oD x y))else none
def pW (x y:D):Option D:=if eY x=true/\eY y=true then(inD x y).map λb=>.bl b else none
def oE (x y:D):Option D:=if eY x=true/\eY y=true then(inD x y).map λb=>.bl (!b)else none
theorem EA{K:PySem.W.Frag}:∀ σ H Q,tD K (e2 eZ fa fb) σ H Q->iS (Ew K) (tD K fa) (tD K fb) σ H Q:=oA λx y d h=>by
 unfold eZ at h;split at h;next hk=>
  cases h;exact⟨_,rfl,λH w o o' q q' u u' F F' r1 r2 _ Q hq=>⟨x,y,⟨_,_,_,_,r1⟩,⟨_,_,_,_,r2⟩,hk.1,hk.2,hq⟩⟩
 .cases h
theorem NO{K:PySem.W.Frag}:∀ σ H Q,tD K (e2 dE fa fb) σ H Q->iS (Ex K) (tD K fa) (tD K fb) σ H Q:=oA λx y d h=>by
 unfold dE at h;split at h;next hk=>
  cases h;exact⟨_,rfl,λH w o o' q q' u u' F F' r1 r2 _ Q hq=>⟨x,y,⟨_,_,_,_,r1⟩,⟨_,_,_,_,r2⟩,hk.1,hk.2,hq⟩⟩
 .cases h
theorem hIn{K:PySem.W.Frag}:∀ σ H Q,tD K (e2 pW fa fb) σ H Q->iS (yc K false) (tD K fa) (tD K fb) σ H Q:=oA λx y d h=>by
 unfold pW at h;split at h;next hk=>
  cases hi:inD x y with
  | none=>rw[hi]at h;cases h
  | some b=>
   rw[hi]at h;cases h;exact⟨_,rfl,λH w o o' q q' u u' F F' r1 r2 _ Q hq=>⟨x,y,b,⟨_,_,_,_,r1⟩,⟨_,_,_,_,r2⟩,hk.1,hk.2,hi,hq⟩⟩
 .cases h
theorem NP{K:PySem.W.Frag}:∀ σ H Q,tD K (e2 oE fa fb) σ H Q->iS (yc K true) (tD K fa) (tD K fb) σ H Q:=oA λx y d h=>by
 unfold oE at h;split at h;next hk=>
  cases hi:inD x y with
  | none=>rw[hi]at h;cases h
  | some b=>
   rw[hi]at h;cases h;exact⟨_,rfl,λH w o o' q q' u u' F F' r1 r2 _ Q hq=>⟨x,y,b,⟨_,_,_,_,r1⟩,⟨_,_,_,_,r2⟩,hk.1,hk.2,hi,hq⟩⟩
 .cases h
theorem yd{k:Nat}(hr:bc k X.A)(ha:QD X a fa)(hb:QD X b fb):QD X (.Compare a [.Eq] [b] pos) (e2 eZ fa fb):=⟨have ha:=ha.o;have hb:=hb.o;AL (Ey hr.units) EA ha hb (qJ _)⟩
theorem oF{k:Nat}(hr:bc k X.A)(ha:QD X a fa)(hb:QD X b fb):iI X (.Compare a [.Eq] [b] pos) (bM (e2 eZ fa fb)):=⟨have ha:=ha.o;have hb:=hb.o;rq (Ey hr.units) EA ha hb (qJ _)⟩
theorem ml{k:Nat}(hr:bc k X.A)(ha:QD X a fa)(hb:QD X b fb):iI X (.Compare a [.NotEq] [b] pos) (bM (e2 dE fa fb)):=⟨have ha:=ha.o;have hb:=hb.o;rq (NM hr.units) NO ha hb (qJ _)⟩
theorem vg{k:Nat}{A:Around}(r:bc k A):A.units+65<cLine:=by have:=r.un;omega
theorem NQ{k:Nat}(hr:bc k X.A)(ha:QD X a fa)(hb:QD X b fb)(hm:behindInMarks .In b=false:=by with_unfolding_all rfl):iI X (.Compare a [.In] [b] pos) (bM (e2 pW fa fb)):=⟨have ha:=ha.o;have hb:=hb.o;rq (Ez (vg hr)) hIn ha hb hm⟩
theorem NR{k:Nat}(hr:bc k X.A)(ha:QD X a fa)(hb:QD X b fb)(hm:behindInMarks .In b=false:=by with_unfolding_all rfl):QD X (.Compare a [.In] [b] pos) (e2 pW fa fb):=⟨have ha:=ha.o;have hb:=hb.o;AL (Ez (vg hr)) hIn ha hb hm⟩
theorem EB{k:Nat}(hr:bc k X.A)(ha:QD X a fa)(hb:QD X b fb)(hm:behindInMarks .NotIn b=false:=by with_unfolding_all rfl):iI X (.Compare a [.NotIn] [b] pos) (bM (e2 oE fa fb)):=⟨have ha:=ha.o;have hb:=hb.o;rq (NN (vg hr)) NP ha hb hm⟩
end
@[simp] def eB (h:List D->Option D)(g:bQ):aA:=λρ=>match g ρ with
 | some (ds,ac)=>match h ds with
  | some d=>some (d,9,ac)
  | none=>none
 | none=>none
section
variable {X:Cx}{a b c e:Expr}{es:List Expr}{fa fb fc f:aA}{g:bQ}{pos p p1 p2:Pos}
theorem ye{K:PySem.W.Frag}{h:List D->Option D}{r:List V->Hp->VK->Prop}(hh:∀ ds d,h ds=some d->∃ v,kG d=some v/\∀ H w vs,WL K w H->ag K H w .f 0 ds vs []->∀ Q:VK,Q v H->r vs H Q) :
  ∀ σ H Q,tD K (eB h g) σ H Q->xx r (AJ K g) σ H Q:=λσ H Q ak=>by
 obtain⟨ρ,w,t,r',q,aB,gd,ee,k⟩:=ak;unfold eB at ee;split at ee;next ds ac h1=>
  split at ee;next d hd=>
   cases ee;obtain⟨v,hv,hr⟩:=hh ds _ hd;exact⟨ρ,w,t,ds,_,gd,h1,λvs H1 w1 g1 aJ r1=>hr H1 w1 vs g1.wl r1 Q (k v H1 w1 [] g1.up aJ (xV hv))⟩
  .cases ee
 .cases ee
theorem one{K:PySem.W.Frag}{H:Hp}{w:Wn}{o:Ow}{d:D}(r:ag K H w o 0 [d] vs []):∃ v,vs=[v]/\Rep K H w o 0 d v []:=by
 have l:=r.length
 match vs,l with
 | [v],_=>
  obtain⟨v',h1,h2⟩:=r.get (i:=0) rfl;cases h1;exact⟨v,rfl,h2⟩
theorem two{K:PySem.W.Frag}{H:Hp}{w:Wn}{o:Ow}{d d':D}(r:ag K H w o 0 [d,d'] vs []):∃ v v',vs=[v,v']/\Rep K H w o 0 d v []/\Rep K H w o 0 d' v' []:=by
 have l:=r.length
 match vs,l with
 | [v,v'],_=>
  obtain⟨u,h1,h2⟩:=r.get (i:=0) rfl;obtain⟨u',h3,h4⟩:=r.get (i:=1) rfl;cases h1;cases h3;exact⟨v,v',rfl,h2,h4⟩
def e8:D->Option Nat
 | .lst ds=>some ds.length
 | .tup ds=>some ds.length
 | _=>none
@[simp] def Xk:List D->Option D
 | [d]=>(e8 d).map λn=>.int (Int.ofNat n)
 | _=>none
theorem Rep.len{K:PySem.W.Frag}{H:Hp}{w:Wn}{o:Ow}{q:Nat}{d:D}(r:Rep K H w o q d v F)(h:e8 d=some n):∃ p ys,v=.ref p/\(cM K H p ys\/dv K H p ys)/\ys.length=n:=by
 cases d with
 | lst ds=>
  cases h;obtain⟨p,vs,q',G,rfl,hq,rs⟩:=r.oB;exact⟨p,vs,rfl,.inl hq,rs.length.symm⟩
 | tup ds=>
  cases h;obtain⟨p,vs,rfl,hq,rs⟩:=r.fA;exact⟨p,vs,rfl,.inr hq,rs.length.symm⟩
 | _=>cases h
@[simp] def bX (i:Nat):aA:=λρ=>match ρ[i]? with
 | some (some (d,_))=>match e8 d with
  | some n=>some (.int (Int.ofNat n),9,ρ)
  | none=>none
 | _=>none
theorem dh{x:Str}(hm:X.mg "len" = none)(h:QE X (.Name x p1) (jV i))(hg:Gl X "len":=by rfl)(he:starEach [.Name x p1] X.env=(false,eval (.Name x p1) X.env)::starEach [] X.env:=by rfl)(cR:(backTo pos (starEach [] X.env)).any (·.1)=false:=by rfl):QD X (.Call (.Name "len" p) [.Name x p1] [] pos) (bX i):=⟨have h:=h.o;PE.imp (qN Mg hg hm PySem.boot_len (kE h n9 he) (by decide) (by decide) he cR) λσ H Q ak=>by
 obtain⟨ρ,w,t,r',q,aB,gd,ee,k⟩:=ak;unfold bX at ee;split at ee;next d q0 e0=>
  split at ee;next n hn=>
   cases ee;obtain⟨v,F,h1,h2⟩:=gd.slot i d q0 e0;obtain⟨p,ys,rfl,hs,hl⟩:=h2.len hn;exact⟨_,h1,p,ys,rfl,hs,by rw[hl];exact k _ H w [] gd.up Go.refl (.int _)⟩
  .cases ee
 .cases ee⟩
@[simp] def yf:List D->Option D
 | [.int i,.int j]=>some (.int (if j > i then j else i))
 | _=>none
theorem EC(hc:X.calm=true)(hm:X.mg "max" = none)(hb:bootBuiltins "max" = some (.builtin "max"))(ha:eO X (a::es) g)(hg:Gl X "max":=by rfl)(he:starEach (a::es) X.env=(false,eval a X.env)::starEach es X.env:=by rfl)(cR:(backTo pos (starEach es X.env)).any (·.1)=false:=by rfl):QD X (.Call (.Name "max" p) (a::es) [] pos) (eB yf g):=⟨have ha:=ha.o;PE.imp (qN (Lu hc) hg hm hb ha (by decide) (by decide) he cR) (ye λds d h=>by
  unfold yf at h;split at h;next i j=>
   cases h;refine⟨_,rfl,λH w vs wl r Q hq=>?_⟩;obtain⟨v,v',rfl,r1,r2⟩:=two r;exact⟨i,j,by rw[dZ r1,dZ r2],hq⟩
  .cases h)⟩
@[simp] def mm (g:bQ):aA:=λρ=>match g ρ with
 | some ([.lst ds],ac)=>some (.lst ds,1,ac)
 | some ([.tup ds],ac)=>some (.lst ds,1,ac)
 | _=>none
theorem yg(hm:X.mg "list" = none)(hb:bootBuiltins "list" = some (.type "list"))(ha:eO X [a] g)(hg:Gl X "list":=by rfl)(he:starEach [a] X.env=(false,eval a X.env)::starEach [] X.env:=by rfl)(cR:(backTo pos (starEach [] X.env)).any (·.1)=false:=by rfl):QD X (.Call (.Name "list" p) [a] [] pos) (mm g):=⟨have ha:=ha.o;PE.imp (td Mi hg hm hb ha (by decide) (by decide) he cR) λσ H Q ak=>by
 obtain⟨ρ,w,t,r',q,aB,gd,ee,k⟩:=ak;unfold mm at ee;split at ee;next ds ac h1=>
  cases ee;refine⟨ρ,w,t,_,_,gd,h1,λvs H1 w1 g1 aJ r1=>?_⟩;obtain⟨v,rfl,rv⟩:=one r1;obtain⟨p,ys,rfl,hs,rs⟩:=rv.d_;refine⟨p,ys,rfl,.inl hs,λl hl=>?_⟩;obtain⟨a1,a2,a3⟩:=pP g1 hl rs;exact k _ _ _ _ a1 (aJ.trans a2) a3
 next ds ac h1=>
  cases ee;refine⟨ρ,w,t,_,_,gd,h1,λvs H1 w1 g1 aJ r1=>?_⟩;obtain⟨v,rfl,rv⟩:=one r1;obtain⟨p,ys,rfl,hs,rs⟩:=rv.fA;refine⟨p,ys,rfl,.inr hs,λl hl=>?_⟩;obtain⟨a1,a2,a3⟩:=pP g1 hl rs;exact k _ _ _ _ a1 (aJ.trans a2) a3
 .cases ee⟩
@[simp] def fV (g:bQ):aA:=λρ=>match g ρ with
 | some ([.lst ds],ac)=>some (.tup ds,9,ac)
 | some ([.tup ds],ac)=>some (.tup ds,9,ac)
 | _=>none
theorem ka(hm:X.mg "tuple" = none)(hb:bootBuiltins "tuple" = some (.type "tuple"))(ha:eO X [a] g)(hg:Gl X "tuple":=by rfl)(he:starEach [a] X.env=(false,eval a X.env)::starEach [] X.env:=by rfl)(cR:(backTo pos (starEach [] X.env)).any (·.1)=false:=by rfl):QD X (.Call (.Name "tuple" p) [a] [] pos) (fV g):=⟨have ha:=ha.o;PE.imp (td Mj hg hm hb ha (by decide) (by decide) he cR) λσ H Q ak=>by
 obtain⟨ρ,w,t,r',q,aB,gd,ee,k⟩:=ak;unfold fV at ee;split at ee;next ds ac h1=>
  cases ee;refine⟨ρ,w,t,_,_,gd,h1,λvs H1 w1 g1 aJ r1=>?_⟩;obtain⟨v,rfl,rv⟩:=one r1;obtain⟨p,ys,rfl,hs,rs⟩:=rv.d_;refine⟨p,ys,rfl,.inl ⟨hs,λl hl=>?_⟩⟩;obtain⟨a1,a2,a3⟩:=rm g1 hl rs;exact k _ _ _ _ a1 (aJ.trans a2) a3
 next ds ac h1=>
  cases ee;refine⟨ρ,w,t,_,_,gd,h1,λvs H1 w1 g1 aJ r1=>?_⟩;obtain⟨v,rfl,rv⟩:=one r1;have rr:=rv;obtain⟨p,ys,rfl,hs,rs⟩:=rv.fA;refine⟨p,ys,rfl,.inr ⟨hs,?_⟩⟩;exact k _ H1 w1 [] g1.up aJ (((rr.dk rfl).2 9).any g1.wl)
 .cases ee⟩
def ED (ta:TA):TE:=λσ H Q=>ta σ H λvs H1=>∃ j:Int,vs=[.int j] /\ -(2 ^ 62)<=j/\j<2 ^ 62/\∀ p,H1 p=none->Q (.ref p) (upd H1 p (.kY 0 j))
theorem EE{ta:TA}(hg:Gl X "range")(hm:X.mg "range" = none)(ha:PA X [a] ta)(hs:starEach [a] X.env=[(false,eval a X.env)]:=by rfl):PE X (.Call (.Name "range" p) [a] [] pos) (ED ta):=by
 intro Z_ s σ H Q I h;refine Call_ (sZ I hg hm boot_range (ZA (a_ (ha pos Z_ s σ H _ I h) λus s1 ⟨vs,H1,I1,r1,q1⟩=>?_) hs rfl));obtain⟨j,e,q1,q2,q⟩:=q1;subst e;cases r1 with
 | cons r rr=>
  cases rr;obtain⟨t,rfl⟩:=r;refine call_range_1 ?_;exact⟨.ref s1.heap.objs.size,upd H1 s1.heap.objs.size (.kY 0 j),I1.laid (λb u e=>Qh _ e) (Qf _) ⟨_,_,_,Qy _ rfl⟩,rfl,q _ (I1.aK.fresh (Qf _))⟩
end
theorem EF{j:Int}(h1:-(2 ^ 62)<=j)(h2:j<2 ^ 62):Builtin.Range.small 0 j 1=true:=by
 have hs:Builtin.Range.rangeSize 0 j 1=((j.toNat:Nat):Int):=by simp[Builtin.Range.rangeSize]<;>split<;>omega
 simp only[Builtin.Range.small,hs,Builtin.Range.rangeFitsLong];simp;omega
theorem EG(j:Int):Builtin.Range.rangeSize 0 j 1=((j.toNat:Nat):Int):=by simp[Builtin.Range.rangeSize]<;>split<;>omega
theorem EH{acc:Array Value}(h:ItemsOf (λi v=>∃ t,v=Value.int (0+(i:Nat)*1) t) acc n):bf (pU n) acc.toList:=by
 have key:∀ (us:List Value) (k:Nat),(∀ j v,us[j]? = some v->∃ t,v=Value.int (((k+j:Nat)):Int) t)->bf ((List.range' k us.length).map λi=>V.int (Int.ofNat i)) us:=by
  intro us;induction us with
  | nil=>intro k _;exact .nil
  | cons u r ih=>
   intro k hk;obtain⟨t,e⟩:=hk 0 u rfl;refine .cons ⟨t,by rw[e];rfl⟩ (ih (k+1) λj v hv=>?_);obtain⟨t',e'⟩:=hk (j+1) v (by simpa using hv);exact⟨t',by rw[e'];congr 2;omega⟩
 have:=key acc.toList 0 λj v hv=>by obtain⟨t,e⟩:=h.2 j v (by simpa using hv);exact⟨t,by rw[e];congr 1;omega⟩
 have hl:acc.toList.length=n:=by simpa using h.1
 rw[hl]at this;unfold pU;rw[List.range_eq_range'];exact this
section
variable {prog:Program}{w:World}{A:Around}{E:Y0}{s:Shared}
open AutoSeq1 (wpAny_loadPart')
theorem NS{Q:List Value->Shared->Prop}{r:Addr}{a b c:Int}{t v:Tok}(hh:A.handled=none)(hr:IsRange s.heap r a b c t u v)(f_:Builtin.Range.small a b c=true)(hn:Builtin.Range.rangeSize a b c=n)(hlen:n<=2 ^ 24)
  (hQ:∀ h' tk bp,(∀ b o',s.heap.get? b=some o'->h'.get? b=some o')->ItemsOf (λi v=>∃ t,v=.int (a+i*c) t) bp n->Q bp.toList { s with heap:=h',toks:=tk }) :
  wpAny (model prog w) A (collect (.ref r)) Q E s:=by
 unfold collect;refine Qb (wpAny_runValue (JD F.entry_proto_collect ?_));rw[Around.under_plainId F.plain_proto_collect _];show wpAny _ A.in1 (newList [] >>= λl=>again (.builtin "list.__iadd__" ⟨[l,.ref r],[]⟩)) _ _ s;refine Qb (Q9 ?_);refine Ql ⟨plainId_quiet F.plain_list_iadd _,JD F.entry_list_iadd ?_⟩;rw[Around.under_plainId F.plain_list_iadd _];show wpAny _ A.in1 (Builtin.List.listExtendWith (.ref s.heap.objs.size) (.ref r) (.ref s.heap.objs.size)) _ _ _;have hS:(s.heap.push { cls:=.type "list",data:=.seq ([]:List Value).toArray }).get? s.heap.objs.size=some { cls:=.type "list",data:=.seq #[] 0 }:=Qy _ rfl;have vh:∀ (h':Heap) (tk:Nat) (bp:Array Value) (c':Nat),(∀ b o,b≠s.heap.objs.size->(s.heap.push { cls:=.type "list",data:=.seq ([]:List Value).toArray }).get? b=some o->h'.get? b=some o)->
   h'.get? s.heap.objs.size=some { cls:=.type "list",dict:=none,data:=.seq bp c',slots:=#[] }->ItemsOf (λi v=>∃ t,v=.int (a+i*c) t) bp n->wpAny (model prog w) A (match Value.ref s.heap.objs.size with
   | Value.ref a=>do
    match (<- load a).data with
     | Data.seq xs _=>pure xs.toList
     | _=>unsupported "internal:collect"
   | _=>unsupported "internal:collect") Q E { s with heap:=h',toks:=tk }:=λh' tk bp c' hk oG d4=>by show wpAny _ A (load s.heap.objs.size >>= _) _ _ _;refine Qb (wpAny_load oG ?_);refine Ql (hQ h' tk bp (λb o' hb=>?_) d4);exact hk b o' (QS (Qn hb)) (Qh _ hb)
 refine Q2 (wpAny_extend_range (A:=A) (R:=λrs s'=>rs=.ok (.ret (.ref s.heap.objs.size))/\∃ h' tk bp c',s'={ s with heap:=h',toks:=tk }/\(∀ b o,b≠s.heap.objs.size->(s.heap.push { cls:=.type "list",data:=.seq ([]:List Value).toArray }).get? b=some o->h'.get? b=some o) /\
   h'.get? s.heap.objs.size=some { cls:=.type "list",dict:=none,data:=.seq bp c',slots:=#[] }/\ItemsOf (λi v=>∃ t,v=.int (a+i*c) t) bp n)
  (s:={ s with heap:=s.heap.push { cls:=.type "list",data:=.seq ([]:List Value).toArray } }) hh (Qh _ hr) f_ hn hlen s.heap.objs.size (.ref s.heap.objs.size) 0 hS (λh' tk bp c' hk oG d4=>⟨rfl,h',tk,bp,c',rfl,hk,oG,d4⟩)) (λfin s' h=>?_) (λe s' h=>?_)
 .cases fin with
  | done f=>
   obtain⟨e,h',tk,bp,c',rfl,hk,oG,d4⟩:=h;cases e;exact vh h' tk bp c' hk oG d4
  | again c'=>exact⟨h.1,JK h.2 λr pI hr=>by obtain⟨rfl,h',tk,bp,c',rfl,hk,oG,d4⟩:=hr;exact vh h' tk bp c' hk oG d4⟩
 .exact absurd h.1 (by simp)
end
theorem NT(r:Addr)(a b c:Int)(t u v:Tok)(n:Nat)(f_:Builtin.Range.small a b c=true)(hn:Builtin.Range.rangeSize a b c=n)(hlen:n<=2 ^ 24) :
  Meets (Builtin.«tuple.__new__» ⟨[.type "tuple",.ref r],[]⟩)
   (λA R s=>A.handled=none/\IsRange s.heap r a b c t u v/\∀ (h':Heap) tk bp,(∀ b o',s.heap.get? b=some o'->h'.get? b=some o')->ItemsOf (λi v=>∃ t,v=.int (a+i*c) t) bp n->R (.ok (.ret (.ref h'.objs.size))) { s with heap:=h'.push { cls:=.type "tuple",data:=.seq bp },toks:=tk }):=
 .of_wp λprog w A R s h=>by
  obtain⟨hp,g,d,tk,os⟩:=s;obtain⟨hh,hr,h⟩:=h;have dY:=sub_tuple_self;have EI:=init_tuple_lookup;have Xl:=madeHere_tuple;have hT:Shared.TypeIs ⟨hp,g,d,tk,os⟩ (.ref r) "range":=⟨_,hr,rfl⟩;have rJ:A.in1.handled=none:=hh;wp_walk using AutoSeq1.wpAny_loadPart' hr,Yo hT,NS rJ hr f_ hn hlen
  intro h' NU bp hk d4;show wpAny _ _ (Builtin.Tuple.tupleExact bp.toList.toArray >>= λv=>ret v) _ _ _;unfold Builtin.Tuple.tupleExact;have hsz:bp.size<=sizeLine:=by rw[d4.1];exact hlen
  refine Qb (Q9 ?_ (by show bp.toList.toArray.size<=sizeLine;simpa using hsz));refine Ql ⟨_,rfl,?_⟩;have e:bp.toList.toArray=bp:=by simp
  rw[e];exact h h' NU bp hk d4
theorem NV{prog:Program}{w:World}{A:Around}{E:Y0}{s:Shared}{r:Addr}{a b c:Int}{t v:Tok}{Q:Y0}(hh:A.handled=none)(hr:IsRange s.heap r a b c t u v)(f_:Builtin.Range.small a b c=true)(hn:Builtin.Range.rangeSize a b c=n)(hlen:n<=2 ^ 24)
  (h:∀ (h':Heap) tk bp,(∀ b o',s.heap.get? b=some o'->h'.get? b=some o')->ItemsOf (λi v=>∃ t,v=.int (a+i*c) t) bp n->Q (.ref h'.objs.size) { s with heap:=h'.push { cls:=.type "tuple",data:=.seq bp },toks:=tk }) :
  wpAny (model prog w) A (call (.type "tuple") [.ref r]) Q E s:=
 callType_new F.called_tuple (by decide) (F.typeCall_tuple_1 _) (F.newCall_tuple_1 _) (λobj=>F.args_object_init_2 obj _) F.entry_tuple_new
  (NT r a b c t u v n f_ hn hlen) ⟨hh,hr,λh' tk bp hk d4=>⟨⟨_,Qy _ rfl,rfl⟩,h h' tk bp hk d4⟩⟩
section
variable {X:Cx}
def AV (mk:List V->HO):List V->Hp->VK->Prop:=λxs H Q=>∃ a j,xs=[.ref a]/\H a=some (.kY 0 j) /\ -1000<=j/\j<=1000/\∀ p,H p=none->Q (.ref p) (upd H p (mk (pU j.toNat)))
theorem NW(hc:X.calm=true):jy X (.type "list") (AV .lst):=by intro Z_ s σ H xs us Q I r h;obtain⟨a,j,rfl,hr,j1,j2,q⟩:=h;obtain⟨u,rfl,rx⟩:=lN r;cases rx;obtain⟨t,u,v,ho⟩:=(show d7 X.prog X.w H s.heap a (.kY 0 j)from I.aK a _ hr);refine call_list_range (I.ok.hd hc) ho (EF (by omega) (by omega)) (EG j) (by omega) λh' tk bp c' hk oG d4=>?_;refine⟨.ref s.heap.objs.size,_,I.laid (t':=tk) (o:=.lst (pU j.toNat)) hk (Qf _) ⟨by rw[Em];exact Qq (by omega:j.toNat<=1000) (by decide),bp.toList,c',EH d4,by simpa using oG⟩,rfl,q _ (I.aK.fresh (Qf _))⟩
theorem NX(hc:X.calm=true):jy X (.type "tuple") (AV .tup):=by
 intro Z_ s σ H xs us Q I r h;obtain⟨a,j,rfl,hr,j1,j2,q⟩:=h;obtain⟨u,rfl,rx⟩:=lN r;cases rx;obtain⟨t,u,v,ho⟩:=(show d7 X.prog X.w H s.heap a (.kY 0 j)from I.aK a _ hr);refine NV (I.ok.hd hc) ho (EF (by omega) (by omega)) (EG j) (by omega) λh' tk bp hk d4=>?_;have I1:Inv X Z_ σ H { s with heap:=h',toks:=tk }:=I.kept hk;have I2:Inv X Z_ σ (upd H h'.objs.size (.tup (pU j.toNat))) { s with heap:=h'.push { cls:=.type "tuple",data:=.seq bp },toks:=tk }:=
  I1.laid (t':=tk) (λb o e=>Qh _ e) (Qf _) (show d7 X.prog X.w _ _ _ (.tup _)from⟨by rw[Em];exact Qq (by omega:j.toNat<=1000) (by decide),bp.toList,EH d4,by simpa using jS.new h' bp⟩)
 exact⟨.ref h'.objs.size,_,I2,rfl,q _ (I1.aK.fresh (Qf _))⟩
variable {a:Expr}{g:bQ}{pos p p1 kL:Pos}
@[simp] def pX (g:bQ):aA:=λρ=>match bW g ρ with
 | some (ds,ac)=>some (.lst ds,1,ac)
 | none=>none
@[simp] def EJ (g:bQ):aA:=λρ=>match bW g ρ with
 | some (ds,ac)=>some (.tup ds,9,ac)
 | none=>none
theorem EK{K:PySem.W.Frag}{mk:List V->HO}{q0:Nat}{md:List D->D}(al:∀ {ρ:aV} {σ:St} {H1:Hp} {w1:Wn} {t:Nat} {p:Addr} {vs:List V} {ds:List D},Good K ρ σ H1 w1 t->H1 p=none->ag K H1 w1 .f 0 ds vs []->∃ w' F,Good K ρ σ (upd H1 p (mk vs)) w' (t+1)/\Go H1 w1 (upd H1 p (mk vs)) w'/\Rep K (upd H1 p (mk vs)) w' (.t t) q0 (md ds) (.ref p) F) :
  ∀ σ H Q,tD K (λρ=>match bW g ρ with
   | some (ds,ac)=>some (md ds,q0,ac)
   | none=>none) σ H Q->xx (AV mk) (DI (ED (AJ K g)) DH) σ H Q:=λσ H Q ak=>by
 obtain⟨ρ,w,t,r',q,aB,gd,ee,k⟩:=ak;dsimp only at ee;split at ee;next ds ac h1=>
  cases ee;unfold bW at h1;split at h1;next n ad h2=>
   split at h1;next hn=>
    cases h1;refine⟨ρ,w,t,_,_,gd,h2,λvs H1 w1 g1 aJ r1=>?_⟩;obtain⟨v,rfl,rv⟩:=one r1;have hv:=dZ rv;subst hv;refine⟨n,rfl,by omega,by omega,λp hp=>⟨p,n,rfl,jj,hn.1,hn.2,λl hl=>?_⟩⟩;have ne:∀ a x,H1 a=some x->a≠p:=λa x e=>kZ e hp;have st:d9 H1 w1 (upd H1 p (.kY 0 n)) w1:=λa x e nn=>⟨sm (by rw[bR (ne a x e)];exact e),nn⟩;have nw:∀ a o,w1 a=some o->a≠p:=λa o e=>by obtain⟨vs,q⟩:=g1.wl a o e;exact ne a _ q
    have g2:Good K aB σ (upd H1 p (.kY 0 n)) w1 t:=⟨⟨λa o e=>by
     obtain⟨us,q⟩:=g1.wl a o e;exact⟨us,by rw[bR (nw a o e)];exact q⟩,g1.wl.tb.upd rfl (.inl hp)⟩,g1.ws,g1.wt,g1.len,λi d q e=>by obtain⟨v,F,h1,h2⟩:=g1.slot i d q e;exact⟨v,F,h1,Rep.go g1.wl st h2 λa m=>⟨bR (nw a _ (h2.aR a m)),h2.aR a m⟩⟩⟩
    have bb:Go H1 w1 (upd H1 p (.kY 0 n)) w1:=⟨st,λa o e _=>⟨bR (nw a o e),e⟩⟩;obtain⟨w',F,a1,a2,a3⟩:=al g2 hl (Nq n.toNat);exact k _ _ _ _ a1 ((aJ.trans bb).trans a2) a3
   .cases h1
  .cases h1
 .cases ee
theorem AW(hc:X.calm=true)(hm:X.mg "list" = none)(hb:bootBuiltins "list" = some (.type "list"))(AX:X.mg "range" = none)(ha:eO X [a] g)(hg:Gl X "list":=by rfl)(AY:Gl X "range":=by rfl)(hs:starEach [a] X.env=[(false,eval a X.env)]:=by rfl)(he:starEach [.Call (.Name "range" p1) [a] [] kL] X.env=(false,eval (.Call (.Name "range" p1) [a] [] kL) X.env)::starEach [] X.env:=by rfl)(cR:(backTo pos (starEach [] X.env)).any (·.1)=false:=by rfl):QD X (.Call (.Name "list" p) [.Call (.Name "range" p1) [a] [] kL] [] pos) (pX g):=⟨have ha:=ha.o;PE.imp (td (NW hc) hg hm hb (kE (EE AY AX ha hs) n9 he) (by decide) (by decide) he cR) (EK λg hp r=>by obtain⟨a1,a2,a3⟩:=pP g hp r;exact⟨_,_,a1,a2,a3⟩)⟩
theorem NY(hc:X.calm=true)(hm:X.mg "tuple" = none)(hb:bootBuiltins "tuple" = some (.type "tuple"))(AX:X.mg "range" = none)(ha:eO X [a] g)(hg:Gl X "tuple":=by rfl)(AY:Gl X "range":=by rfl)(hs:starEach [a] X.env=[(false,eval a X.env)]:=by rfl)(he:starEach [.Call (.Name "range" p1) [a] [] kL] X.env=(false,eval (.Call (.Name "range" p1) [a] [] kL) X.env)::starEach [] X.env:=by rfl)(cR:(backTo pos (starEach [] X.env)).any (·.1)=false:=by rfl):QD X (.Call (.Name "tuple" p) [.Call (.Name "range" p1) [a] [] kL] [] pos) (EJ g):=⟨have ha:=ha.o;PE.imp (td (NX hc) hg hm hb (kE (EE AY AX ha hs) n9 he) (by decide) (by decide) he cR) (EK λg hp r=>by obtain⟨a1,a2,a3⟩:=rm g hp r;exact⟨_,_,a1,a2,a3⟩)⟩
end
variable {F:List Addr}{K:PySem.W.Frag}{N:List Str}{P:Program}{Q:Y0}{Sq:Hp->List V->Prop}{base:Heap}{body:aH}{d:D}{ds:List D}{g1 g2:Int->Int->Option D}{h1 h2:Int->Int->V}{i q t:Nat}{it j:Addr}{mg:Str->Option Value}{o:Ow}{op ky:CmpOp}{st:Stmt}{u:Value}{vs:List V}{x:Str}{ρ:aV}
def vi (d:D)(ds:List D):Option Nat:=(d3 ds).findIdx? λy=>PyData.eqv y (cn d)
section
variable {X:Cx}{a b c e:Expr}{es:List Expr}{fa fb fc f:aA}{g:bQ}{pos p p1 p2 az apos:Pos}
@[simp] def Xm (fo:aA)(g:bQ):aA:=λρ=>match fo ρ with
 | some (.tup ds,_,ac)=>match g ac with
  | some ([d],ad)=>if eY (.tup ds)=true/\eY d=true then match vi d ds with
   | some j=>some (.int (Int.ofNat j),9,ad)
   | none=>none
   else none
  | _=>none
 | _=>none
theorem Good.mut{σ:St}{H:Hp}{w:Wn}(g:Good K ρ σ H w t)(e:ρ[i]? = some (some (.lst ds,1))) :
  ∃ l vs,σ[i]? = some (some (.ref l))/\H l=some (.lst vs)/\ag K H w .f 0 ds vs []/\∀ l7 l8,ag K H w .f 0 l7 l8 []->
   Good K (ρ.set i (some (.lst l7,1))) σ (upd H l (.lst l8)) w t/\Go H w (upd H l (.lst l8)) w:=by
 obtain⟨v,F,h1,h2⟩:=g.slot i _ _ e;obtain⟨l,vs,rfl,F',rfl,hl,hw,rs,ne⟩:=h2.inv
 .have hF:=rs.zero;subst hF;refine⟨l,vs,h1,hl,rs.any g.wl,λl7 l8 r'=>?_⟩;have nl:∀ a o,w a=some o->o ≠ .s i->a≠l:=λa o e n z=>by subst z;rw[hw]at e;exact n (QM e).symm
  have nn:∀ a,w a=none->a≠l:=λa e z=>by subst z;rw[hw]at e;cases e
  have st:d9 H w (upd H l (.lst l8)) w:=λa x h n=>⟨sm (by rw[bR (nn a n)];exact h),n⟩;refine⟨⟨⟨λa o h=>?_,g.wl.tb.upd rfl (.inr (g.wl l _ hw))⟩,g.ws,g.wt,by rw[QC];exact g.len,λj d' q' e'=>?_⟩,⟨st,λa o h n=>⟨bR (nl a o h (n i)),h⟩⟩⟩
  .by_cases z:a=l
   .subst z;exact⟨.l _,jj⟩
   .obtain⟨us,q⟩:=g.wl a o h;exact⟨us,by rw[bR z];exact q⟩
  .by_cases hj:i=j
   .subst hj;rw[QB (Qs.mp e).1]at e';cases e';exact⟨_,_,h1,.own jj hw (ag.go g.wl st r' nM) (λz=>nomatch z)⟩
   .rw[QF hj]at e';obtain⟨v',F',AZ,oH⟩:=g.slot j d' q' e';exact⟨v',F',AZ,Rep.go g.wl st oH λa m=>⟨bR (nl a _ (oH.aR a m) (λz=>hj (by cases z;rfl))),oH.aR a m⟩⟩
@[simp] def rL:Option (OD)->Bool
 | some (some (.lst _,_))=>true
 | _=>false
theorem Good.cI{σ:St}{H:Hp}{w:Wn}(g:Good K ρ σ H w t)(h:rL ρ[i]? = true):∃ l,σ[i]? = some (some (.ref l))/\∃ vs,cM K H l vs:=by
 unfold rL at h;split at h;next ds q e=>
  obtain⟨v,F,h1,h2⟩:=g.slot i _ _ e;obtain⟨p,vs,_,_,rfl,hq,_⟩:=h2.oB;exact⟨p,h1,vs,hq⟩
 .cases h
@[simp] def kb (i:Nat)(g:bQ):aA:=λρ=>if rL ρ[i]? = true then match g ρ with
 | some ([d],ac)=>match ac[i]? with
  | some (some (.lst ds,1))=>if ds.length<=1000 then some (.aO,9,ac.set i (some (.lst (ds++[d]),1)))else none
  | _=>none
 | _=>none
 else none
theorem nz(h:QE X (.Name x p1) (jV i))(ha:eO X [e] g)(bS:attributeBase (.Name x p1) "append" X.env (eval (.Name x p1) X.env)=eval (.Name x p1) X.env:=by rfl)(di:((backTo az (starEach [e] X.env)).all (λx=>!x.1)&&(backToKw az (keywordEach [] X.env)).all (λx=>x.1.isSome)
   && decide ([e].length+([]:List Keyword).length+(if([]:List Keyword).isEmpty then 0 else 1)<30))=true:=by rfl) (bT:(apos.endLine==az.line)=true:=by rfl) (hs:starEach [e] X.env=(false,eval e X.env)::starEach [] X.env:=by rfl) (bg:(backTo az (starEach [] X.env)).any (·.1)=false:=by rfl):QD X (.Call (.Attribute (.Name x p1) "append" apos) [e] [] az) (kb i g):=⟨have h:=h.o;have ha:=ha.o;PE.imp (om Zw PySem.F.slot_list_append PySem.F.type_list_append Mn h ha bS di bT hs bg) λσ H Q ak=>by
 obtain⟨ρ,w,t,r',q,aB,gd,ee,k⟩:=ak;unfold kb at ee;split at ee;next hl=>
  obtain⟨l,iJ,us,hq⟩:=gd.cI hl;split at ee;next d ac h1=>
   split at ee;next ds e1=>
    split at ee;next hlen=>
     cases ee;refine⟨_,iJ,.inl ⟨rfl,us,hq⟩,ρ,w,t,_,_,gd,h1,λvs H1 w1 g1 aJ r1=>?_⟩;obtain⟨v,rfl,rv⟩:=one r1;obtain⟨l',ws,e_,hH,rs,mk⟩:=g1.mut e1;rw[iJ]at e_;cases e_;have r2:ag X.K H1 w1 .f 0 (ds++[d]) (ws++[v]) []:=ag.snoc (F:=[]) (G:=[]) rv rs nM;obtain⟨m1,m2⟩:=mk _ _ r2;refine⟨l,ws,v,rfl,rfl,hH,by rw[<- rs.length];exact qW hlen,?_⟩;exact k .aO _ w1 [] m1.up (aJ.trans m2) .aO
    .cases ee
   .cases ee
  .cases ee
 .cases ee⟩
theorem ag.eraseIdx{H:Hp}{w:Wn}:∀ {ds:List D} {vs:List V} (i:Nat),ag K H w .f 0 ds vs []->ag K H w .f 0 (ds.eraseIdx i) (vs.eraseIdx i) []
 | ds,vs,i,r=>by
  generalize hF:([]:List Addr)=F at r;cases r with
  | nil=>exact .nil
  | @cons _ d v ds vs F G r s _=>
   have h1:F=[]:=r.zero;have h2:G=[]:=s.zero;subst h1 h2;cases i with
   | zero=>exact s
   | succ j=>exact .cons (F:=[]) (G:=[]) r (ag.eraseIdx j s) nM
@[simp] def vj (i:Nat)(g:bQ):aA:=λρ=>if rL ρ[i]? = true then match g ρ with
 | some ([.int n],ac)=>match ac[i]? with
  | some (some (.lst ds,1))=>if -1000<=n/\n<=1000 then match seqIndex? n ds.length with
   | some j=>match ds[j]? with
    | some d=>some (d,bq d,ac.set i (some (.lst (ds.eraseIdx j),1)))
    | none=>none
   | none=>none
   else none
  | _=>none
 | _=>none
 else none
theorem NZ(h:QE X (.Name x p1) (jV i))(ha:eO X [e] g)(bS:attributeBase (.Name x p1) "pop" X.env (eval (.Name x p1) X.env)=eval (.Name x p1) X.env:=by rfl)(di:((backTo az (starEach [e] X.env)).all (λx=>!x.1)&&(backToKw az (keywordEach [] X.env)).all (λx=>x.1.isSome)
   && decide ([e].length+([]:List Keyword).length+(if([]:List Keyword).isEmpty then 0 else 1)<30))=true:=by rfl) (bT:(apos.endLine==az.line)=true:=by rfl) (hs:starEach [e] X.env=(false,eval e X.env)::starEach [] X.env:=by rfl) (bg:(backTo az (starEach [] X.env)).any (·.1)=false:=by rfl):QD X (.Call (.Attribute (.Name x p1) "pop" apos) [e] [] az) (vj i g):=⟨have h:=h.o;have ha:=ha.o;PE.imp (om Zw PySem.F.slot_list_pop PySem.F.type_list_pop Ms h ha bS di bT hs bg) λσ H Q ak=>by
 obtain⟨ρ,w,t,r',q,aB,gd,ee,k⟩:=ak;unfold vj at ee;split at ee;next hl=>
  obtain⟨l,iJ,us,hq⟩:=gd.cI hl;split at ee;next n ac h1=>
   split at ee;next ds e1=>
    split at ee;next hn=>
     split at ee;next j hj=>
      split at ee;next d hd=>
       cases ee;refine⟨_,iJ,.inl ⟨rfl,us,hq⟩,ρ,w,t,_,_,gd,h1,λvs H1 w1 g1 aJ r1=>?_⟩;obtain⟨v,rfl,rv⟩:=one r1;have hv:=dZ rv;subst hv;obtain⟨l',ws,e_,hH,rs,mk⟩:=g1.mut e1;rw[iJ]at e_;cases e_;obtain⟨y,hy,ry⟩:=rs.get hd;obtain⟨m1,m2⟩:=mk _ _ (rs.eraseIdx j);refine⟨l,ws,n,j,y,rfl,rfl,hH,by omega,by omega,by rw[<- rs.length];exact hj,hy,?_⟩;have N0:Rep X.K _ w1 (.t t) 0 r' y []:=Rep.go g1.wl m2.bw ry nM;exact k y _ w1 [] m1.up (aJ.trans m2) N0.lZ
      .cases ee
     .cases ee
    .cases ee
   .cases ee
  .cases ee
 .cases ee⟩
end
theorem ag.vk{H:Hp}{w:Wn}:∀ {ds:List D} {vs:List V} {F:List Addr} {i:Nat} {d:D},ag K H w o q ds vs F->ds[i]? = some d->∃ v G,vs[i]? = some v/\Rep K H w o q d v G/\∀ a∈G,a∈F
 | _,_,_,_,_,.nil,e=>by simp at e
 | _,_,_,0,_,.cons r _ _,e=>by simp at e;subst e;exact⟨_,_,rfl,r,λa m=>QW _ m⟩
 | _,_,_,i+1,d,.cons _ s _,e=>by obtain⟨v,G,h1,h2,h3⟩:=ag.vk (i:=i) (d:=d) s (by simpa using e);exact⟨v,G,by simpa using h1,h2,λa m=>Qg _ (h3 a m)⟩
theorem ag.EL{H:Hp}{w:Wn}{i:Int}(r:ag K H w o q ds vs F)(h:L2.dC ds i=some d):∃ v G,L2.dC vs i=some v/\Rep K H w o q d v G/\∀ a∈G,a∈F:=by
 unfold L2.dC at h ⊢;rw[<- r.length];cases e:iU ds.length i with
 | none=>rw[e]at h;cases h
 | some j=>
  rw[e]at h;exact r.vk h
@[simp] def aW (n:Nat)(fb:aA):aA:=λρ=>match ρ[n]? with
 | some (some _)=>match fb ρ with
  | some (.int i,_,ad)=>match ad[n]? with
   | some (some (x,q))=>match eX x i with
    | some d=>if d.cI=true/\1<q/\x.cI=true then none else some (d,bq d,ad)
    | none=>none
   | _=>none
  | _=>none
 | _=>none
section
variable {X:Cx}{a b c e:Expr}{es:List Expr}{fa fb fc f:aA}{g:bQ}{pos p p1 p2 az apos:Pos}
theorem cO{n:Nat}(h:QE X (.Name x p1) (jV n))(hb:QD X b fb)(hs:tj b:=by exact λ_ _=>rfl):QD X (.Subscript (.Name x p1) b pos) (aW n fb):=⟨have h:=h.o;have hb:=hb.o;PE.imp (uT uV h hb hs) λσ H Q ak=>by
 obtain⟨ρ,w,t,r',q,aB,gd,ee,k⟩:=ak;unfold aW at ee;split at ee;next z0 e0=>
  obtain⟨d0,q0⟩:=z0;obtain⟨v,F,iJ,_⟩:=gd.slot n d0 q0 e0;split at ee;next i q2 ad h2=>
   split at ee;next x q e2=>
    split at ee;next d hd=>
     split at ee
     .cases ee
     next hn=>
      cases ee;refine⟨v,iJ,ρ,w,t,_,_,_,gd,h2,λy H2 w2 F2 g2 go r2=>?_⟩;have hy:=dZ r2;subst hy;have gg:=g2.drop (t':=t);obtain⟨v',F',e_,rr⟩:=gg.slot n x q e2;rw[iJ]at e_;cases e_;have fin:∀ u,Rep X.K H2 (cm t w2) (.t t) 0 r' u []->Q u H2:=λu ru=>k u H2 (cm t w2) [] gg.up (go.drop gd.wt) ru.lZ;cases x with
      | lst ds=>
       by_cases N1:q=0
       .subst N1;obtain⟨p0,vs,rfl,hq,rs⟩:=rr.d_;obtain⟨u,hu,ru⟩:=rs.dC hd;exact .inl ⟨p0,vs,i,u,rfl,rfl,hq,hu,fin u (ru.any gg.wl)⟩
       .by_cases N2:q=1
        .subst N2;obtain⟨_,_,rfl,_,rfl,h0,_,rs,_⟩:=rr.inv
         .have z0:=rs.zero;subst z0;obtain⟨u,hu,ru⟩:=rs.dC hd;exact .inl ⟨_,_,i,u,rfl,rfl,cM.of h0,hu,fin u (ru.any gg.wl)⟩
        .obtain⟨p0,vs,q',G,rfl,hq,rs⟩:=rr.oB;obtain⟨u,G',hu,ru,_⟩:=rs.EL hd;refine .inl ⟨p0,vs,i,u,rfl,rfl,hq,hu,fin u ?_⟩;cases hL:r'.cI with
         | false=>exact((ru.dk hL).2 0).any gg.wl
         | true=>exact absurd ⟨hL,by omega,rfl⟩ hn
      | tup ds=>
       obtain⟨p0,vs,rfl,hq,rs⟩:=rr.fA;obtain⟨u,hu,ru⟩:=rs.dC hd;exact .inr (.inl ⟨p0,vs,i,u,rfl,rfl,hq,hu,fin u (ru.any gg.wl)⟩)
      | _=>cases hd
    .cases ee
   .cases ee
  .cases ee
 .cases ee⟩
@[simp] def vm (fa fb:aA):aA:=λρ=>match fa ρ with
 | some (.lst ds,1,ac)=>match fb ac with
  | some (.int n,_,ad)=>if -1000<=n/\n<=1000/\ds.length*n.toNat<=1000 then some (.lst (replicate n.toNat ds).flatten,1,ad)else none
  | _=>none
 | _=>none
theorem ag.app{H:Hp}{w:Wn}{es:List D}{us:List V}(s:ag K H w .f 0 es us []):∀ {ds:List D} {vs:List V},ag K H w .f 0 ds vs []->ag K H w .f 0 (ds++es) (vs++us) []
 | ds,vs,r=>by
  generalize hF:([]:List Addr)=F at r;cases r with
  | nil=>rw[<- hF];exact s
  | @cons _ d v ds vs F G r t _=>
   have h1:F=[]:=r.zero;have h2:G=[]:=t.zero;subst h1 h2;exact .cons (F:=[]) (G:=[]) r (ag.app s t) nM
theorem ag.times{H:Hp}{w:Wn}(r:ag K H w .f 0 ds vs []):∀ n:Nat,ag K H w .f 0 (replicate n ds).flatten (replicate n vs).flatten []
 | 0=>.nil
 | n+1=>by rw[Zo,Zo,QR,QR];exact ag.app (ag.times r n) r
theorem N3(ha:QD X a fa)(hb:QD X b fb):QD X (.BinOp a .Mult b pos) (vm fa fb):=⟨have ha:=ha.o;have hb:=hb.o;PE.imp (nk Mu ha hb) λσ H Q ak=>by
 obtain⟨ρ,w,t,r',q,aB,gd,ee,k⟩:=ak;unfold vm at ee;split at ee;next ds ac h1=>
  split at ee;next n q2 ad h2=>
   split at ee;next hn=>
    cases ee;refine pO gd h1 h2 λu u' H2 w2 F1 F2 g2 go r1 r2=>?_;have AI:=dZ r2;subst AI;obtain⟨l,vs,rfl,F,rfl,hl,hw,rs,ne⟩:=r1.inv
    .have hF:=rs.zero;subst hF;have gg:=g2.drop (t':=t);have N4:ag X.K H2 (cm t w2) .f 0 ds vs []:=ag.go g2.wl (λa x h n=>⟨sm h,xU n⟩) rs nM;refine⟨l,n,vs,rfl,rfl,hl,by omega,by omega,?_,λp hp=>?_⟩
     .rw[<- rs.length];exact pR hn.2.2
     .obtain⟨a1,a2,a3⟩:=pP gg hp (N4.times n.toNat);exact k _ _ _ _ a1 ((go.drop gd.wt).trans a2) a3
   .cases ee
  .cases ee
 .cases ee⟩
end
theorem ag.row{H:Hp}{w:Wn}(wl:WL K w H):∀ {rows:List D} {vs:List V} {F:List Addr} {i:Nat} {row:List D},ag K H w o 1 rows vs F->rows[i]? = some (.lst row)->
  ∃ b ws,vs[i]? = some (.ref b)/\H b=some (.lst ws)/\w b=some o/\b∈F/\ag K H w .f 0 row ws [] /\
   ∀ gQ iL,ag K H w .f 0 gQ iL []->ag K (upd H b (.lst iL)) w o 1 (rows.set i (.lst gQ)) vs F
 | _,_,_,_,_,.nil,e=>by simp at e
 | _,_,_,0,row,.cons r s ne,e=>by
  simp at e;subst e;cases r with
  | @own _ b ws _ F' hb hw rs nb=>
   have hF:=rs.zero;subst hF;refine⟨b,ws,rfl,hb,hw,by simp,rs.any wl,λgQ iL r'=>?_⟩;have nn:∀ a,w a=none->a≠b:=λa e z=>by subst z;rw[hw]at e;cases e
   have st:d9 H w (upd H b (.lst iL)) w:=λa x h n=>⟨sm (by rw[bR (nn a n)];exact h),n⟩;refine .cons (.own jj hw (ag.go wl st r' nM) (λz=>nomatch z)) (ag.go wl st s λa m=>⟨bR λz=>?_,s.aR a m⟩) ne;subst z;exact ne a (by simp) m
 | _,_,_,i+1,row,.cons (d:=d) (v:=v) (F:=F) (G:=G) r s ne,e=>by
  obtain⟨b,ws,h1,h2,h3,h4,h5,mk⟩:=ag.row wl (i:=i) (row:=row) s (by simpa using e);refine⟨b,ws,by simpa using h1,h2,h3,Qg _ h4,h5,λgQ iL r'=>?_⟩;have nn:∀ a,w a=none->a≠b:=λa e z=>by subst z;rw[h3]at e;cases e
  have st:d9 H w (upd H b (.lst iL)) w:=λa x h n=>⟨sm (by rw[bR (nn a n)];exact h),n⟩;refine .cons (Rep.go wl st r λa m=>⟨bR λz=>?_,r.aR a m⟩) (mk gQ iL r') ne;subst z;exact ne a m h4
theorem Good.A_{σ:St}{H:Hp}{w:Wn}{m:Nat}{rows row:List D}(g:Good K ρ σ H w t)(e:ρ[i]? = some (some (.lst rows,2)))(em:rows[m]? = some (.lst row)) :
  ∃ l vs b ws,σ[i]? = some (some (.ref l))/\cM K H l vs/\vs.length=rows.length/\vs[m]? = some (.ref b)/\H b=some (.lst ws)/\ag K H w .f 0 row ws []/\∀ gQ iL,ag K H w .f 0 gQ iL []->
   Good K (ρ.set i (some (.lst (rows.set m (.lst gQ)),2))) σ (upd H b (.lst iL)) w t/\Go H w (upd H b (.lst iL)) w:=by
 obtain⟨v,F,h1,h2⟩:=g.slot i _ _ e;obtain⟨l,vs,rfl,F',rfl,hl,hw,rs,nl⟩:=h2.inv
 .obtain⟨b,ws,b1,b2,b3,b4,b5,mk⟩:=ag.row g.wl rs em;have N5:l≠b:=λz=>by subst z;exact nl b4
  refine⟨l,vs,b,ws,h1,cM.of hl,rs.length.symm,b1,b2,b5,λgQ iL r'=>?_⟩;have EM:∀ a o,w a=some o->o ≠ .s i->a≠b:=λa o e n z=>by subst z;rw[b3]at e;exact n (QM e).symm
  have nn:∀ a,w a=none->a≠b:=λa e z=>by subst z;rw[b3]at e;cases e
  have st:d9 H w (upd H b (.lst iL)) w:=λa x h n=>⟨sm (by rw[bR (nn a n)];exact h),n⟩;refine⟨⟨⟨λa o h=>?_,g.wl.tb.upd rfl (.inr (g.wl b _ b3))⟩,g.ws,g.wt,by rw[QC];exact g.len,λj d' q' e'=>?_⟩,⟨st,λa o h n=>⟨bR (EM a o h (n i)),h⟩⟩⟩
  .by_cases z:a=b
   .subst z;exact⟨.l _,jj⟩
   .obtain⟨us,q⟩:=g.wl a o h;exact⟨us,by rw[bR z];exact q⟩
  .by_cases hj:i=j
   .subst hj;rw[QB (Qs.mp e).1]at e';cases e';exact⟨_,_,h1,.own (by rw[bR N5];exact hl) hw (mk gQ iL r') nl⟩
   .rw[QF hj]at e';obtain⟨v',F',AZ,oH⟩:=g.slot j d' q' e';exact⟨v',F',AZ,Rep.go g.wl st oH λa m=>⟨bR (EM a _ (oH.aR a m) (λz=>hj (by cases z;rfl))),oH.aR a m⟩⟩
theorem ag.vn{H:Hp}{w:Wn}{v:V}(rv:Rep K H w .f 0 d v []):∀ {ds:List D} {vs:List V} (i:Nat),ag K H w .f 0 ds vs []->ag K H w .f 0 (ds.set i d) (vs.set i v) []
 | ds,vs,i,r=>by
  generalize hF:([]:List Addr)=F at r;cases r with
  | nil=>rw[<- hF];exact .nil
  | @cons _ d' v' ds vs F G r s _=>
   have h1:F=[]:=r.zero;have h2:G=[]:=s.zero;subst h1 h2;cases i with
   | zero=>exact .cons (F:=[]) (G:=[]) rv s nM
   | succ j=>exact .cons (F:=[]) (G:=[]) r (ag.vn rv j s) nM
abbrev nA:=aV->Option Int
def tQ (K:PySem.W.Frag)(f:nA):TE:=λσ H Q=>∃ ρ w t i,Good K ρ σ H w t/\f ρ=some i/\Q (.int i) H
abbrev PQ (X:Cx)(e:Expr)(f:nA):Prop:=PE X e (tQ X.K f)
structure QQ (X:Cx) (e:Expr) (f:nA):Prop where mk::o:PQ X e f
@[simp] def rM (n:Nat):nA:=λρ=>match ρ[n]? with
 | some (some (.int i,_))=>some i
 | _=>none
@[simp] def rN (n:Nat)(f:nA):nA:=λρ=>match f ρ with
 | some i=>match ρ[n]? with
  | some (some (x,_))=>match eX x i with
   | some (.int j)=>some j
   | _=>none
  | _=>none
 | none=>none
section
variable {X:Cx}{a b c e:Expr}{es:List Expr}{fa fb fc f:aA}{qa qb:nA}{g:bQ}{pos p p1 p2 az apos:Pos}
theorem EN{n:Nat}(h:QE X (.Name x p1) (jV n)):QQ X (.Name x p1) (rM n):=⟨have h:=h.o;PE.imp h λσ H Q ak=>by
 obtain⟨ρ,w,t,i,gd,ee,k⟩:=ak;unfold rM at ee;split at ee;next j q e0=>
  cases ee;obtain⟨v,F,h1,h2⟩:=gd.slot n _ _ e0;rw[dZ h2]at h1;exact⟨_,h1,k⟩
 .cases ee⟩
theorem EO{n:Nat}(h:QE X (.Name x p1) (jV n))(hb:QQ X b qb)(hs:tj b:=by exact λ_ _=>rfl):QQ X (.Subscript (.Name x p1) b pos) (rN n qb):=⟨have h:=h.o;have hb:=hb.o;PE.imp (uT uV h hb hs) λσ H Q ak=>by
 obtain⟨ρ,w,t,i,gd,ee,k⟩:=ak;unfold rN at ee;split at ee;next i0 h0=>
  split at ee;next x q e0=>
   split at ee;next j hj=>
    cases ee;obtain⟨v,F,h1,h2⟩:=gd.slot n _ _ e0;refine⟨v,h1,ρ,w,t,i0,gd,h0,?_⟩;cases x with
    | lst ds=>
     obtain⟨p0,vs,q',G,rfl,hq,rs⟩:=h2.oB;obtain⟨u,G',hu,ru,_⟩:=rs.EL hj;rw[dZ ru]at hu;exact .inl ⟨p0,vs,i0,_,rfl,rfl,hq,hu,k⟩
    | tup ds=>
     obtain⟨p0,vs,rfl,hq,rs⟩:=h2.fA;obtain⟨u,hu,ru⟩:=rs.dC hj;rw[dZ ru]at hu;exact .inr (.inl ⟨p0,vs,i0,_,rfl,rfl,hq,hu,k⟩)
    | _=>cases hj
   .cases ee
  .cases ee
 .cases ee⟩
@[simp] def vo (n:Nat)(qi qj:nA)(fe:aA):aH:=λρ=>match fe ρ with
 | some (d,_,ac)=>match qi ac,qj ac,ac[n]? with
  | some i,some j,some (some (.lst rows,2))=>match iU rows.length i with
   | some m=>match rows[m]? with
    | some (.lst row)=>match iU row.length j with
     | some k=>some (.nx (ac.set n (some (.lst (rows.set m (.lst (row.set k d))),2))))
     | none=>none
    | _=>none
   | none=>none
  | _,_,_=>none
 | none=>none
theorem N6{n:Nat}(h:QE X (.Name x p1) (jV n))(ha:QQ X a qa)(hb:QQ X b qb)(he:QD X e f)(hi:tj a:=by exact λ_ _=>rfl)(Ba:∀ v,assign (.Subscript (.Subscript (.Name x p1) a p2) b p) X.env v=(do
   let ov <- holding [v] (eval (.Subscript (.Name x p1) a p2) X.env)
   let iv <- holding [v,ov] (eval b X.env)
   standAt p
   holding [v,ov,iv] (setItem ov iv v)
   release [v,ov,iv] []):=by exact λ_=>rfl) (hs:swapsWithSole [.Subscript (.Subscript (.Name x p1) a p2) b p] e pos.line X.env=pure false:=by rfl):j6 X (.Assign [.Subscript (.Subscript (.Name x p1) a p2) b p] e pos) (vo n qa qb f):=⟨have h:=h.o;have ha:=ha.o;have hb:=hb.o;have he:=he.o;by
 refine PS.imp (Dz he (KY (uT uV h ha hi) hb Mb Ba) hs) λD σ H ⟨ρ,w,o,gd,ee,k⟩=>?_;unfold vo at ee;split at ee;next d q0 ac h1=>
  split at ee;next i j rows hi hj er=>
   split at ee;next m hm=>
    split at ee;next row Bb=>
     split at ee;next kk hk=>
      cases ee;refine⟨ρ,w,0,d,q0,ac,gd,h1,λv H1 w1 F1 g1 aJ r1=>?_⟩;have rv:=r1.drop (o:=.f) (Qf 0);have gg:=g1.drop (t':=0);obtain⟨l,vs,b0,ws,m1,m2,m3,m4,m5,m6,mk⟩:=gg.A_ er Bb;refine⟨_,m1,ac,cm 0 w1,0,i,gg,hi,.inl ⟨l,vs,i,.ref b0,rfl,rfl,m2,?_,ac,cm 0 w1,0,j,gg,hj,b0,ws,j,kk,rfl,rfl,m5,?_,?_⟩⟩
      .unfold dC;rw[m3,hm];exact m4
      .rw[<- m6.length];exact hk
      .obtain⟨n1,n2⟩:=mk _ _ (m6.vn rv kk);exact k _ _ _ rfl n1 ((aJ.drop gd.wt).trans n2)
     .cases ee
    .cases ee
   .cases ee
  .cases ee
 .cases ee⟩
end
@[simp] def gz (fa fb:aA):aA:=λρ=>match fa ρ with
 | some (.bl b,_,ac)=>if b=true then fb ac else some (.bl false,9,ac)
 | _=>none
@[simp] def Bc (fa:aA):aA:=λρ=>match fa ρ with
 | some (.bl b,_,ac)=>some (.bl (!b),9,ac)
 | _=>none
section
variable {X:Cx}{a b c e:Expr}{es cb:List Expr}{fa fb fc f:aA}{g:bQ}{pos p p1 p2 az apos:Pos}
theorem mn{op}(h:QD X a fa):QD X (.BoolOp op [a] pos) fa:=⟨have h:=h.o;Kp h⟩
theorem kM(ha:QD X a fa)(hb:QD X (.BoolOp .And (b::cb) pos) fb):QD X (.BoolOp .And (a::b::cb) pos) (gz fa fb):=⟨have ha:=ha.o;have hb:=hb.o;PE.imp (Kq ha hb) λσ H Q ak=>by
 obtain⟨ρ,w,t,r',q,aB,gd,ee,k⟩:=ak;unfold gz at ee;split at ee;next b' q1 ac h1=>
  refine⟨ρ,w,t,_,_,_,gd,h1,λv H1 w1 F1 g1 aJ r1=>?_⟩;obtain⟨rfl,rfl⟩:=r1.inv;refine⟨b',rfl,?_⟩;split at ee
  .rename_i hb;rw[Qk hb]
   exact⟨ac,cm t w1,t,r',q,aB,g1.drop,ee,λv H2 w2 F g2 bb=>k v H2 w2 F g2 ((aJ.drop gd.wt).trans bb)⟩
  .rename_i hb;rw[Qw hb]
   cases ee;exact k _ H1 w1 [] g1 aJ (.bl false)
 .cases ee⟩
theorem N7(ha:QD X a fa):QD X (.UnaryOp .Not a pos) (Bc fa):=⟨have ha:=ha.o;PE.imp (Kr ha) λσ H Q ak=>by
 obtain⟨ρ,w,t,r',q,aB,gd,ee,k⟩:=ak;unfold Bc at ee;split at ee;next b' q1 ac h1=>
  cases ee;refine⟨ρ,w,t,_,_,_,gd,h1,λv H1 w1 F1 g1 aJ r1=>?_⟩;exact⟨b',r1.inv.1,k _ H1 w1 [] g1 aJ (.bl _)⟩
 .cases ee⟩
end
section
variable {es cb:List Expr}{a b c e:Expr}{pos:Pos}{env:Env}
theorem ff{op}:starEach (.BinOp a op b pos::cb) env=(false,eval (.BinOp a op b pos) env)::starEach cb env:=by simp only[starEach]
theorem N8:starEach (.IfExp a b c pos::cb) env=(false,eval (.IfExp a b c pos) env)::starEach cb env:=by simp only[starEach]
theorem jr{g sc}:starEach (.ListComp a g sc pos::cb) env=(false,eval (.ListComp a g sc pos) env)::starEach cb env:=by simp only[starEach]
theorem b7{k}:starEach (.Call a es k pos::cb) env=(false,eval (.Call a es k pos) env)::starEach cb env:=by simp only[starEach]
theorem gf{v k}:starEach (.Constant v k pos::cb) env=(false,eval (.Constant v k pos) env)::starEach cb env:=by simp only[starEach]
theorem g_:starEach (.Subscript a b pos::cb) env=(false,eval (.Subscript a b pos) env)::starEach cb env:=by simp only[starEach]
theorem bV{x}:starEach (.Name x pos::cb) env=(false,eval (.Name x pos) env)::starEach cb env:=by simp only[starEach]
theorem pY:starEach (.List es pos::cb) env=(false,eval (.List es pos) env)::starEach cb env:=by simp only[starEach]
theorem ER{k}:starEach (.Tuple es k pos::cb) env=(false,eval (.Tuple es k pos) env)::starEach cb env:=by simp only[starEach]
end
def At (K:PySem.W.Frag)(mg:Str->Option Value)(x:Str)(st:Stmt)(ps:List Str):Prop:=
 ∃ f fd,lT K x x st f fd/\mg x=some (.ref f)/\oa K fd ps []
def aw (P:Program)(w:World)(K:PySem.W.Frag)(mg:Str->Option Value)(base:Heap)(k:Nat)(x:Str)(n:Nat)(F:List D->OD):Prop:=
 ∃ f fd ps,eG P w K mg base jl k f fd ps (kH K n F)/\mg x=some (.ref f)/\W.keepIn K (.ref f)=true/\oa K fd ps []
theorem aw.mk{w:World}{k:Nat}{ps:List Str}(a:At K mg x st ps)(S:ah N ps (bh st))
  (h:∀ (f:Addr) (b6:Value) (A:Around) (outer:List Env) (s:Shared) (H:Hp) (E:XK),bc k (A.deeper (envOfC x (bh st) s.heap.objs.size f b6))->x9 (k8 jl P w K mg base N x (bh st) f b6 A outer s H E).g7 (jk st) body) :
  aw P w K mg base (k+1) x ps.length (bU N.length body):=by obtain⟨f,fd,F,m,b⟩:=a;exact⟨f,fd,ps,En F S (h f),m,F.kp,b⟩
section
variable {X:Cx}{a b c e:Expr}{es cb:List Expr}{fa fb fc f:aA}{g:bQ}{pos p p1 p2 az apos:Pos}
theorem aQ{j k n:Nat}{F:List D->OD}(C:aw X.prog X.w X.K X.mg X.base k x n F)(hr:bc j X.A)(ha:eO X (e::es) g)(hg:Gl X x:=by rfl)(fO:(x==("__debug__":Str))=false:=by decide)(he:starEach (e::es) X.env=(false,eval e X.env)::starEach es X.env:=by rfl)(cR:(backTo pos (starEach es X.env)).any (·.1)=false:=by rfl)(hk:k<=j:=by decide):QD X (.Call (.Name x p) (e::es) [] pos) (ay F n g):=⟨have ha:=ha.o;by obtain⟨f,fd,ps,G,hm,oI,hb⟩:=C;exact Nf G (hr.mono hk) hm oI hb D6 ha hg fO he cR⟩
end
theorem TB.only{H:Hp}(h:Af H)(hn:∀ x∈tz,W.tabIn K x=none):TB K H:=by refine⟨λP ps e=>?_,λP ps e=>?_,λx hx c P e=>by rw[hn x hx]at e;cases e⟩<;>rcases h P with z|⟨o,xs,z⟩<;>rw[e]at z<;>cases z
theorem N9{F:List D->OD}(h:∀ ns:List Int,ns.length<=63->∃ q,F [.lst (ns.map D.int)]=some (.bl true,q)){H:Hp}{a:Addr}{ns:List Int}(hl:ns.length<=63)(hS:cM K H a (ns.map V.int))(tb:TB K H){E:XK} :
  kH K 1 F [.ref a] H (λv _=>v=.bl true) E:=by
 obtain⟨q,e⟩:=h ns hl;have r:Rep K H (λ_=>none) .f 0 (.lst (ns.map D.int)) (.ref a) []:=by
  rcases cM.cases hS with z|z
  .exact .shr z rfl (x_ ns)
  .exact .kl z (x_ ns)
 exact⟨rfl,[.lst (ns.map D.int)],λ_=>none,.bl true,q,(λa o z=>nomatch z),⟨(λa o z=>nomatch z),tb⟩,.cons (F:=[]) (G:=[]) r .nil nM,e,λv H' w' Fo _ _ rr=>rr.inv.1⟩
theorem N_{w:World}{k:Nat}{ps:List Str}{f:Addr}{fd:FuncData}(F:lT K x x st f fd)(S:ah N ps (bh st))
  (h:∀ (f:Addr) (b6:Value) (A:Around) (outer:List Env) (s:Shared) (H:Hp) (E:XK),bc k (A.deeper (envOfC x (bh st) s.heap.objs.size f b6))->x9 (k8 jl P w K mg base N x (bh st) f b6 A outer s H E).g7 (jk st) body) :
  eG P w K mg base jl (k+1) f fd ps (kH K ps.length (bU N.length body)):=En F S (h f)
section
variable {prog:Program}{w:World}{A:Around}{E:Y0}{s:Shared}
theorem Oa{p:Addr}{n:Nat}{vs:Array Value}{v:Value}(a:s.heap.IsTupleIter j p n)(b:s.heap.IsTuple p vs)(c:vs[n]? = some v)
  (k:∀ g:Heap,g.IsTupleIter j p (n+1)->Heap.SameBut j s.heap g->Q v { s with heap:=g }):wpAny (model prog w) A (Builtin.SmallTypes.nextOf (.ref j)) Q E s:=by obtain⟨oj,ej,kj,dj⟩:=id a;obtain⟨op,ep,_,mp,dp⟩:=b;unfold Builtin.SmallTypes.nextOf;refine Qb (ZL (name:=Str.ofString "__next__") a.typeIs ZD (Jr ZD a.typeIs JL ?_ (JE _)));show wpAny _ _ (field (.ref j) 0 >>= _) _ _ s;refine Qb (ZB ej dj (x:=.ref p) rfl ?_);show wpAny _ _ (if(Value.ref p==Value.none)=true then _ else _) _ _ s;rw[Qw (show ¬ ((Value.ref p==Value.none)=true)from ZC)];show wpAny _ _ (field (.ref j) 1 >>= _) _ _ s;refine Qb (ZB ej dj (x:=.int n 0) rfl ?_);show wpAny _ _ (seqItems? (.ref p) >>= _) _ _ s;refine Qb (wpAny_seqItems ep dp ?_);simp only[ZY,c];refine Qb (JT ej dj (by simp) (Ql ⟨v,rfl,Ql (k _ ⟨_,Jp _ ej (Obj.isFreed_of_fields (Jj dj _)),(Obj.cls_mapFields ..).trans kj,?_⟩ (Heap.SameBut.update ..))⟩));rw[Jj dj];simp[rawInt]
theorem Ob{p:Addr}{n:Nat}{vs:Array Value}{Q:Y0}(hh:A.handled=none)(a:s.heap.IsTupleIter j p n)(b:s.heap.IsTuple p vs)(c:vs[n]? = none)
  (k:∀ (g:Heap) x,Heap.ExtBut j s.heap g->(∃ o,g.get? x=some o/\o.cls=.type "StopIteration")->E (.ref x) { s with heap:=g }):wpAny (model prog w) A (Builtin.SmallTypes.nextOf (.ref j)) Q E s:=by
 obtain⟨oj,ej,kj,dj⟩:=id a;obtain⟨op,ep,_,mp,dp⟩:=b;unfold Builtin.SmallTypes.nextOf;refine Qb (ZL (name:=Str.ofString "__next__") a.typeIs ZD (Jr ZD a.typeIs JL ?_ (JE _)));show wpAny _ _ (field (.ref j) 0 >>= _) _ _ s;refine Qb (ZB ej dj (x:=.ref p) rfl ?_);show wpAny _ _ (if(Value.ref p==Value.none)=true then _ else _) _ _ s;rw[Qw (show ¬ ((Value.ref p==Value.none)=true)from ZC)];show wpAny _ _ (field (.ref j) 1 >>= _) _ _ s;refine Qb (ZB ej dj (x:=.int n 0) rfl ?_);show wpAny _ _ (seqItems? (.ref p) >>= _) _ _ s;refine Qb (wpAny_seqItems ep dp ?_);simp only[ZY,c];refine Qb (wpAny_rule (Qb (JT ej dj (by simp) ?_)));show wpAny _ _ (newExc (.type "StopIteration") [] >>= _) _ _ _;refine Qb ?_;simp only[newExc,newTuple];refine Qb (Q9 ?_ (by size_fits));refine Qb (m:=firstArgMember _ _) (wpAny_of_eq (a:=Value.none) (by first|rfl|(simp only[firstArgMember];rfl)) (Q9 ?_ (by size_fits)));simp only[raiseNew];refine Qb (wpAny_handled ?_);first|rw[show A.in1.handled=none from hh]|rw[hh]
 exact Qb (Ql (wpAny_throw (k _ _ (((Heap.SameBut.update ..).extBut.push _).push _) ⟨_,Qy _ rfl,rfl⟩)))
end
theorem Oc{X:Cx}{Z_:List (Addr×Obj)}{σ:St}{H:Hp}{s:Shared}{h':Heap}{t':Nat}{ch:List Addr}(I:Inv X Z_ σ H s)(k:∀ b o,b ∉ ch->s.heap.get? b=some o->h'.get? b=some o)(hf:∀ b∈ch,jX X Z_ H b) :
  Inv X Z_ σ H { s with heap:=h',toks:=t' }:=by
 have uF:∀ b u,H b=some u->b ∉ ch:=λb u e z=>by rw[(hf b z).1]at e;cases e
 refine I.step (g':=s.gens) (d':=s.drawn) (ch:=ch) (λb hb=>?_) (λb o _ _ hc e _=>k b o hc e) (λb o _ _ hc e _=>⟨o.slots,k b o hc e⟩) (λ_ _ _ _ n=>n)
  (λb o hc e=>⟨o,k b o hc e⟩) (λ_ _ e=>e) (λ_ _ _ e=>e) (λb ps e=>⟨#[],by rw[e];simp⟩) (λm hm=>?_) (λb u e=>?_) I.bare
 .obtain⟨f0,f1,f2,f3,f4,f5⟩:=hf b hb;exact⟨f3,f1,f4,f5⟩
 .obtain⟨o,es,ep,ho,r⟩:=hm;exact⟨o,es,ep,k _ o (λz=>(hf _ z).2.1 rfl) ho,r⟩
 .refine(I.aK b u e).gJ (λc v hc q=>k c v ?_ q) (λ_ q=>q) λ_ _ q=>q;rcases hc with z|z
  .rw[z];exact uF b u e
  .exact uF c _ z
section
variable {X:Cx}{a b c e:Expr}{es elts:List Expr}{fa fb fc f:aA}{g:bQ}{pos p p1 p2 tp:Pos}{kt:Nat}
@[simp] def Xn (g:bQ):iZ:=λρ=>match g ρ with
 | some ([.lst ds,.tup es],ac)=>if ds.length<=1000 then some ((ds.zip es).map λx=>.tup [x.1,x.2],ac)else none
 | some ([.tup ds,.tup es],ac)=>if ds.length<=1000 then some ((ds.zip es).map λx=>.tup [x.1,x.2],ac)else none
 | _=>none
end
abbrev oJ:=List D->aV->Option aV
def Od (K:PySem.W.Frag)(b:Nat)(pt:oJ):n3:=λvs σ H Q=>∃ ds ρ w t aB,Good K ρ σ H w t/\ag K H w .f 0 ds vs []/\pt ds ρ=some aB/\∀ aP H' w',aP.length=σ.length->(∀ i,i<b->aP[i]? = σ[i]?)->Good K aB aP H' w' t->Go H w H' w'->Q aP H'
theorem nj.imp{X:Cx}{tg:List Expr}{t t':n3}(h:nj X tg t)(i:∀ v σ H Q,t' v σ H Q->t v σ H Q):nj X tg t':=λZ_ s σ H v u Q I r q=>h Z_ s σ H v u Q I r (i v σ H Q q)
abbrev Oe (X:Cx)(b:Nat)(tg:List Expr)(pt:oJ):Prop:=nj X tg (Od X.K b pt)
structure oK (X:Cx) (b:Nat) (e:List Expr) (f:oJ):Prop where mk::o:Oe X b e f
@[simp] def jC:oJ:=λds ρ=>match ds with
 | []=>some ρ
 | _=>none
@[simp] def dz (pt:eo)(ps:oJ):oJ:=λds ρ=>match ds with
 | []=>none
 | d::r=>match pt d ρ with
  | some ac=>ps r ac
  | none=>none
@[simp] def kN (ps:oJ):eo:=λd ρ=>match d with
 | .tup ds=>ps ds ρ
 | _=>none
section
variable {X:Cx}{k b:Nat}{e:Expr}{es:List Expr}{pt:eo}{ps:oJ}{pos:Pos}
theorem vq:oK X b [] jC:=⟨nj.imp KQ λv σ H Q ak=>by
 obtain⟨ds,ρ,w,t,aB,g,r,e,k⟩:=ak;unfold jC at e;split at e
 .cases e;generalize hF:([]:List Addr)=F at r;cases r;exact⟨rfl,k σ H w rfl (λ_ _=>rfl) g Go.refl⟩
 .cases e⟩
theorem lj(h1:pV X b e pt)(h2:oK X b es ps)(hs:(assignEach (e::es) X.env).map (·.2)=assign e X.env::(assignEach es X.env).map (·.2):=by rfl):oK X b (e::es) (dz pt ps):=⟨have h1:=h1.o;have h2:=h2.o;nj.imp (KR h1 h2 hs) λv σ H Q ak=>by
 obtain⟨ds,ρ,w,t,aB,g,r,e,k⟩:=ak;unfold dz at e;split at e
 .cases e
 next d cb=>
  split at e;next ac h1=>
   generalize hF:([]:List Addr)=F at r;cases r with
   | cons ra rb _=>
    have z1:=ra.zero;have z2:=rb.zero;subst z1 z2;refine⟨_,_,rfl,d,ρ,w,t,ac,g,ra,h1,λDy H1 w1 l1 s1 g1 aJ=>⟨cb,ac,w1,t,aB,g1,rb.j7 g.wl aJ.bw,e,λqI H2 w2 l2 s2 g2 bb=>k qI H2 w2 (l2.trans l1) (λi hi=>(s2 i hi).trans (s1 i hi)) g2 (aJ.trans bb)⟩⟩
  .cases e⟩
theorem vt{n:Nat}(hc:X.calm=true)(h:oK X b es ps)(hl:∀ ds ρ aB,ps ds ρ=some aB->ds.length=n)(hn:(assignEach es X.env).length=n:=by rfl)(lK:(assignEach es X.env).findIdx? (·.1)=none:=by rfl):pV X b (.Tuple es k pos) (kN ps):=⟨have h:=h.o;PG.imp (KU hc h hn lK) λv σ H Q ak=>by
 obtain⟨d,ρ,w,t,aB,g,r,e,k⟩:=ak;unfold kN at e;split at e;next ds=>
  obtain⟨a,vs,rfl,hq,rs⟩:=r.fA;exact⟨a,vs,rfl,hq,by rw[<- rs.length];exact hl _ _ _ e,ds,ρ,w,t,aB,g,rs,e,k⟩
 .cases e⟩
theorem Bd{p q:eo}:∀ ds ρ aB,dz p (dz q jC) ds ρ=some aB->ds.length=2:=λds ρ aB h=>by
 match ds with
 | []=>cases h
 | [_]=>unfold dz at h;simp at h;split at h<;>cases h
 | [_,_]=>rfl
 | _::_::_::_=>
  exfalso;unfold dz at h;simp at h;split at h
  .split at h<;>cases h
  .cases h
end
theorem ES:∀ {bs:List Bool} {us:List Value},bf (bs.map V.bl) us->LSm.BoolsAre us bs
 | [],_,h=>by cases h;exact .nil
 | b::bs,_,h=>by
  cases h with
  | cons r rr=>
   cases r;exact .cons b (ES rr)
section
variable {X:Cx}{a b c e:Expr}{es:List Expr}{fa fb fc f:aA}{g:bQ}{pos p p1 p2:Pos}
theorem Of(hc:X.calm=true):jy X (.builtin "all") (λxs H Q=>∃ (a:Addr) (bs:List Bool),xs=[.ref a]/\cM X.K H a (bs.map V.bl)/\Q (.bl (bs.all id)) H):=by
 intro Z_ s σ H xs us Q I r h;obtain⟨l,bs,rfl,hq,q⟩:=h;obtain⟨u,rfl,ru⟩:=lN r;cases ru;obtain⟨ar,rv,pl,hz⟩:=I.list hq;have hb:=ES rv;have hl:s.heap.IsList l ar.toArray:=pl.isList;have lt:l<s.heap.objs.size:=by obtain⟨_,e,_⟩:=hl;exact Qn e
 refine call_all_walk (wpAny_pyIter_list hl ⟨s.heap.objs.size,[s.heap.objs.size,l],[s.heap.objs.size],ar.toArray.size,_,_,λi=>(bs[i]?).getD true,rfl,Walks.list (A:=X.A.in1) (I.ok.hd hc) _ l (QS lt) ar.toArray,
  ⟨⟨_,Qy _ rfl,rfl,rfl⟩,hl.push _⟩,λi v s' Q' E' hP hQ=>?_,λh' tk hk=>?_⟩)
 .obtain⟨b,e,rfl⟩:=hb.get i v (by simpa using hP);simp only[e,Option.getD_some]at hQ;exact Zk hQ
 .have e:((range ar.toArray.size).all λi=>(bs[i]?).getD true)=bs.all id:=by rw[Qi,hb.length];exact LSm.range_all bs
  rw[e];exact⟨.bl (bs.all id),H,I.kept λb o z=>hk b o (λm=>by rw[Qu.mp m]at z;exact Qx _ (Qn z)) (Qh _ z),rfl,q⟩
def pZ:List D->Option (List Bool)
 | []=>some []
 | .bl b::r=>(pZ r).map (b :: ·)
 | _=>none
def kc:List D->Option D
 | [.lst ds]=>(pZ ds).map λbs=>.bl (bs.all id)
 | _=>none
theorem ET{H:Hp}{w:Wn}:∀ {ds:List D} {vs:List V} {bs:List Bool},ag K H w o 0 ds vs []->pZ ds=some bs->vs=bs.map V.bl
 | ds,vs,bs,r,e=>by
  generalize hF:([]:List Addr)=F at r;cases r with
  | nil=>cases e;rfl
  | @cons _ d v l7 l8 F' G' r1 r2 _=>
   have h2:G'=[]:=r2.zero;subst h2;cases r1 with
   | bl b=>
    unfold pZ at e;cases e':pZ l7 with
    | none=>rw[e']at e;cases e
    | some yh=>
     rw[e']at e;cases e;rw[ET r2 e'];rfl
   | _=>cases e
theorem vw(hc:X.calm=true)(hm:X.mg "all" = none)(ha:eO X [a] g)(hg:Gl X "all":=by rfl)(he:starEach [a] X.env=(false,eval a X.env)::starEach [] X.env:=by rfl)(cR:(backTo pos (starEach [] X.env)).any (·.1)=false:=by rfl):QD X (.Call (.Name "all" p) [a] [] pos) (eB kc g):=⟨have ha:=ha.o;PE.imp (qN (Of hc) hg hm PyProof.Rows.boot_all ha (by decide) (by decide) he cR) (ye λds d h=>by
  unfold kc at h;split at h;next Og=>
   cases e:pZ Og with
   | none=>rw[e]at h;cases h
   | some bs=>
    rw[e]at h;cases h;refine⟨_,rfl,λH w vs wl r Q hq=>?_⟩;obtain⟨v,rfl,rv⟩:=one r;obtain⟨p,ys,rfl,hs,rs⟩:=rv.d_;rw[ET rs e]at hs;exact⟨p,bs,rfl,hs,hq⟩
  .cases h)⟩
theorem yi{α:Type}(l:List α)(f:α->Bool):pZ (l.map λi=>.bl (f i))=some (l.map f):=by
 induction l with
 | nil=>rfl
 | cons a l ih=>rw[Qr,pZ,ih];rfl
end
inductive IT where
 | int|bool|tuple|list|str
def IT.nm:IT->String
 | .int=>"int"
 | .bool=>"bool"
 | .tuple=>"tuple"
 | .list=>"list"
 | .str=>"str"
def MK.vy:MK->Bool
 | .l _ _=>true
 | _=>false
def da:IT->D->Bool
 | .int,.int _=>true
 | .int,.bl _=>true
 | .bool,.bl _=>true
 | .tuple,.tup _=>true
 | .list,.lst _=>true
 | .list,.mp k _=>k.vy
 | .str,.str _=>true
 | _,_=>false
def EU:D->String
 | .aO=>"NoneType"
 | .bl _=>"bool"
 | .int _=>"int"
 | .str _=>"str"
 | .tup _=>"tuple"
 | .iY _ _=>"dict"
 | .exc _=>"object"
 | .ob _ _ _ _=>"function"
 | .mp k _=>if k.vy=true then "list" else "dict"
 | .lst _=>"list"
section
variable {X:Cx}{Z_:List (Addr×Obj)}{σ:St}{H:Hp}{s:Shared}
theorem Oh{w:Wn}{x:V}{c:Value}{b:Bool}{A:Around}{E:Y0}(I:Inv X Z_ σ H s)(rx:cE x u)(r:Rep X.K H w o q d x F)
  (e:W.kitOne X.K (.type (EU d)) c=some b) (hx:∀ nm,d ≠ .exc nm) (hi:∀ C fs p ds,d ≠ .mp (.i C fs p) ds) (h:∀ tk,Q (.bool b) { s with toks:=tk }):wpAny (model X.prog X.w) A (call (.builtin "isinstance") [u,c]) Q E s:=by
 cases r with
 | exc _ _ _=>exact absurd rfl (hx _)
 | ob h1 h2 x r=>
  cases rx;obtain⟨e1,_⟩:=(show d7 X.prog X.w H s.heap _ (.fF _ _)from I.aK _ _ h1);exact Q4 M7 I.fu ⟨_,e1,x.1⟩ e (λz=>nomatch z) h
 | aO=>exact iT I rx .aO e h
 | bl y=>exact iT I rx (.bl y) e h
 | int i=>exact iT I rx (.int i) e h
 | str y=>exact iT I rx (.str y) e h
 | tup ha _=>exact iT I rx (.tup ha) e h
 | iY ha _ _=>exact iT I rx (.dK ha) e h
 | kl ha _=>
  obtain⟨ob,ar,n,hk,hc,hd,_⟩:=ha;cases rx;exact Q4 J6 I.fu ⟨ob,I.fu _ _ hk,hc⟩ e (λz=>nomatch z) h
 | shr ha _ _=>
  rcases ha with ha|⟨ob,ha⟩
  .exact iT I rx (.lst ha) e h
  .exact iT I rx (.fF ha) e h
 | own ha _ _ _=>exact iT I rx (.lst ha) e h
 | @pN a vs ds k y ha i _ _ _=>
  cases k with
  | t ks=>cases i;exact iT I rx (.dT ha) e h
  | k ks=>cases i;exact iT I rx (.dK ha) e h
  | i C fs p=>exact absurd rfl (hi _ _ _ _)
  | l n p=>obtain⟨rfl,_⟩:=i;exact iT I rx (.lst ha) e h
 | @tu q a vs ds k y ha i _ _ _=>
  cases k with
  | t ks=>cases i;exact iT I rx (.dT ha) e h
  | k ks=>cases i;exact iT I rx (.dK ha) e h
  | i C fs p=>exact absurd rfl (hi _ _ _ _)
  | l n p=>obtain⟨rfl,_⟩:=i;exact iT I rx (.lst ha) e h
theorem Oi{w:Wn}{C:Str}{fs:List Str}{pn:Option Addr}{x:V}{A:Around}{E:Y0}(I:Inv X Z_ σ H s)(rx:cE x u)(r:Rep X.K H w o q (.mp (.i C fs pn) ds) x F)
  (T:IT) (h:∀ tk,Q (.bool false) { s with toks:=tk }):wpAny (model X.prog X.w) A (call (.builtin "isinstance") [u,.type T.nm]) Q E s:=by
 cases r with
 | pN ha i _ _ _=>
  obtain⟨C,dx,_,rfl,c,_⟩:=i;exact iT I rx (.ins ha c.cl c.ha c.hn c.uN c.hm) (c.no _ (by cases T<;>simp[IT.nm])) h
 | tu ha i _ _ _=>
  obtain⟨C,dx,_,rfl,c,_⟩:=i;exact iT I rx (.ins ha c.cl c.ha c.hn c.uN c.hm) (c.no _ (by cases T<;>simp[IT.nm])) h
theorem Oj(T:IT)(d:D)(hx:∀ nm,d ≠ .exc nm):W.kitOne K (.type (EU d)) (.type T.nm)=some (da T d):=by
 cases d with
 | mp k ds=>cases k<;>cases T<;>rfl
 | _=>cases T<;>first|rfl|exact absurd rfl (hx _)
end
section
variable {X:Cx}{a b c e:Expr}{es:List Expr}{fa fb fc f:aA}{ga gb:cy}{g:bQ}{pos p p1 p2 pT:Pos}
theorem Ol(T:IT):jy X (.builtin "isinstance") (λxs H Q=>∃ x w o q F d,xs=[x,.ty T.nm]/\Rep X.K H w o q d x F/\Q (.bl (da T d)) H):=by
 intro Z_ s σ H xs us Q I r h;obtain⟨x,w,o,q,F,d,rfl,rd,hq⟩:=h;obtain⟨u,v,rfl,ru,rv⟩:=xq r;cases rv;by_cases hx:∃ nm,d=.exc nm
 .obtain⟨nm,rfl⟩:=hx;obtain⟨_,_,_,rfl,ha,C,hc,k⟩:=rd.inv
  .cases ru;obtain⟨e1,_⟩:=(show d7 X.prog X.w H s.heap _ (.fF _ _)from I.aK _ _ ha);have hT:da T (.exc nm)=false:=by cases T<;>rfl
   rw[hT]at hq;refine MZ (x:=_) I.fu ⟨e1,hc⟩ k.xc (by cases T<;>kernel_rfl) (k.no _ (by cases T<;>simp[IT.nm])) ⟨.bl false,H,I.tok _,rfl,hq⟩
 .by_cases hi:∃ C fs p ds,d=.mp (.i C fs p) ds
  .obtain⟨C,fs,p,ds,rfl⟩:=hi;exact Oi I ru rd T λtk=>⟨.bl (da T (.mp (.i C fs p) ds)),H,I.tok _,by cases T<;>rfl,hq⟩
  .exact Oh I ru rd (Oj T d λnm z=>hx ⟨nm,z⟩) (λnm z=>hx ⟨nm,z⟩) (λC fs p ds z=>hi ⟨C,fs,p,ds,z⟩) λtk=>⟨.bl (da T d),H,I.tok _,rfl,hq⟩
@[simp] def mq (T:IT)(fa:aA):aA:=λρ=>match fa ρ with
 | some (d,_,ac)=>some (.bl (da T d),9,ac)
 | none=>none
theorem oM(T:IT){t:Str}(hm:X.mg "isinstance" = none)(Be:X.mg t=none)(Om:bootBuiltins t=some (.type T.nm))(ha:QD X a fa)(hg:Gl X "isinstance":=by rfl)(vz:Gl X t:=by rfl)(p6:t ≠ "__name__":=by decide)(jD:(t==("__debug__":Str))=false:=by decide)(hs:starEach [a,.Name t pT] X.env=(false,eval a X.env)::starEach [.Name t pT] X.env:=by rfl)(cR:(backTo pos (starEach [.Name t pT] X.env)).any (·.1)=false:=by rfl):QD X (.Call (.Name "isinstance" p) [a,.Name t pT] [] pos) (mq T fa):=⟨have ha:=ha.o;PE.imp (qN (Ol T) hg hm ZV (kE ha (kE (Ds (v:=.ty T.nm) vz Be Om rfl p6 jD) n9 bV) hs) (by decide) (by decide) hs cR) λσ H Q ak=>by
 obtain⟨ρ,w,t,r',q,aB,gd,ee,k⟩:=ak;unfold mq at ee;split at ee;next d q1 ac h1=>
  cases ee;refine⟨ρ,w,t,_,_,_,gd,h1,λv H1 w1 F1 g1 aJ r1=>?_⟩;exact⟨v,w1,_,_,F1,d,rfl,r1,k _ H1 (cm t w1) [] g1.drop.up (aJ.drop gd.wt) (.bl _)⟩
 .cases ee⟩
@[simp] def nB (g1 g2:D->D->Option D)(fa fb fc:aA):aA:=λρ=>match fa ρ with
 | some (x,_,ac)=>match fb ac with
  | some (y,_,ad)=>match g1 x y with
   | some (.bl true)=>match fc ad with
    | some (z,_,dI)=>match g2 y z with
     | some d=>some (d,9,dI)
     | none=>none
    | none=>none
   | some (.bl false)=>some (.bl false,9,ad)
   | _=>none
  | none=>none
 | none=>none
theorem EV(ho:cN X (compareOp op) (kD h1))(gK:cN X (compareOp ky) (kD h2))(e1:∀ i j d,g1 i j=some d->kG d=some (h1 i j))(rO:∀ i j d,g2 i j=some d->kG d=some (h2 i j))
  (ha:PD X a fa) (hb:PD X b fb) (hc:PD X c fc) (hm:lastMarks [op,ky] [b,c]=false:=by with_unfolding_all rfl):PD X (.Compare a [op,ky] [b,c] pos) (nB (gI g1) (gI g2) fa fb fc):=PE.imp (Ln ho gK ha hb hc hm) λσ H Q ak=>by
 obtain⟨ρ,w,t,r',q,aB,gd,ee,k⟩:=ak;unfold nB at ee;split at ee;next x q1 ac a1=>
  split at ee;next y q2 ad a2=>
   refine pO gd a1 a2 λu v H2 w2 F1 F2 vA bb r1 r2=>?_;have gg:=vA.drop (t':=t);split at ee;next hg=>
    obtain⟨i,j,rfl,rfl,mr⟩:=pQ hg;refine⟨i,j,dZ r1,dZ r2,true,by have:=e1 i j _ mr;simpa [kG]using this.symm,?_⟩;rw[Qk rfl];split at ee;next z q3 dI a3=>
     refine⟨ad,cm t w2,t,z,q3,dI,gg,a3,λv3 H3 w3 F3 g3 iw r3=>?_⟩;split at ee;next d hd=>
      cases ee;obtain⟨j',l,ej,rfl,nh⟩:=pQ hd;cases ej;exact⟨j,l,dZ r2,dZ r3,rl k gd g3 ((bb.drop gd.wt).trans iw) (xV (rO j l _ nh))⟩
     .cases ee
    .cases ee
   next hg=>
    obtain⟨i,j,rfl,rfl,mr⟩:=pQ hg;cases ee;refine⟨i,j,dZ r1,dZ r2,false,by have:=e1 i j _ mr;simpa [kG]using this.symm,?_⟩;rw[Qw (by decide)];exact rl k gd vA bb (.bl false)
   .cases ee
  .cases ee
 .cases ee
theorem Oo(ha:QD X a fa)(hb:QD X b fb)(hc:QD X c fc)(hm:lastMarks [.LtE,.Lt] [b,c]=false:=by with_unfolding_all rfl):QD X (.Compare a [.LtE,.Lt] [b,c] pos) (nB ny jB fa fb fc):=⟨have ha:=ha.o;have hb:=hb.o;have hc:=hc.o;EV uM DC (λi j d h=>by cases h;rfl) (λi j d h=>by cases h;rfl) ha hb hc hm⟩
theorem Oq(ha:QD X a fa)(hb:QD X b fb)(hc:QD X c fc)(hm:lastMarks [.LtE,.LtE] [b,c]=false:=by with_unfolding_all rfl):QD X (.Compare a [.LtE,.LtE] [b,c] pos) (nB ny ny fa fb fc):=⟨have ha:=ha.o;have hb:=hb.o;have hc:=hc.o;EV uM uM (λi j d h=>by cases h;rfl) (λi j d h=>by cases h;rfl) ha hb hc hm⟩
def rP:D->D->Option D
 | .bl x,.bl y=>some (.bl (x==y))
 | _,_=>none
theorem Ot:cN X (compareOp .Is) (λx y H Q=>∃ i j,x=.bl i/\y=.bl j/\Q (.bl (i==j)) H):=by
 intro Z_ s σ H x y v u Q I rx ry h;obtain⟨i,j,rfl,rfl,q⟩:=h;cases rx;cases ry;cases i<;>cases j
 .exact Ql ⟨.bl true,H,I,rfl,q⟩
 .exact Ql ⟨.bl false,H,I,rfl,q⟩
 .exact Ql ⟨.bl false,H,I,rfl,q⟩
 .exact Ql ⟨.bl true,H,I,rfl,q⟩
theorem Ou:∀ σ H Q,tD K (e2 rP fa fb) σ H Q->iS (λx y H Q=>∃ i j,x=.bl i/\y=.bl j/\Q (.bl (i==j)) H) (tD K fa) (tD K fb) σ H Q:=oA λx y d h=>by
 unfold rP at h;split at h
 .cases h;exact⟨_,rfl,λH w o o' q q' u u' F F' r1 r2 _ Q hq=>⟨_,_,r1.inv.1,r2.inv.1,hq⟩⟩
 .cases h
theorem EW(ha:QD X a fa)(hb:QD X b fb):QD X (.Compare a [.Is] [b] pos) (e2 rP fa fb):=⟨have ha:=ha.o;have hb:=hb.o;AL Ot Ou ha hb (qJ _)⟩
@[simp] def rQ (fa:aA):aA:=λρ=>match fa ρ with
 | some (.int i,_,ac)=>some (.int (-i),9,ac)
 | _=>none
theorem Bf(ha:QD X a fa):QD X (.UnaryOp .USub a pos) (rQ fa):=⟨have ha:=ha.o;PE.imp (K9 Li ha) λσ H Q ak=>by
 obtain⟨ρ,w,t,r',q,aB,gd,ee,k⟩:=ak;unfold rQ at ee;split at ee;next i q1 ac h1=>
  cases ee;refine⟨ρ,w,t,_,_,_,gd,h1,λv H1 w1 F1 g1 aJ r1=>?_⟩;exact⟨i,dZ r1,k _ H1 (cm t w1) [] g1.drop.up (aJ.drop gd.wt) (.int _)⟩
 .cases ee⟩
section
variable {prog:Program}{w:World}{A:Around}{E:Y0}{s:Shared}
theorem Ov(l b:Addr)(us vs:Array Value)(n m:Nat)(d1 d2:Option Addr)(s1 s2:Array (Option Value))(h0:us.isEmpty=true) :
  Meets (Builtin.«tuple.__add__» ⟨[.ref l,.ref b],[]⟩) (λ_ R s=>s.heap.get? l=some { cls:=.type "tuple",dict:=d1,data:=.seq us n,slots:=s1 }/\s.heap.get? b=some { cls:=.type "tuple",dict:=d2,data:=.seq vs m,slots:=s2 }/\R (.ok (.ret (.ref b))) s):=
 .of_wp λprog w A R s h=>by
  obtain⟨hp,g,d,tk,os⟩:=s;obtain⟨hl,hb,h⟩:=h;have f2:=AutoSeq1.sub_tuple_tuple;wp_walk using wpAny_loadPart' hl,wpAny_loadPart' hb
  exact⟨_,rfl,h⟩
theorem Ox{t b:Addr}{ws:List Value}(ht:IsTup s.heap t #[])(hb:IsTup s.heap b ws.toArray)(h:Q (.ref b) s):wpAny (model prog w) A (binaryOp .Add (.ref t) (.ref b)) Q E s:=by obtain⟨⟨c1,d1,a1,s1⟩,e1,mv,n1,vB⟩:=id ht;obtain⟨⟨c2,d2,a2,s2⟩,e2,k9,n2,EX⟩:=id hb;simp only at mv vB k9 EX;subst mv vB k9 EX;exact Yn ⟨_,e1,rfl⟩ ⟨_,e2,rfl⟩ Yc seq_tuple_add Jm Jk (Jc _ _) (Ov t b #[] ws.toArray n1 n2 d1 d2 s1 s2 rfl) ⟨e1,e2,h⟩
end
theorem Oy:cN X (binaryOp .Add) (λx y H Q=>∃ a b ys,x=.ref a/\y=.ref b/\dv X.K H a []/\dv X.K H b ys/\Q (.ref b) H):=by intro Z_ s σ H x y v u Q I rx ry h;obtain⟨a,b,ys,rfl,rfl,ha,hb,q⟩:=h;cases rx;cases ry;obtain⟨ar,r1,p1,_⟩:=I.tuple ha;obtain⟨gN,r2,p2,_⟩:=I.tuple hb;cases r1;exact Ox p1 p2 ⟨.ref b,H,I,rfl,q⟩
theorem cN.or{f:Value->Value->Sem Value}{r r':R2}(h:cN X f r)(h':cN X f r'):cN X f (λx y H Q=>r x y H Q\/r' x y H Q):=λZ_ s σ H x y v u Q I rx ry q=>q.elim (λz=>h Z_ s σ H x y v u Q I rx ry z) λz=>h' Z_ s σ H x y v u Q I rx ry z
@[simp] def p7 (fa fb:aA):aA:=λρ=>match fa ρ with
 | some (.tup ds,_,ac)=>match fb ac with
  | some (.tup es,_,ad)=>if ds.length+es.length<=1000 then some (.tup (ds++es),9,ad)else none
  | _=>none
 | _=>none
theorem EY(ha:QD X a fa)(hb:QD X b fb):QD X (.BinOp a .Add b pos) (p7 fa fb):=⟨have ha:=ha.o;have hb:=hb.o;PE.imp (nk (cN.or Oy LZ) ha hb) λσ H Q ak=>by
 obtain⟨ρ,w,t,r',q,aB,gd,ee,k⟩:=ak;unfold p7 at ee;split at ee;next ds q1 ac h1=>
  split at ee;next es q2 ad h2=>
   split at ee;next hl=>
    cases ee;refine pO gd h1 h2 λu u' H2 w2 F1 F2 g2 go r1 r2=>?_;have rR:=r1.drop (o:=.f) (Qf t);have yj:=r2.drop (o:=.f) (Z2 t);have gg:=g2.drop (t':=t);have p9:=go.drop gd.wt;obtain⟨p1,vs,rfl,mx,s1⟩:=rR.fA;obtain⟨p2,us,rfl,yk,s2⟩:=yj.fA;have l1:=s1.length;have l2:=s2.length;cases ds with
    | nil=>
     have:vs=[]:=Zx.mp (by rw[<- l1];rfl);subst this;refine .inl ⟨p1,p2,us,rfl,rfl,mx,yk,k _ H2 (cm t w2) [] gg.up p9 ?_⟩;exact(Rep.go gg.wl (λa x e n=>⟨sm e,n⟩) yj nM:Rep X.K H2 (cm t w2) (.t t) 0 _ _ []).dk rfl |>.2 9
    | cons d ds=>
     refine .inr ⟨p1,p2,vs,us,rfl,rfl,mx,yk,(λz=>by rw[z]at l1;cases l1),pR (by rw[<- l1,<- l2];exact hl),λz=>?_,λ_ p hp=>?_⟩
     .have:es=[]:=Zx.mp (by rw[l2,z];rfl);subst this;rw[QY]at k;exact k _ H2 (cm t w2) [] gg.up p9 ((Rep.go gg.wl (λa x e n=>⟨sm e,n⟩) rR nM:Rep X.K H2 (cm t w2) (.t t) 0 _ _ []).dk rfl |>.2 9)
     .obtain⟨a1,a2,a3⟩:=rm gg hp (s2.app s1);exact k _ _ _ _ a1 (p9.trans a2) a3
   .cases ee
  .cases ee
 .cases ee⟩
abbrev lp:=aV->Option (Option Int×aV)
def Oz (K:PySem.W.Frag)(f:lp):TO:=λσ H Q=>∃ ρ w t o aB,Good K ρ σ H w t/\f ρ=some (o,aB)/\∀ H' w',Good K aB σ H' w' t->Go H w H' w'->Q o H'
abbrev OA (X:Cx)(e:Option Expr)(f:lp):Prop:=PO X e (Oz X.K f)
structure p_ (X:Cx) (e:Option Expr) (f:lp):Prop where mk::o:OA X e f
@[simp] def gA:lp:=λρ=>some (none,ρ)
@[simp] def cu (f:aA):lp:=λρ=>match f ρ with
 | some (.int i,_,ac)=>some (some i,ac)
 | _=>none
theorem PO.imp{e:Option Expr}{t t':TO}(h:PO X e t)(i:∀ σ H Q,t' σ H Q->t σ H Q):PO X e t':=λZ_ s σ H Q I q=>h Z_ s σ H Q I (i σ H Q q)
theorem ke:p_ X none gA:=⟨PO.imp LS λσ H Q ak=>by obtain⟨ρ,w,t,o,aB,gd,ee,k⟩:=ak;cases ee;exact k H w gd Go.refl⟩
theorem eA(h:QD X e f):p_ X (some e) (cu f):=⟨have h:=h.o;PO.imp (LU h) λσ H Q ak=>by
 obtain⟨ρ,w,t,o,aB,gd,ee,k⟩:=ak;unfold cu at ee;split at ee;next i q1 ac h1=>
  cases ee;exact⟨ρ,w,t,_,_,_,gd,h1,λv H1 w1 F1 g1 aJ r1=>⟨i,dZ r1,k H1 (cm t w1) g1.drop (aJ.drop gd.wt)⟩⟩
 .cases ee⟩
section
variable {prog:Program}{w:World}{A:Around}{E:Y0}{s:Shared}
theorem OB{t sl:Addr}{us:Array Value}{vl vu:Value}{lo hi:Option Int}(ht:IsTup s.heap t us)(hs:s.heap.IsSliceOf sl vl vu .none)(pl:IsPart vl lo)(pu:IsPart vu hi)
  (hw:HT.bo us.size 0 lo=0/\HT.bo us.size us.size hi=us.size) (h:Q (.ref t) s):wpAny (model prog w) A (getItem (.ref t) (.ref sl)) Q E s:=by
 obtain⟨os,qP,xB,uS⟩:=id hs;have ts:s.TypeIs (.ref sl) "slice":=⟨os,qP,xB⟩;unfold getItem
 try with_reducible refine ZI ?_
 first|refine Qb (Ql ?_)|skip
 refine Qb (wpAny_sequenceKey ht.typeIs (by decide) (Qb (ZL (name:=Str.ofString "__getitem__") ht.typeIs Q3 (Jr Q3 ht.typeIs entry_tuple_getitem ?_ (args_tuple_getitem _ _)))));show wpAny _ _ (Builtin.Tuple.tupleItemsOf (.ref t) >>= _) _ _ s;refine Qb (tupleItemsOf_ ht (Qb (Yo ts ?_)));rw[Qk (by decide)];refine Qb (HT.DU hs pl pu ?_);have yes:(((HT.bo us.size 0 lo:Nat):Int)==0&&(1:Int)==1&&(HT.bo us.size us.size hi-HT.bo us.size 0 lo)==us.size)=true:=by rw[hw.1,hw.2];simp
 show wpAny _ _ (if(((HT.bo us.size 0 lo:Nat):Int)==0&&(1:Int)==1&&(HT.bo us.size us.size hi-HT.bo us.size 0 lo)==us.size)=true then _ else _) _ _ s;rw[Qk yes];refine Qb (m:=Builtin.Tuple.tupleIsExact _) ?_;unfold Builtin.Tuple.tupleIsExact;refine Qb (Yo ht.typeIs (Ql ?_));rw[Qk (by decide)];exact Qb (wpAny_rule (Ql ⟨_,rfl,Ql h⟩))
end
def lu (xs:List D)(lo hi:Option Int):List D:=(xs.drop (HT.bo xs.length 0 lo)).take (HT.bo xs.length xs.length hi-HT.bo xs.length 0 lo)
@[simp] def tJ (fa:aA)(fl fh:lp):aA:=λρ=>match fa ρ with
 | some (.tup ds,_,ac)=>match fl ac with
  | some (lo,ad)=>match fh ad with
   | some (hi,dI)=>some (.tup (lu ds lo hi),9,dI)
   | none=>none
  | none=>none
 | _=>none
theorem ag.my{H:Hp}{w:Wn}:∀ {ds:List D} {vs:List V} (i:Nat),ag K H w .f 0 ds vs []->ag K H w .f 0 (ds.take i) (vs.take i) []
 | _,_,0,_=>by rw[List.take_zero,List.take_zero];exact .nil
 | ds,vs,i+1,r=>by
  generalize hF:([]:List Addr)=F at r;cases r with
  | nil=>exact .nil
  | cons r s _=>
   have h2:=s.zero;have h1:=r.zero;subst h2;subst h1;exact .cons (F:=[]) (G:=[]) r (ag.my i s) nM
theorem OC:oh X (λx lo hi H Q=>∃ a xs,x=.ref a/\dv X.K H a xs/\(HT.bo xs.length 0 lo=0/\HT.bo xs.length xs.length hi=xs.length)/\Q (.ref a) H):=by
 intro Z_ s σ H x v vl vu lo hi sl Q I rx hs pl pu h;obtain⟨a,xs,rfl,hx,hw,q⟩:=h;cases rx;obtain⟨ar,r,ht,hz⟩:=I.tuple hx;have hlen:ar.toArray.size=xs.length:=by rw[Qi];exact r.length.symm
 exact⟨"tuple",_,Q3.lookup,ht.typeIs,OB ht hs pl pu (by rw[hlen];exact hw) ⟨.ref a,H,I,rfl,q⟩⟩
theorem EZ{lo hi:Option Expr}{fl fh:lp}(ha:QD X a fa)(hl:p_ X lo fl)(hh:p_ X hi fh):QD X (.Subscript a (.Slice lo hi none p2) pos) (tJ fa fl fh):=⟨have ha:=ha.o;have hl:=hl.o;have hh:=hh.o;PE.imp (zW (OC.or LX) ha hl hh) λσ H Q ak=>by
 obtain⟨ρ,w,t,r',q,aB,gd,ee,k⟩:=ak;unfold tJ at ee;split at ee;next ds q1 ac h1=>
  split at ee;next lo ad h2=>
   split at ee;next hi dI h3=>
    cases ee;refine⟨ρ,w,t,_,_,_,gd,h1,λv H1 w1 F1 g1 aJ r1=>?_⟩;have rS:=g1.drop (t':=t);have r0:=r1.drop (o:=.f) (Qf t);refine⟨ac,cm t w1,t,_,_,rS,h2,λH2 w2 g2 bb=>⟨ad,w2,t,_,_,g2,h3,λH3 w3 g3 iw=>?_⟩⟩;have r3:=(r0.j7 rS.wl bb.bw).j7 g2.wl iw.bw;obtain⟨p1,vs,rfl,mx,s1⟩:=r3.fA;have l1:=s1.length;by_cases hw:HT.bo ds.length 0 lo=0/\HT.bo ds.length ds.length hi=ds.length
    .have ec:lu ds lo hi=ds:=by unfold lu;rw[hw.1,hw.2,YD,YN,Yg]
     rw[ec]at k;refine .inl ⟨p1,vs,rfl,mx,by rw[<- l1];exact hw,?_⟩;exact k _ H3 w3 [] g3.up (((aJ.drop gd.wt).trans bb).trans iw) ((Rep.go g3.wl (λa x e n=>⟨sm e,n⟩) r3 nM:Rep X.K H3 w3 (.t t) 0 _ _ []).dk rfl |>.2 9)
    .refine .inr ⟨p1,vs,rfl,mx,by rw[<- l1];exact hw,λp hp=>?_⟩;have s4:ag X.K H3 w3 .f 0 (lu ds lo hi) (nq vs lo hi) []:=by unfold lu nq;rw[<- l1];exact(s1.mf _).my _
     obtain⟨a1,a2,a3⟩:=rm g3 hp s4;exact k _ _ _ _ a1 ((((aJ.drop gd.wt).trans bb).trans iw).trans a2) a3
   .cases ee
  .cases ee
 .cases ee⟩
end
section
variable {X:Cx}{k b n:Nat}{a c e tg:Expr}{es:List Expr}{pt:eo}{ps:oJ}{pos:Pos}{fa fb f:aA}
theorem E1{p q r:eo}:∀ ds ρ aB,dz p (dz q (dz r jC)) ds ρ=some aB->ds.length=3:=λds ρ aB h=>by
 match ds with
 | []=>cases h
 | [_]=>unfold dz at h;simp at h;split at h<;>cases h
 | [_,_]=>unfold dz at h;simp at h;split at h;(split at h<;>cases h);cases h
 | [_,_,_]=>rfl
 | _::_::_::_::_=>
  exfalso;unfold dz at h;simp at h;split at h
  .split at h
   .split at h<;>cases h
   .cases h
  .cases h
@[simp] def vC (f:aA)(pt:eo):aH:=λρ=>match f ρ with
 | some (d,_,ac)=>match pt d ac with
  | some ad=>some (.nx ad)
  | none=>none
 | none=>none
theorem OE(he:QD X e f)(hg:pV X 0 tg pt)(hs:swapsWithSole [tg] e pos.line X.env=pure false:=by rfl)(hw:swappedStores [tg] e X.env=pure none:=by rfl)(h1:(assignEach [tg] X.env).map (·.2)=[assign tg X.env]:=by rfl):j6 X (.Assign [tg] e pos) (vC f pt):=⟨have he:=he.o;have hg:=hg.o;PS.imp (Dz he hg hs hw h1) λD σ H ak=>by
 obtain⟨ρ,w,o,g,ee,k⟩:=ak;unfold vC at ee;split at ee;next d q ac h1=>
  split at ee;next ad h2=>
   cases ee;refine⟨ρ,w,0,d,q,ac,g,h1,λv H1 w1 F1 g1 aJ r1=>?_⟩;exact⟨d,ac,cm 0 w1,0,ad,g1.drop,r1.drop (Qf 0),h2,λaP H' w' hl _ g' fP=>k aP H' w' hl g' ((aJ.drop g.wt).trans fP)⟩
  .cases ee
 .cases ee⟩
end
theorem OF:fillsNumberSlot (.type "tuple") "mul" = pure false:=PySem.fillsNumberSlot_seq (id:="tuple.__mul__") (r:=some (.builtin "tuple.__rmul__")) Jt.lookup (by decide +kernel) F.slot_tuple_rmul.lookup (by decide +kernel)
theorem OG:seqRepeat? (.type "tuple")=pure (some (.builtin "tuple.__mul__")):=by unfold seqRepeat?;rw[PySem.seqSlot_of (T:="tuple") (name:="__mul__") (id:="tuple.__mul__") Jt.lookup (by decide +kernel),PySem.seqSlot_of (T:="tuple") (name:="__rmul__") (id:="tuple.__rmul__") F.slot_tuple_rmul.lookup (by decide +kernel)];rfl
theorem OH(a:Int)(t:Tok)(l:Addr)(us:Array Value)(n:Nat)(dd:Option Addr)(sl:Array (Option Value)) :
  Meets (Builtin.«int.__rmul__» ⟨[.int a t,.ref l],[]⟩) (λ_ R s=>s.heap.get? l=some { cls:=.type "tuple",dict:=dd,data:=.seq us n,slots:=sl }/\R (.ok (.ret Value.notImplemented)) s):=.of_wp λprog w A R s h=>by
 obtain⟨hp,g,d,tk,os⟩:=s;obtain⟨hl,h⟩:=h;wp_walk
 exact⟨_,rfl,h⟩
theorem OI(t:Tok)(l:Addr)(us:Array Value)(n:Nat)(dd:Option Addr)(sl:Array (Option Value)) :
  Meets (Builtin.«tuple.__mul__» ⟨[.ref l,.int 1 t],[]⟩) (λ_ R s=>s.heap.get? l=some { cls:=.type "tuple",dict:=dd,data:=.seq us n,slots:=sl }/\R (.ok (.ret (.ref l))) s):=.of_wp λprog w A R s h=>by
 obtain⟨hp,g,d,tk,os⟩:=s;obtain⟨hl,h⟩:=h;have f1:=AutoSeq1.idx_int;wp_walk using wpAny_loadPart' hl
 exact⟨_,rfl,h⟩
theorem OJ(k:Int)(t:Tok)(l:Addr)(us:Array Value)(n:Nat)(dd:Option Addr)(sl:Array (Option Value))(h2:¬ (decide (k < -(2 ^ 63))||decide (k ≥ 2 ^ 63))=true)(h3:¬ (us.isEmpty||k==1)=true)(h4:¬ (decide (k<=0)||us.isEmpty)=true)(h5:¬ (us.size:Int)*k > (2 ^ 63-1) / 8)(h6:¬ Builtin.Tuple.tupleTooMany ((us.size:Int)*k)=true)(hsz:(List.foldl (· ++ ·) #[] (replicate k.toNat us)).size<=sizeLine) :
  Meets (Builtin.«tuple.__mul__» ⟨[.ref l,.int k t],[]⟩) (λ_ R s=>s.heap.get? l=some { cls:=.type "tuple",dict:=dd,data:=.seq us n,slots:=sl }/\R (.ok (.ret (.ref s.heap.objs.size))) { s with heap:=s.heap.push { cls:=.type "tuple",data:=.seq (List.foldl (· ++ ·) #[] (replicate k.toNat us)) } }):=.of_wp λprog w A R s h=>by
 obtain⟨hp,g,d,tk,os⟩:=s;obtain⟨hl,h⟩:=h;have f1:=AutoSeq1.idx_int;wp_walk using wpAny_loadPart' hl
 rw[Qw h2];wp_walk using wpAny_loadPart' hl
 rw[Qw h5];wp_walk using wpAny_loadPart' hl
 exact⟨_,rfl,h⟩
section
variable {X:Cx}{a b c e:Expr}{fa fb fc f:aA}{pos:Pos}
theorem OK:cN X (binaryOp .Mult) (λx y H Q=>∃ a k xs,x=.ref a/\y=.int k/\dv X.K H a xs/\xs ≠ []/\1<=k/\xs.length*k.toNat<=1000/\(k=1->Q (.ref a) H)/\(k≠1->∀ p,H p=none->Q (.ref p) (upd H p (.tup (replicate k.toNat xs).flatten)))):=by
 intro Z_ s σ H x y v u Q I rx ry h;obtain⟨l,k,xs,rfl,rfl,hq,eH,h1,hz,q1,q2⟩:=h;cases rx;obtain⟨t,rfl⟩:=ry;obtain⟨ar,r,pt,_⟩:=I.tuple hq;obtain⟨⟨c1,d1,a1,s1⟩,e,mv,n1,vB⟩:=id pt;simp only at mv vB;subst mv vB;have hl:=r.length;have mz:0<ar.length:=by rw[<- hl];exact JH.mpr eH
 refine J1 (T:="tuple") (U:="int") (by decide) ⟨_,e,rfl⟩ (λs'=>Yp s' k t) OF F.fills_int_mul JC OG F.slot_int_index.lookup
  (Zs JC (Yp s k t) F.entry_int_rmul (F.args_int_rmul_2 _ _) (OH k t l ar.toArray n1 d1 s1) ⟨e,rfl,⟨_,e,rfl⟩,?_⟩)
 by_cases hk:k=1
 .subst hk;exact Zs Jt ⟨_,e,rfl⟩ F.entry_tuple_mul (F.args_tuple_mul_2 _ _) (OI t l ar.toArray n1 d1 s1) ⟨e,⟨.ref l,H,I,rfl,q1 rfl⟩⟩
 .have hm:ar.length*k.toNat<=1000:=by rw[<- hl];exact hz
  have Xo:k.toNat<=1000:=by have:=Nat.le_mul_of_pos_left k.toNat mz;omega
  have f0:List.foldl (λx1 x2=>x1++x2) #[] (replicate k.toNat ar.toArray)=(replicate k.toNat ar).flatten.toArray:=by have:=z_ ar k.toNat [];rw[Yt]at this;exact this
  have lf:(replicate k.toNat ar).flatten.length<=1000:=by rw[Aa,YL];exact hm
  have em:((ar.toArray.size:Nat):Int)*k=((ar.length*k.toNat:Nat):Int):=by rw[Qi,Int.natCast_mul,YJ (by omega)]
  refine Zs Jt ⟨_,e,rfl⟩ F.entry_tuple_mul (F.args_tuple_mul_2 _ _) (OJ k t l ar.toArray n1 d1 s1 (by simp;omega) (by simp[hk];exact J2 mz) (by simp;exact⟨by omega,J2 mz⟩) (by rw[em];omega) (by
   unfold Builtin.Tuple.tupleTooMany;rw[em];simp only[gt_iff_lt,Zl,Int.not_lt];have:(1000:Nat)<=sizeLine:=by decide
   omega) (by rw[f0,Qi];exact pR lf)) ⟨e,?_⟩
  rw[f0];refine⟨.ref s.heap.objs.size,_,I.laid (t':=s.toks) (o:=.tup (replicate k.toNat xs).flatten) (λb ob q=>Qh _ q) (Qf _) ?_,rfl,q2 hk _ (I.aK.fresh (Qf _))⟩;exact⟨pR (by rw[Aa,YL];exact hz),_,r.rep k.toNat,jS.new _ _⟩
@[simp] def Bg (fa fb:aA):aA:=λρ=>match fa ρ with
 | some (.tup ds,_,ac)=>match fb ac with
  | some (.int n,_,ad)=>if ds.isEmpty=false/\1<=n/\ds.length*n.toNat<=1000 then some (.tup (replicate n.toNat ds).flatten,9,ad)else none
  | _=>none
 | _=>none
theorem OL(ha:QD X a fa)(hb:QD X b fb):QD X (.BinOp a .Mult b pos) (Bg fa fb):=⟨have ha:=ha.o;have hb:=hb.o;PE.imp (nk OK ha hb) λσ H Q ak=>by
 obtain⟨ρ,w,t,r',q,aB,gd,ee,k⟩:=ak;unfold Bg at ee;split at ee;next ds q1 ac h1=>
  split at ee;next n q2 ad h2=>
   split at ee;next hl=>
    cases ee;obtain⟨hd,hn,hz⟩:=hl;refine pO gd h1 h2 λu u' H2 w2 F1 F2 g2 go r1 r2=>?_;have rR:=r1.drop (o:=.f) (Qf t);have gg:=g2.drop (t':=t);have p9:=go.drop gd.wt;obtain⟨p1,vs,rfl,mx,s1⟩:=rR.fA;have l1:=s1.length;refine⟨p1,n,vs,rfl,dZ r2,mx,λz=>?_,hn,by rw[<- l1];exact hz,λz=>?_,λ_ p hp=>?_⟩
    .subst z;have:ds=[]:=Zx.mp l1;subst this;cases hd
    .subst z;have e:(replicate (Int.toNat 1) ds).flatten=ds:=by show(replicate 1 ds).flatten=ds;simp
     rw[e]at k;exact k _ H2 (cm t w2) [] gg.up p9 ((Rep.go gg.wl (λa x e n=>⟨sm e,n⟩) rR nM:Rep X.K H2 (cm t w2) (.t t) 0 _ _ []).dk rfl |>.2 9)
    .obtain⟨a1,a2,a3⟩:=rm gg hp (s1.times n.toNat);exact k _ _ _ _ a1 (p9.trans a2) a3
   .cases ee
  .cases ee
 .cases ee⟩
end
section
variable {X:Cx}{a b c e:Expr}{es:List Expr}{fa fb fc f:aA}{ga gb:cy}{g:bQ}{pos p p1 p2 az apos:Pos}
theorem tK{i:Int}(h:∃ t,X.mg x=some (.int i t))(hg:Gl X x:=by rfl)(hd:(x==("__debug__":Str))=false:=by decide):QD X (.Name x pos) (eC (.int i)):=⟨by obtain⟨t,h⟩:=h;exact u9 (Dr (v:=.int i) hg h ⟨t,rfl⟩ hd) λ_ _ _ _ _=>.int i⟩
theorem OM(ho:cN X (compareOp op) (kD h1))(gK:cN X (compareOp ky) (kD h2))(e1:∀ i j d,g1 i j=some d->kG d=some (h1 i j))(rO:∀ i j d,g2 i j=some d->kG d=some (h2 i j))
  (ha:PD X a fa) (hb:PD X b fb) (hc:PD X c fc) (hm:lastMarks [op,ky] [b,c]=false:=by with_unfolding_all rfl):AK X (.Compare a [op,ky] [b,c] pos) (bM (nB (gI g1) (gI g2) fa fb fc)):=PT.imp (Lo ho gK ha hb hc hm) (Ei λσ H Q ak=>by
 obtain⟨ρ,w,t,r',q,aB,gd,ee,k⟩:=ak;unfold nB at ee;split at ee;next x q1 ac a1=>
  split at ee;next y q2 ad a2=>
   refine pO gd a1 a2 λu v H2 w2 F1 F2 vA bb r1 r2=>?_;have gg:=vA.drop (t':=t);split at ee;next hg=>
    obtain⟨i,j,rfl,rfl,mr⟩:=pQ hg;refine⟨i,j,dZ r1,dZ r2,true,by have:=e1 i j _ mr;simpa [kG]using this.symm,?_⟩;rw[Qk rfl];split at ee;next z q3 dI a3=>
     refine⟨ad,cm t w2,t,z,q3,dI,gg,a3,λv3 H3 w3 F3 g3 iw r3=>?_⟩;split at ee;next d hd=>
      cases ee;obtain⟨j',l,ej,rfl,nh⟩:=pQ hd;cases ej;exact⟨j,l,dZ r2,dZ r3,rl k gd g3 ((bb.drop gd.wt).trans iw) (xV (rO j l _ nh))⟩
     .cases ee
    .cases ee
   next hg=>
    obtain⟨i,j,rfl,rfl,mr⟩:=pQ hg;cases ee;refine⟨i,j,dZ r1,dZ r2,false,by have:=e1 i j _ mr;simpa [kG]using this.symm,?_⟩;rw[Qw (by decide)];exact rl k gd vA bb (.bl false)
   .cases ee
  .cases ee
 .cases ee)
theorem ON(ha:QD X a fa)(hb:QD X b fb)(hc:QD X c fc)(hm:lastMarks [.LtE,.LtE] [b,c]=false:=by with_unfolding_all rfl):iI X (.Compare a [.LtE,.LtE] [b,c] pos) (bM (nB ny ny fa fb fc)):=⟨have ha:=ha.o;have hb:=hb.o;have hc:=hc.o;OM uM uM (λi j d h=>by cases h;rfl) (λi j d h=>by cases h;rfl) ha hb hc hm⟩
def Bh:D->D->Option D:=gI λi j=>if 0<=j/\j<=1000/\i.natAbs<1000000 then some (.int (i ^ j.toNat))else none
theorem OO(ha:QD X a fa)(hb:QD X b fb):QD X (.BinOp a .Pow b pos) (e2 Bh fa fb):=⟨have ha:=ha.o;have hb:=hb.o;PE.imp (nk Lg ha hb) (xW λi j d h=>by
 split at h;next hc=>
  cases h;exact⟨⟨hc.1,by omega,Zj hc.2.2 (by decide)⟩,rfl⟩
 .cases h)⟩
@[simp] def rT (i:Nat)(f:aA):aA:=λρ=>if rL ρ[i]? = true then match f ρ with
 | some (.lst es,1,ac)=>match ac[i]? with
  | some (some (.lst ds,1))=>if ds.length+es.length<=1000 then some (.aO,9,ac.set i (some (.lst (ds++es),1)))else none
  | _=>none
 | _=>none
 else none
theorem Bi(h:QE X (.Name x p1) (jV i))(ha:QD X e f)(bS:attributeBase (.Name x p1) "extend" X.env (eval (.Name x p1) X.env)=eval (.Name x p1) X.env:=by rfl)(di:((backTo az (starEach [e] X.env)).all (λx=>!x.1)&&(backToKw az (keywordEach [] X.env)).all (λx=>x.1.isSome)
   && decide ([e].length+([]:List Keyword).length+(if([]:List Keyword).isEmpty then 0 else 1)<30))=true:=by rfl) (bT:(apos.endLine==az.line)=true:=by rfl) (hs:starEach [e] X.env=(false,eval e X.env)::starEach [] X.env:=by rfl) (bg:(backTo az (starEach [] X.env)).any (·.1)=false:=by rfl):QD X (.Call (.Attribute (.Name x p1) "extend" apos) [e] [] az) (rT i f):=⟨have h:=h.o;have ha:=ha.o;PE.imp (om Zw PySem.F.slot_list_extend PySem.F.type_list_extend Mq h (kE ha n9 hs) bS di bT hs bg) λσ H Q ak=>by
 obtain⟨ρ,w,t,r',q,aB,gd,ee,k⟩:=ak;unfold rT at ee;split at ee;next hl=>
  obtain⟨l,iJ,us,hq⟩:=gd.cI hl;split at ee;next uE ac h1=>
   split at ee;next ds e1=>
    split at ee;next hlen=>
     cases ee;refine⟨_,iJ,.inl ⟨rfl,us,hq⟩,ρ,w,t,_,_,_,gd,h1,λv H1 w1 F1 g1 aJ r1=>?_⟩;obtain⟨l',ws,e_,hH,rs,mk⟩:=g1.mut e1;rw[iJ]at e_;cases e_;obtain⟨_,_,rfl,_,rfl,hb,_,rz,_⟩:=r1.inv
     .have z0:=rz.zero;subst z0;have E2:ag X.K H1 w1 .f 0 uE _ []:=rz.any g1.wl;obtain⟨m1,m2⟩:=mk _ _ (E2.app rs);refine⟨l,_,ws,_,rfl,rfl,hH,hb,pR (by rw[<- rs.length,<- E2.length];exact hlen),?_⟩;exact k .aO _ w1 [] m1 (aJ.trans m2) .aO
    .cases ee
   .cases ee
  .cases ee
 .cases ee⟩
end
section
variable {X:Cx}{a b c e:Expr}{es:List Expr}{fa fb fc f:aA}{ga gb gc:cy}{g:bQ}{qa qb:nA}{s:aH}{pos p p1 p2 az apos:Pos}
@[simp] def tL:aH:=λ_=>none
theorem Bj:j6 X st tL:=⟨PS.imp KJ λD σ H ak=>by obtain⟨ρ,w,o,g,ee,k⟩:=ak;cases ee⟩
@[simp] def Xp (n:Nat)(qi:nA)(fe:aA):aH:=λρ=>match fe ρ with
 | some (d,_,ac)=>match qi ac,ac[n]? with
  | some i,some (some (.lst ds,1))=>match iU ds.length i with
   | some m=>some (.nx (ac.set n (some (.lst (ds.set m d),1))))
   | none=>none
  | _,_=>none
 | none=>none
def OP (K:PySem.W.Frag):R2:=λx y H Q=>∃ l b xs zs,x=.ref l/\y=.ref b/\cM K H l xs/\cM K H b zs/\xs.length+zs.length<=sizeLine/\∀ p,H p=none->Q (.ref p) (upd H p (.lst (xs++zs)))
theorem OQ:cN X (binaryOp .Add) (OP X.K):=by
 intro Z_ s σ H x y v u Q I rx ry h;obtain⟨l,b,xs,zs,rfl,rfl,hH,hB,hz,q⟩:=h;cases rx;cases ry;obtain⟨ar,r,pl,z⟩:=I.list hH;obtain⟨gN,r2,OR,z2⟩:=I.list hB;obtain⟨⟨cls,dd,data,sl⟩,n,ho,hc,_,hd⟩:=pl;obtain⟨⟨zV,xy,data2,xA⟩,n2,qO,k9,_,hd2⟩:=OR;simp only at hc hd k9 hd2;subst hc hd k9 hd2;have l1:=r.length;have l2:=r2.length;refine Yn ⟨_,ho,rfl⟩ ⟨_,qO,rfl⟩ noFill_list_add seq_list_add PySem.F.slot_list_add PySem.F.entry_list_add (PySem.F.args_list_add_2 _ _) (list_addW l b ar.toArray gN.toArray n n2 dd xy sl xA (by rw[Qi,Qi,<- l1,<- l2];exact hz)) ⟨ho,qO,?_⟩;have e:ar.toArray++gN.toArray=(ar++gN).toArray:=by simp
 rw[e];exact⟨.ref _,_,I.qT (t':=s.toks) (r.append r2) (by rw[Qe];omega),rfl,q _ I.fresh⟩
@[simp] def kO (fa fb:aA):aA:=λρ=>match fa ρ with
 | some (.lst ds,_,ac)=>match fb ac with
  | some (.lst es,_,ad)=>if ds.length+es.length<=1000 then some (.lst (ds++es),1,ad)else none
  | _=>none
 | _=>none
theorem qc(ha:QD X a fa)(hb:QD X b fb):QD X (.BinOp a .Add b pos) (kO fa fb):=⟨have ha:=ha.o;have hb:=hb.o;PE.imp (nk OQ ha hb) λσ H Q ak=>by
 obtain⟨ρ,w,t,r',q,aB,gd,ee,k⟩:=ak;unfold kO at ee;split at ee;next ds q1 ac h1=>
  split at ee;next es q2 ad h2=>
   split at ee;next hl=>
    cases ee;refine pO gd h1 h2 λu u' H2 w2 F1 F2 g2 go r1 r2=>?_;have rR:=r1.drop (o:=.f) (Qf t);have yj:=r2.drop (o:=.f) (Z2 t);have gg:=g2.drop (t':=t);have p9:=go.drop gd.wt;obtain⟨p1,vs,rfl,mx,s1⟩:=rR.d_;obtain⟨p2,us,rfl,yk,s2⟩:=yj.d_;refine⟨p1,p2,vs,us,rfl,rfl,mx,yk,pR (by rw[<- s1.length,<- s2.length];exact hl),λp hp=>?_⟩;obtain⟨a1,a2,a3⟩:=pP gg hp (s2.app s1);exact k _ _ _ _ a1 (p9.trans a2) a3
   .cases ee
  .cases ee
 .cases ee⟩
end
theorem OS{prog:Program}{w:World}{A:Around}(hh:A.handled=none)(it p:Addr)(eH:p≠it)(items:Array Value) :
  Draws prog w A it [it,p] items.size (λi v=>items[i]? = some v) (λi h=>h.IsTupleIter it p i/\h.IsTuple p items) where
 live:=λ_ _ st=>by obtain⟨⟨o,ho,_⟩,_⟩:=st;exact⟨o,ho⟩
 frame:=λ_ _ _ st hk=>by obtain⟨a,⟨o,e,r⟩⟩:=st;exact⟨a.at λo e=>hk it (by simp) o e,⟨o,hk p (by simp) o e,r⟩⟩
 item:=λi s Q E hi st hQ=>by refine Oa st.1 st.2 (v:=items[i]) (by simp[hi]) λh' Bk j0=>?_;exact hQ _ h' s.toks (by simp[hi]) ⟨Bk,st.2.extBut j0.extBut eH⟩ j0
 done:=λs Q E st hE=>Ob hh st.1 st.2 (by simp) hE
section
variable {prog:Program}{w:World}{A:Around}{E:Y0}{s:Shared}
theorem OT{p:Addr}{xs:Array Value}(t1:s.heap.IsTuple p xs)
  (k:∀ h',IsEnum h' (s.heap.objs.size+1) s.heap.objs.size 0 .none->h'.IsTupleIter s.heap.objs.size p 0->h'.objs.size=s.heap.objs.size+2->
    (∀ b o,s.heap.get? b=some o->h'.get? b=some o)->Q (.ref (s.heap.objs.size+1)) { s with heap:=h' }) :
  wpAny (model prog w) A (call (.type "enumerate") [.ref p]) Q E s:=by
 have mt:Meets (Builtin.«enumerate.__new__» ⟨[.type "enumerate",.ref p],[]⟩) (λ_ R s'=>s'=s /\
   R (.ok (.ret (.ref (s.heap.push { cls:=.type "tuple_iterator",data:=.fields #[.ref p,.int 0 0] }).objs.size)))
    { s with heap:=(s.heap.push { cls:=.type "tuple_iterator",data:=.fields #[.ref p,.int 0 0] }).push { cls:=.type "enumerate",data:=.fields #[.none,.bool false,.ref s.heap.objs.size,rawInt 0,.none,.none] } }):=.of_wp λprog w A R s' h=>by
  obtain⟨rfl,h⟩:=h;have dY:=sub_enumerate;obtain⟨hp,gn,dr,tk,os⟩:=s';have q1:Heap.IsTuple (Shared.heap ⟨hp,gn,dr,tk,os⟩) p xs:=t1;wp_walk using ZQ q1
  refine wpAny_stack_any λst=>Ql ?_;split;next c _ _ _ _ _=>
   cases (c==Value.type "enumerate")
   .wp_walk using ZQ q1
    exact⟨_,rfl,h⟩
   .wp_walk using ZQ q1
    exact⟨_,rfl,h⟩
  .wp_walk using ZQ q1
   exact⟨_,rfl,h⟩
 refine callType_new F.called_enumerate (by decide) (F.typeCall_enumerate_1 _) (F.newCall_enumerate_1 _) (λobj=>F.args_object_init_2 obj _) F.entry_enumerate_new mt ⟨rfl,?_⟩;have hz:(s.heap.push { cls:=.type "tuple_iterator",data:=.fields #[.ref p,.int 0 0] }).objs.size=s.heap.objs.size+1:=Zi ..;show _/\_;rw[hz];have he:IsEnum ((s.heap.push { cls:=.type "tuple_iterator",data:=.fields #[.ref p,.int 0 0] }).push
   { cls:=.type "enumerate",data:=.fields #[.none,.bool false,.ref s.heap.objs.size,rawInt 0,.none,.none] }) (s.heap.objs.size+1) s.heap.objs.size 0 .none:=by
  have:=Qy (s.heap.push { cls:=.type "tuple_iterator",data:=.fields #[.ref p,.int 0 0] })
   (o:={ cls:=.type "enumerate",data:=.fields #[.none,.bool false,.ref s.heap.objs.size,rawInt 0,.none,.none] }) rfl
  rw[hz]at this;exact this
 exact⟨⟨_,he,rfl⟩,k _ he ⟨_,Qh _ (Qy _ rfl),rfl,rfl⟩ (by rw[Zi,hz]) λb o x=>Qh _ (Qh _ x)⟩
end
structure Src (P:Program) (w:World) (K:PySem.W.Frag) (it p:Addr) (Sq:Hp->List V->Prop) (tn:Nat->Heap->Prop):Prop where
 keep:∀ i h h',tn i h->(∀ o,h.get? it=some o->h'.get? it=some o)->tn i h'
 obj:∀ i h,tn i h->∃ o vs,h.get? it=some o/\o.data=.fields vs
 draw:∀ (X:Cx),X.prog=P->X.w=w->X.K=K->X.calm=true->∀ (Z_:List (Addr×Obj)) (s:Shared) (σ:St) (H:Hp) (xs:List V),Inv X Z_ σ H s->Sq H xs->∃ (us:List Value) (St:Nat->Heap->Prop),bf xs us /\
  Draws P w X.A.in1 it [it,p] us.length (λi v=>us[i]? = some v) St/\(∀ i,tn i s.heap->St i s.heap)/\(∀ i h,St i h->tn i h)/\∀ ys,Sq H ys->ys=xs
theorem OU{w:World}{p:Addr}(eH:p≠it):Src P w K it p (λH xs=>cM K H p xs) (λi h=>h.IsListIter it p i) where
 keep:=λi h h' st k=>st.at k
 obj:=λi h st=>by obtain⟨o,e,c,d⟩:=st;exact⟨o,_,e,d⟩
 draw:=λX hP hw hK hc Z_ s σ H xs I hq=>by subst hP hw hK;obtain⟨ar,rv,pl,_⟩:=I.list hq;have D:=Draws.list (prog:=X.prog) (w:=X.w) (A:=X.A.in1) (I.ok.hd hc) it p eH ar.toArray;rw[Qi]at D;exact⟨ar,(λi h=>h.IsListIter it p i/\h.IsList p ar.toArray),rv,(by simpa using D),λi st=>⟨st,pl.isList⟩,λi h st=>st.1,λys hy=>I.iR hy hq⟩
theorem OV{w:World}{p:Addr}(eH:p≠it):Src P w K it p (λH xs=>dv K H p xs) (λi h=>h.IsTupleIter it p i) where
 keep:=λi h h' st k=>st.at k
 obj:=λi h st=>by obtain⟨o,e,c,d⟩:=st;exact⟨o,_,e,d⟩
 draw:=λX hP hw hK hc Z_ s σ H xs I hq=>by subst hP hw hK;obtain⟨ar,rv,pl,_⟩:=I.tuple hq;have D:=OS (prog:=X.prog) (w:=X.w) (A:=X.A.in1) (I.ok.hd hc) it p eH ar.toArray;rw[Qi]at D;exact⟨ar,(λi h=>h.IsTupleIter it p i/\h.IsTuple p ar.toArray),rv,(by simpa using D),λi st=>⟨st,pl⟩,λi h st=>st.1,λys hy=>I.gZ hy hq⟩
def vD (Sq:Hp->List V->Prop):It:=
 ⟨λi H=>∃ xs x,Sq H xs/\xs[i]? = some x,
  λi H v H'=>∃ T x,v=.ref T/\H T=none/\(∀ xs,Sq H xs->xs[i]? = some x)/\H'=upd H T (.tup [.int (Int.ofNat i),x]),
  λi H=>∃ xs,Sq H xs/\xs.length=i⟩
theorem OW{w:World}{elts:List Expr}{kt:Nat}{tp:Pos}{e p:Addr}{tn:Nat->Heap->Prop}(S:Src P w K it p Sq tn)(eH:e≠it)(hp:e≠p) :
  Turn P w K (.Tuple elts kt tp) (vD Sq) [e,it] e (λi h=>(∃ old,IsEnum h e it i old)/\tn i h) where
 mem:=by simp
 obj:=λi h st b hb=>by
  obtain⟨⟨old,he⟩,st⟩:=st;simp only[Qp,QJ,or_false]at hb;rcases hb with rfl|rfl
  .exact⟨_,he,λv e=>nomatch e⟩
  .obtain⟨o,vs,e,d⟩:=S.obj i h st;exact⟨o,e,λv z=>by rw[d]at z;cases z⟩
 keep:=λi h h' st k=>by obtain⟨⟨old,he⟩,st⟩:=st;exact⟨⟨old,k e (by simp) _ he⟩,S.keep i h h' st λo z=>k it (by simp) o z⟩
 item:=by
  intro X hP hw hK hc i Z_ s σ H E I hf st hg;obtain⟨⟨old,he⟩,st⟩:=st;obtain⟨xs,x,hq,hx⟩:=hg;obtain⟨us,St,rv,D,s1,s2,inj⟩:=S.draw X hP hw hK hc Z_ s σ H xs I hq;obtain⟨u,hu,ru⟩:=rv.get hx;have eN:i<us.length:=(Qs.mp hu).1;refine wpAny_pyNext_enum_itemD D he (s1 i st) eN eH (by simp[eH,hp]) λu' g tk E3 ho j0 hT hsz hk=>?_;have eu:u'=u:=by rw[hu]at E3;exact(QM E3).symm
  subst eu;refine⟨_,rfl,wpAny_letOwnedTupleGo_enum (s:={ s with heap:=g,toks:=tk+1 }) ho λg' OY sb=>?_⟩;have Bl:Heap.SameBut e g g':=sb;have fr:H s.heap.objs.size=none:=I.aK.fresh (Qf _);have ri:cE (.int (Int.ofNat i)) (.int i tk):=⟨tk,rfl⟩;have I1:Inv X Z_ σ (upd H s.heap.objs.size (.tup [.int (Int.ofNat i),x])) { s with heap:=s.heap.push { cls:=.type "tuple",data:=.seq #[.int i tk,u'] } }:=
   I.laid (t':=s.toks) (λb q e=>Qh _ e) (Qf _) (show d7 X.prog X.w _ _ _ (.tup _)from⟨(by show 2<=sizeLine;decide),[.int i tk,u'],.cons ri (.cons ru .nil),jS.new _ _⟩)
  have lt:∀ b ∈ [e,it],b<s.heap.objs.size:=λb hb=>by
   simp only[Qp,QJ,or_false]at hb;rcases hb with rfl|rfl
   .exact Qn he
   .obtain⟨o,_,e,_⟩:=S.obj i _ st;exact Qn e
  have hn:∀ b ∈ [e,it],upd H s.heap.objs.size (.tup [.int (Int.ofNat i),x]) b=none:=λb hb=>by rw[bR (QS (lt b hb))];exact(hf b hb).1
  have I2:Inv X Z_ σ (upd H s.heap.objs.size (.tup [.int (Int.ofNat i),x])) { s with heap:=g',toks:=tk+1 }:=Oc (s:={ s with heap:=s.heap.push { cls:=.type "tuple",data:=.seq #[.int i tk,u'] } }) (t':=tk+1) (ch:=[e,it]) I1 (λb q nb z=>by
   have b1:b≠e:=λh=>nb (by simp[h]);have b2:b≠it:=λh=>nb (by simp[h]);rcases Heap.get?_push_cases z with⟨rfl,rfl⟩|z'
   .exact Bl.extBut _ _ b1 hT
   .exact Bl.extBut _ _ b1 (hk b q b1 b2 z')) λb hb=>by obtain⟨f0,f1,f2,f3,f4,f5⟩:=hf b hb;exact⟨hn b hb,f1,f2,f3,f4,f5⟩
  refine⟨.ref s.heap.objs.size,_,I2,rfl,⟨s.heap.objs.size,x,rfl,fr,λzs hz=>?_,rfl⟩,⟨⟨_,OY⟩,?_⟩,hn⟩
  .rw[inj zs hz];exact hx
  .exact S.keep _ _ _ (s2 _ _ j0) λo z=>Bl.extBut _ _ (ZM eH) z
 done:=by
  intro X hP hw hK hc i Z_ s σ H E I hf st hg;obtain⟨⟨old,he⟩,st⟩:=st;obtain⟨xs,hq,hx⟩:=hg;obtain⟨us,St,rv,D,s1,s2,inj⟩:=S.draw X hP hw hK hc Z_ s σ H xs I hq;have hl:us.length=i:=by rw[<- rv.length];exact hx
  subst hl;refine wpAny_pyNext_enum_endD D he (s1 _ st) λg kp=>⟨rfl,?_⟩;obtain⟨f0,f1,f2,f3,f4,f5⟩:=hf it (by simp);exact I.turned (t':=s.toks) (λb o hb z=>kp b o hb z) f0 f1 f3 f4 f5
 self:=λ_ _ _ _ _ st h=>by obtain⟨⟨old,he⟩,_⟩:=st;exact wpAny_pyIter_enum he h
section
variable {X:Cx}{a b c e:Expr}{es elts:List Expr}{fa fb fc f:aA}{g:bQ}{pos p p1 p2 tp:Pos}{kt:Nat}
def OZ (K:PySem.W.Frag)(ta:TA):TI:=λσ H R=>ta σ H λvs H1=>∃ p,vs=[.ref p]/\(((∃ xs,cM K H1 p xs)/\R (vD λH xs=>cM K H p xs) H1)\/((∃ xs,dv K H1 p xs)/\R (vD λH xs=>dv K H p xs) H1))
theorem O0{ta:TA}(hg:Gl X "enumerate")(hm:X.mg "enumerate" = none)(ha:PA X [a] ta)(hs:starEach [a] X.env=[(false,eval a X.env)]:=by rfl) :
  PI X (.Tuple elts kt tp) (.Call (.Name "enumerate" p) [a] [] pos) (OZ X.K ta):=by
 intro Z_ s σ H R I h;refine Call_ (sZ I hg hm boot_enumerate (ZA (a_ (ha pos Z_ s σ H _ I h) λus s1 ⟨vs,H1,I1,r1,q1⟩=>?_) hs rfl));obtain⟨q,ee,hq⟩:=q1;subst ee;cases r1 with
 | cons r rr=>
  cases rr;cases r;have ne1:s1.heap.objs.size+1≠s1.heap.objs.size:=Nat.succ_ne_self _;have fin:∀ {g:Heap} {Sq:Hp->List V->Prop} {tn:Nat->Heap->Prop},q<s1.heap.objs.size->Src X.prog X.w X.K s1.heap.objs.size q Sq tn->IsEnum g (s1.heap.objs.size+1) s1.heap.objs.size 0 .none->tn 0 g->(∀ b o,s1.heap.get? b=some o->g.get? b=some o)->R (vD Sq) H1->
    wpAny (model X.prog X.w) X.A (pyIter (.ref (s1.heap.objs.size+1))) (zJ X Z_ σ (.Tuple elts kt tp) R) X.xe { s1 with heap:=g }:=λ{g Sq tn} lq S he ht kp hR=>by
   have ne2:s1.heap.objs.size+1≠q:=Nat.ne_of_gt (ZH lq);refine wpAny_pyIter_enum he ⟨s1.heap.objs.size+1,[s1.heap.objs.size+1,s1.heap.objs.size],_,_,H1,rfl,I1.kept (t':=s1.toks) kp,OW S ne1 ne2,⟨⟨_,he⟩,ht⟩,λb hb=>?_,hR⟩;have E4:s1.heap.objs.size<=b:=by
    simp only[Qp,QJ,or_false]at hb;rcases hb with rfl|rfl
    .exact Yf _ _
    .exact Qf _
   exact I1.n8 E4 (I1.aK.fresh E4)
  rcases hq with⟨⟨xs,hx⟩,hR⟩|⟨⟨xs,hx⟩,hR⟩
  .obtain⟨ar,rv,pl,_⟩:=I1.list hx;have lq:q<s1.heap.objs.size:=by obtain⟨_,e,_⟩:=pl.isList;exact Qn e
   exact call_enumerate_list pl.isList λg he hi _ kp=>fin lq (OU (QS lq)) he hi kp hR
  .obtain⟨ar,rv,pl,_⟩:=I1.tuple hx;have lq:q<s1.heap.objs.size:=by obtain⟨_,e,_⟩:=pl;exact Qn e
   exact OT (show s1.heap.IsTuple q ar.toArray from pl) λg he hi _ kp=>fin lq (OV (QS lq)) he hi kp hR
def nE (ds:List D):List D:=ds.zipIdx.map λx=>.tup [.int (Int.ofNat x.2),x.1]
theorem yl(ds:List D):(nE ds).length=ds.length:=by simp[nE]
theorem E5(ds:List D)(i:Nat):(nE ds)[i]? = (ds[i]?).map λd=>.tup [.int (Int.ofNat i),d]:=by
 simp only[nE,QO,YE,YF];cases ds[i]? with
 | none=>rfl
 | some d=>simp
@[simp] def tM (g:bQ):iZ:=λρ=>match g ρ with
 | some ([.lst ds],ac)=>if ds.length<=1000 then some (nE ds,ac)else none
 | some ([.tup ds],ac)=>if ds.length<=1000 then some (nE ds,ac)else none
 | _=>none
theorem It.enum{P:Hp->Wn->Prop}(hl:ds.length=vs.length)(sq:∀ H w,P H w->Sq H vs/\ag K H w .f 0 ds vs [])(ps:∀ H w H' w',P H w->WL K w H->d9 H w H' w'->P H' w'):me K (vD Sq) (nE ds) P:=by
 refine⟨λi H w p hi=>⟨vs,vs[i]'(by rw[yl]at hi;omega),(sq H w p).1,by simp⟩,λi H w x H' d p wl hd y=>?_,λH w p=>⟨vs,(sq H w p).1,by rw[yl];exact hl.symm⟩,ps⟩;obtain⟨T,v,rfl,hT,hv,rfl⟩:=y;obtain⟨q1,r1⟩:=sq H w p;rw[E5]at hd;cases hz:ds[i]? with
 | none=>rw[hz]at hd;cases hd
 | some d0=>
  rw[hz]at hd;cases hd;obtain⟨v',Bm,rv⟩:=r1.get hz;have ev:v'=v:=by have:=hv vs q1;rw[Bm]at this;exact QM this
  subst ev;have mo:∀ a o,H a=some o->upd H T (.tup [.int (Int.ofNat i),v']) a=some o:=λa o e=>by rw[bR (kZ e hT)];exact e
  have st:d9 H w (upd H T (.tup [.int (Int.ofNat i),v'])) w:=λa x e n=>⟨sm (mo a x e),n⟩;exact⟨⟨mo,λt=>t.upd rfl (.inl hT)⟩,.tup jj (.cons (F:=[]) (G:=[]) (.int _) (.cons (F:=[]) (G:=[]) (Rep.j7 rv wl st) .nil nM) nM),ps _ _ _ _ p wl st⟩
theorem E6(hm:X.mg "enumerate" = none)(ha:eO X [a] g)(hg:Gl X "enumerate":=by rfl)(hs:starEach [a] X.env=[(false,eval a X.env)]:=by rfl):rC X (.Tuple elts kt tp) (.Call (.Name "enumerate" p) [a] [] pos) (tM g):=⟨have ha:=ha.o;PI.imp (O0 hg hm ha hs) λσ H R ak=>by
 obtain⟨ρ,w,t,ds,aB,gd,ee,k⟩:=ak;unfold tM at ee;split at ee;next d1 ac h1=>
  split at ee;next hl=>
   cases ee;refine⟨ρ,w,t,_,_,gd,h1,λvs H1 w1 g1 aJ r1=>?_⟩;obtain⟨v,rfl,rv⟩:=one r1;have hz:(nE d1).length<sizeLine:=by rw[yl];exact qW hl
   cases rv with
   | kl h r=>exact⟨_,rfl,.inl ⟨⟨_,h.sq⟩,k _ _ H1 w1 g1 aJ (It.enum (P:=λH w=>(KL X.K _ _\/False)/\ag X.K H w .f 0 d1 _ []) r.length (λH w p=>⟨p.1.elim (λz=>z.sq) λz=>z.elim,p.2⟩) λH w H' w' p wl st=>⟨p.1,ag.go wl st p.2 nM⟩) ⟨.inl h,r⟩ hz⟩⟩
   | shr h n r=>exact⟨_,rfl,.inl ⟨⟨_,.inl h⟩,k _ _ H1 w1 g1 aJ (It.enum (P:=λH w=>(Rd H _ (.lst _)/\w _=none)/\ag X.K H w .f 0 d1 _ []) r.length (λH w p=>⟨.inl p.1.1,p.2⟩) λH w H' w' p wl st=>⟨xN.go st p.1.2 p.1.1,ag.go wl st p.2 nM⟩) ⟨⟨h,n⟩,r⟩ hz⟩⟩
  .cases ee
 next d1 ac h1=>
  split at ee;next hl=>
   cases ee;refine⟨ρ,w,t,_,_,gd,h1,λvs H1 w1 g1 aJ r1=>?_⟩;obtain⟨v,rfl,rv⟩:=one r1;have hz:(nE d1).length<sizeLine:=by rw[yl];exact qW hl
   obtain⟨p1,as,rfl,q1,s1⟩:=rv.fA;exact⟨p1,rfl,.inr ⟨⟨_,q1⟩,k _ _ H1 w1 g1 aJ (It.enum (P:=λH w=>dv X.K H p1 as/\ag X.K H w .f 0 d1 as []) s1.length (λH w p=>p) λH w H' w' p wl st=>⟨dv.go wl st p.1,ag.go wl st p.2 nM⟩) ⟨q1,s1⟩ hz⟩⟩
  .cases ee
 .cases ee⟩
end
end L3
namespace L3
open PySem PySem.Spec PyProof.Rows PySem.W L2
variable {M:Model}{h h':Heap}{i:Nat}{pos:Pos}{x:Str}{ρ:aV}
theorem ym{P:Program}{w:World}{H:Hp}{a:Addr}{o:HO}(x:d7 P w H h a o):∃ ob,h.get? a=some ob:=by
 cases o with
 | lst xs=>obtain⟨_,_,_,_,e⟩:=x;exact⟨_,e⟩
 | tup xs=>obtain⟨_,_,_,o,e,_⟩:=x;exact⟨_,e⟩
 | dK cL=>obtain⟨_,_,_,_,o,_,_,e,_⟩:=x;exact⟨_,e⟩
 | dT cL=>obtain⟨_,_,_,_,o,_,_,e,_⟩:=x;exact⟨_,e⟩
 | set S n=>obtain⟨o,_,_,_,e,_⟩:=x;exact⟨_,e⟩
 | ins C dx fs=>obtain⟨_,_,_,e,_⟩:=x;exact⟨_,e⟩
 | own y=>obtain⟨_,e⟩:=x;exact⟨_,e⟩
 | xd fs=>obtain⟨_,⟨_,_,_,e,_⟩,_⟩:=x;exact⟨_,e⟩
 | kY lo hi=>obtain⟨_,_,_,e⟩:=x;exact⟨_,e⟩
 | fF ob u=>obtain⟨e,_⟩:=x;exact⟨_,e⟩
 | ji ps=>exact⟨_,(show h.get? a=some _ from x)⟩
 | met f y=>exact⟨_,(show h.get? a=some _ from x)⟩
 | ext φ=>obtain⟨_,⟨_,e⟩,_⟩:=x;exact⟨_,e⟩
theorem yn{P:Program}{w:World}{H:Hp}(x:dN P w H h)(k:∀ b u o,H b=some u->h.get? b=some o->h'.get? b=some o):dN P w H h':=λb u e=>
 (x b u e).gJ (λc o hc q=>by
  rcases hc with z|z
  .rw[z]at q ⊢;exact k b u o e q
  .exact k c _ o z q) (λ_ q=>q) λ_ _ q=>q
structure nF (P:Program) (w:World) (outer:List Env) (H:Hp) (s:Shared) (a C t:Addr) (B:Heap) (H':Hp) (s':Shared):Prop where
 os:s'.os=s.os
 bare:AllBare s'.gens
 un:Un (bJ outer) [] H H' s.heap s'.heap
 aK:dN P w H' s'.heap
 fl:Heap.FlyingW B outer a (.ref C) (.ref t) s'.heap
 old:∀ b o,s.heap.get? b=some o->H b=none->b ∉ bJ outer->B.get? b=some o
 ix:∀ b o,s.heap.get? b=some o->b ∉ bJ outer->∃ o',B.get? b=some o'
 jw:∀ b u o,H' b=some u->s'.heap.get? b=some o->B.get? b=some o
 free:H' a=none
def vE (P:Program)(w:World):lO:=λouter H s E e s'=>∃ (a C t:Addr) (B:Heap) (H':Hp),e=.ref a/\nF P w outer H s a C t B H' s'/\E (.ref C) none H'
section
variable {P:Program}{w:World}{K:PySem.W.Frag}{mg:Str->Option Value}{base:Heap}{N:List Str}{qual:Str}{scope:Scope}{f:Addr}{cd:Value}{A:Around}{outer:List Env}{ai:Shared}{aD:Hp}{E:XK}{Z_:List (Addr×Obj)}{σ:St}{H:Hp}{s:Shared}
abbrev df (P:Program)(w:World)(K:PySem.W.Frag)(mg:Str->Option Value)(base:Heap)(N:List Str)(qual:Str)(scope:Scope)(f:Addr)(cd:Value)(A:Around)(outer:List Env)(ai:Shared)(aD:Hp)(E:XK):Cx:=k8 (vE P w) P w K mg base N qual scope f cd A outer ai aD E
theorem E7(I:Inv (df P w K mg base N qual scope f cd A outer ai aD E) Z_ σ H s){b:Addr}(hb:b∈bJ outer){o:Obj}(e:s.heap.get? b=some o):∀ vs,o.data ≠ .fields vs:=by obtain⟨_,o',ho,hd⟩:=I.eU.mem hb;rw[e]at ho;cases ho;exact hd
theorem E8{e C:Addr}{vs:List Value}(I:Inv (df P w K mg base N qual scope f cd A outer ai aD E) Z_ σ H s)(hm:Heap.MadeExcOf s.heap h' e (.ref C) vs)(hE:E (.ref C) none H) :
  (df P w K mg base N qual scope f cd A outer ai aD E).xe (.ref e) { s with heap:=h' }:=by
 have nL:∀ b o,ai.heap.get? b=some o->b≠ai.heap.objs.size:=λb o q=>QS (Qn q);have qd:∀ b o,s.heap.get? b=some o->b≠ai.heap.objs.size->b ∉ bJ outer->(hideAll s.heap (bJ (envOfC qual scope ai.heap.objs.size f cd::outer))).get? b=some o:=λb o q n1 n2=>hideAll_get _ q λhm=>by
  rcases Qp.mp (show b∈ai.heap.objs.size::bJ outer from hm)with z|z
  .exact n1 z
  .exact n2 z
 have O1:∀ env∈(envOfC qual scope ai.heap.objs.size f cd::outer),∀ b,env.frame=some b->b∈bJ (envOfC qual scope ai.heap.objs.size f cd::outer):=λenv he b hb=>Jh.mpr ⟨env,he,hb⟩;have vF:∀ b u,H b=some u->b≠ai.heap.objs.size/\b ∉ bJ outer:=λb u q=>by
  refine⟨λz=>?_,λz=>?_⟩
  .have:=I.free;rw[z]at q;have vG:H ai.heap.objs.size=none:=this;rw[vG]at q;cases q
  .have:=I.eV b (Qc _ z);rw[this]at q;cases q
 have bB:Un (bJ outer) [] aD H ai.heap s.heap:=I.base;show wpAny _ _ (leaving (envOfC qual scope ai.heap.objs.size f cd) (.ref e)) _ _ _;refine wpAny_leaves_madeW (s:={ s with heap:=h' }) (L:=ai.heap.objs.size) (outer:=outer) I.ok.frames rfl (λb o q=>of_hideAll _ q) (funFrames_hide I.stack O1) hm λh2 t fl _ _ up=>?_;have old:∀ b o,ai.heap.get? b=some o->aD b=none->b ∉ bJ outer->(hideAll s.heap (bJ (envOfC qual scope ai.heap.objs.size f cd::outer))).get? b=some o:=λb o q n hb=>qd b o (bB.keep b o q n hb (by simp)) (nL b o q) hb;have slot:∀ b o,s.heap.get? b=some o->b∈bJ outer->∃ sl,h2.get? b=some { o with slots:=sl }:=λb o q hb=>up b o (hm.keeps b o q) (E7 I hb q);have jw:∀ b u o,H b=some u->s.heap.get? b=some o->(hideAll s.heap (bJ (envOfC qual scope ai.heap.objs.size f cd::outer))).get? b=some o:=λb u o q e=>qd b o e (vF b u q).1 (vF b u q).2;refine⟨e,C,t,_,H,rfl,⟨I.os,I.bare,⟨λb o q n hb _=>fl.1 b o (old b o q n hb),λb o q n hb _=>?_,λb o q n _=>bB.free b o q n (by simp),λb o q _=>?_,bB.cZ,bB.cU,bB.c_⟩,yn I.aK λb u o q e=>fl.1 b o (jw b u o q e),fl,old,λb o q hb=>?_,λb u o q e=>?_,?_⟩,hE⟩
 .obtain⟨sl,q1⟩:=bB.slot b o q n hb (by simp);obtain⟨jT,q2⟩:=slot b _ q1 hb;exact⟨jT,q2⟩
 .obtain⟨o',q1⟩:=bB.there b o q (by simp);by_cases hb:b∈bJ outer
  .obtain⟨sl,q2⟩:=slot b o' q1 hb;exact⟨_,q2⟩
  .exact⟨o',fl.1 b o' (qd b o' q1 (nL b o q) hb)⟩
 .obtain⟨o',q1⟩:=bB.there b o q (by simp);exact⟨o',qd b o' q1 (nL b o q) hb⟩
 .obtain⟨o1,q1⟩:=ym (I.aK b u q);have q2:=jw b u o1 q q1;have q3:=fl.1 b o1 q2;have e':h2.get? b=some o:=e;rw[q3]at e';cases e';exact q2
 .cases q:H e with
  | none=>rfl
  | some u=>
   obtain⟨o1,q1⟩:=ym (I.aK e u q);rw[hm.new]at q1;cases q1
theorem O2{E':XK}(hE:∀ C H',E' (.ref C) none H'->E (.ref C) none H')(I:Inv (df P w K mg base N qual scope f cd A outer ai aD E) Z_ σ H s){e:Value}{s':Shared}(h:vE P w (envOfC qual scope ai.heap.objs.size f cd::outer) H s E' e s') :
  (df P w K mg base N qual scope f cd A outer ai aD E).xe e s':=by
 obtain⟨a,C,t,B,H',rfl,F,O3⟩:=h;have nL:∀ b o,ai.heap.get? b=some o->b≠ai.heap.objs.size:=λb o q=>QS (Qn q);have bB:Un (bJ outer) [] aD H ai.heap s.heap:=I.base;have rV:∀ b o,ai.heap.get? b=some o->b ∉ bJ outer->b ∉ bJ (envOfC qual scope ai.heap.objs.size f cd::outer):=λb o q n hm=>by
  rcases Qp.mp (show b∈ai.heap.objs.size::bJ outer from hm)with z|z
  .exact nL b o q z
  .exact n z
 show wpAny _ _ (leaving (envOfC qual scope ai.heap.objs.size f cd) (.ref a)) _ _ _;refine wpAny_leaves_onW (L:=ai.heap.objs.size) (outer:=outer) I.ok.frames rfl F.fl λh2 fl up=>?_;have old:∀ b o,ai.heap.get? b=some o->aD b=none->b ∉ bJ outer->B.get? b=some o:=λb o q n hb=>F.old b o (bB.keep b o q n hb (by simp)) (bB.free b o q n (by simp)) (rV b o q hb);have slot:∀ b o,s.heap.get? b=some o->H b=none->b∈bJ outer->∃ sl,h2.get? b=some { o with slots:=sl }:=λb o q n hb=>by obtain⟨sl,q1⟩:=F.un.slot b o q n (Qc _ hb) (by simp);obtain⟨jT,q2⟩:=up b _ q1 (λvs z=>E7 I hb q vs z);exact⟨jT,q2⟩
 have fH:∀ b∈bJ outer,H b=none:=λb hb=>I.eV b (Qc _ hb);refine⟨a,C,t,B,H',rfl,⟨F.os.trans I.os,F.bare,⟨λb o q n hb _=>fl.1 b o (old b o q n hb),λb o q n hb _=>?_,λb o q n _=>?_,λb o q _=>?_,λb xs q=>F.un.cZ b xs (bB.cZ b xs q),λb o u q=>F.un.cU b o u (bB.cU b o u q),λb ps q=>?_⟩,yn F.aK λb u o q e=>fl.1 b o (F.jw b u o q e),fl,old,λb o q hb=>?_,λb u o q e=>?_,F.free⟩,hE C H' O3⟩
 .obtain⟨sl,q1⟩:=bB.slot b o q n hb (by simp);obtain⟨jT,q2⟩:=slot b _ q1 (fH b hb) hb;exact⟨jT,q2⟩
 .obtain⟨o',q1⟩:=bB.there b o q (by simp);exact F.un.free b o' q1 (bB.free b o q n (by simp)) (by simp)
 .obtain⟨o',q1⟩:=bB.there b o q (by simp);by_cases hb:b∈bJ outer
  .obtain⟨sl,q2⟩:=slot b o' q1 (fH b hb) hb;exact⟨_,q2⟩
  .obtain⟨o2,q2⟩:=F.ix b o' q1 (rV b o q hb);exact⟨o2,fl.1 b o2 q2⟩
 .obtain⟨m1,e1⟩:=bB.c_ b ps q;obtain⟨m2,e2⟩:=F.un.c_ b _ e1;exact⟨m1++m2,by rw[e2,JN]⟩
 .obtain⟨o',q1⟩:=bB.there b o q (by simp);exact F.ix b o' q1 (rV b o q hb)
 .obtain⟨o1,q1⟩:=ym (F.aK b u q);have q2:=F.jw b u o1 q q1;have q3:=fl.1 b o1 q2;have e':h2.get? b=some o:=e;rw[q3]at e';cases e';exact q2
end
structure yo (K:Frag) (mg:Str->Option Value) (nm:Str) (C:Addr):Prop extends iX K nm C where
 mg:mg nm=some (.ref C)
theorem E9{K:Frag}{C:Addr}{E_:List Value}{newId:String}(X:K.In h)(q:excIn K C E_ newId=true) :
  ∃ bm N nm q bs hdct sn sub ab col dd k0 k1 k2 k3 k5 mN,h.get? C=some (excClassObj nm q C N bs bm hdct sn sub ab col dd k0 k1 k2 k3 k5 newId)/\h.Ns N mN/\mN "__init__" = none/\OwnTail h E_ bm:=by
 unfold excIn at q;split at q;next dd cd sl ho=>
  split at q;next C' bm k0 k1 k2 k3 n k5 hm hs=>
   simp only[QX,Zy,Bool.not_eq_true']at q;obtain⟨⟨⟨⟨⟨rfl,rfl⟩,vH⟩,ht⟩,aK⟩,tN⟩:=q;obtain⟨nm,bs,mro,ns,qn,hd,sn,sub,ab,col,del⟩:=cd;dsimp only at hm vH aK tN;subst hm vH;have O4:sl = #[k0,k1,k2,k3,some (.builtin n),k5]:=by obtain⟨l⟩:=sl;simp only at hs;rw[hs]
   subst O4;exact⟨bm,ns,nm,qn,bs,hd,sn,sub,ab,col,dd,k0,k1,k2,k3,k5,_,X _ _ ho,.of_isNs (isNs_of_in X aK),nsMap_none_of_in X aK tN,tail_of_in X ht⟩
  .cases q
 .cases q
section
variable {P:Program}{w:World}{K:PySem.W.Frag}{mg:Str->Option Value}{base:Heap}{N:List Str}{qual:Str}{scope:Scope}{f:Addr}{cd:Value}{A:Around}{outer:List Env}{ai:Shared}{aD:Hp}{E:XK}{Z_:List (Addr×Obj)}{σ:St}{H:Hp}{s:Shared}
theorem O6{nm txt:Str}{C:Addr}{j:Nat}{np az oN pos:Pos}(hA:A.handled=none)(hC:yo K mg nm C)(hg:Gl (df P w K mg base N qual scope f cd A outer ai aD E) nm)(fO:(nm==("__debug__":Str))=false:=by decide) :
  PS (df P w K mg base N qual scope f cd A outer ai aD E) (.Raise (some (.Call (.Name nm np) [.Constant (.str txt) j oN] [] az)) none pos) (λ_ _ H=>E (.ref C) none H):=by
 intro Z_ s σ H D I h;obtain⟨tl,Nn,qe,q,bs,hdct,sn,sub,ab,col,dd,k0,k1,k2,k3,k5,mN,vI,hN,tN,T⟩:=E9 I.mod.sV hC.ex;refine wpAny_Raise_call_subT (C:=C) (nm:=qe) (q:=q) (N:=Nn) (bs:=bs) (bm:=tl) (hdct:=hdct) (sn:=sn) (sub:=sub) (ab:=ab) (col:=col) (dd:=dd) (k0:=k0) (k1:=k1) (k2:=k2) (k3:=k3) (k5:=k5)
  ZE (mN:=mN) (T.hasType ZE.hasBase) hA rfl tN (sY I hg hC.mg ⟨rfl,?_⟩ fO)
 refine Jz (JP (a_ (zE (j:=j) (pos:=oN) Z_ s σ H (λv H1=>v=.str txt/\H1=H) I ⟨rfl,rfl⟩) λu s1 ak=>?_));obtain⟨v,H1,I1,r1,e1,e2⟩:=ak;subst e1 e2;refine J9 ⟨rfl,by show 1<=sizeLine;decide,I1.bk _ _ vI,hN.keeps I1.bk,T.keeps I1.bk,λh' e hm=>E8 I1 hm h⟩
end
abbrev cY:=aV->Option Str
def tX (K:PySem.W.Frag)(x:cY)(E:XK):TS:=λ_ σ H=>∃ ρ w nm,Good K ρ σ H w 0/\x ρ=some nm/\∀ C H' w',nsIn K mainGlobals nm=some (some (.ref C))->WL K w' H'->Go H w H' w'->E (.ref C) none H'
def yq (K:PySem.W.Frag)(n:Nat)(F:List D->Option Str):Sp:=λvs H _ E=>vs.length=n/\∃ ds w nm,(∀ a o,w a=some o->o=.f)/\WL K w H/\ag K H w .f 0 ds vs []/\F ds=some nm /\
 ∀ C H' w',nsIn K mainGlobals nm=some (some (.ref C))->WL K w' H'->Go H w H' w'->E (.ref C) none H'
def fnX (n:Nat)(x:cY):List D->Option Str:=λds=>x (jo n ds)
def gR (P:Program)(w:World)(K:PySem.W.Frag)(mg:Str->Option Value)(base:Heap)(k:Nat)(x:Str)(n:Nat)(F:List D->Option Str):Prop:=
 ∃ f fd ps,eG P w K mg base (vE P w) k f fd ps (yq K n F)/\mg x=some (.ref f)/\W.keepIn K (.ref f)=true/\oa K fd ps []
theorem gR.mk{P:Program}{w:World}{K:PySem.W.Frag}{mg:Str->Option Value}{base:Heap}{k:Nat}{st:Stmt}{N ps:List Str}{xb:cY}(a:At K mg x st ps)(S:ah N ps (bh st))
  (h:∀ (f:Addr) (b6:Value) (A:Around) (outer:List Env) (s:Shared) (H:Hp) (E:XK),bc k (A.deeper (envOfC x (bh st) s.heap.objs.size f b6))->gL (df P w K mg base N x (bh st) f b6 A outer s H E) (jk st) (tX K xb E)) :
  gR P w K mg base (k+1) x ps.length (fnX N.length xb):=by obtain⟨f,fd,F,m,b⟩:=a;refine⟨f,fd,ps,?_,m,F.kp,b⟩;obtain⟨oc,od,kV,doc,pm,an,b6,ct,og,rfl,lk,gM⟩:=F.ex;refine DQ lk gM S (λvs H Q E h=>h.1) λA outer s H vs Q E hr jz=>⟨_,h f b6 A outer s H E hr,?_⟩;obtain⟨hn,ds,w,nm,hw,wl,rs,e,k⟩:=jz;exact⟨_,w,nm,AN hw wl rs,e,k⟩
def iM (F:List D->Option Str)(n:Nat)(g:bQ):cY:=λρ=>match g ρ with
 | some (ds,_)=>if ds.length=n then F ds else none
 | none=>none
theorem O7{A:Around}{E:Y0}{K:Frag}{s:Shared}{x C R:Addr}{ox:Obj}{Q:Bool->Shared->Prop}(X:K.In s.heap)(I:jm s.heap x ox C)(hR:fy K R)(oo:typeIn K (.ref R)=some (.type "type"))
  (dY:subIn K (.ref C) (.ref R)=some true) (h:Q true s):wpAny M A (excMatches (.ref x) (.ref R)) Q E s:=by
 obtain⟨h0,g,d,tt,os⟩:=s;have L0:=I.type (M:=M);have L1:=looks_typeIn (M:=M) X oo;have L2:=Aw (M:=M) X hR.ci;have L3:=looks_mroIn (M:=M) X hR.mb;have L4:=YC (M:=M) X dY;have f:=tc_notTuple;have L5:Looks M h0 (isSubtype (.type "type") (.type "tuple")) false:=Jx f;unfold excMatches isInstance isExcClass
 repeat (first|lk|wp_step)
 exact h
section
variable {X:Cx}{Z_:List (Addr×Obj)}{σ:St}{H H':Hp}{s s':Shared}{a C t:Addr}{B:Heap}
theorem O8{A:Around}{E:Y0}{Q:Unit->Shared->Prop}(I:Inv X Z_ σ H s)(hN:X.N.Nodup)(hi:X.N[i]? = some x)(hx:X.env.scope.names.lookup x=some .local)
  (h:∀ s',Inv X Z_ (σ.set i none) H s'->Q () s'):wpAny M A (do bindName X.env x .none;unbindBehindTheSuite X.env x pos) Q E s:=by
 obtain⟨m,hn,hl⟩:=id I.loc;have ic:(X.env.scope.kind == .class||(X.env.scope.kind == .module&&X.env.locals != X.env.globals))=false:=by rw[I.ok.kind];rfl
 have kA:i<σ.length:=by rw[I.len];exact(Qs.mp hi).1
 have lI:=I.lI;refine wpAny_nameGoes_keeps hx hn ic λh' v lJ hs=>?_;obtain⟨oL,_,_,Dp,_⟩:=id hn;have tracked:dN X.prog X.w H h':=λb ob e=>by
  refine(I.aK b ob e).gJ (λc w' hc q=>(hs.2 c ?_).trans q) (λ_ q=>q) λ_ _ q=>q;rintro rfl;rcases hc with rfl|hc
  .rw[I.free]at e;cases e
  .rw[I.free]at hc;cases hc
 refine h _ ⟨I.ok,I.os,I.bare,⟨λb o e n hb hx=>?_,λb o e n hb hx=>?_,I.base.free,λb o e hx=>?_,I.base.cZ,I.base.cU,I.base.c_⟩,⟨_,lJ,λj y v' e1 e2 e3=>?_⟩,λy c e=>?_,I.free,I.cQ,λp hp=>?_,tracked,by simpa using I.len⟩
 .exact(hs.2 b (QS (Qo (Qn e) I.ok.above))).trans (I.base.keep b o e n hb hx)
 .obtain⟨sl,e1⟩:=I.base.slot b o e n hb hx;exact⟨sl,(hs.2 b (QS (Qo (Qn e) I.ok.above))).trans e1⟩
 .obtain⟨o',e1⟩:=I.base.there b o e hx;exact⟨o',(hs.2 b (QS (Qo (Qn e) I.ok.above))).trans e1⟩
 .by_cases hj:j=i
  .subst hj;rw[QB kA]at e2;cases e2
  .rw[QF (ZM hj)]at e2;obtain⟨u',r',q⟩:=hl j y v' e1 e2 e3;refine⟨u',r',?_⟩;rcases q with⟨k,e⟩|⟨k,c,e,z⟩
   .refine .inl ⟨k,?_⟩;have:y≠x:=λe=>hj (zA hN e1 (e ▸ hi));simp[this,e]
   .exact .inr ⟨k,c,e,z.sameBut hs (lI y c e)⟩
 .obtain⟨w',z⟩:=I.cell y c e;exact⟨w',z.sameBut hs (lI y c e)⟩
 .obtain⟨e,n,ne,nf,d⟩:=I.pin p hp;exact⟨(hs.2 p.1 ne).trans e,n,ne,nf,d⟩
def tR (a:Addr)(oe:Obj):HO:=.fF oe (.ext λh=>h.get? a=some oe)
theorem nF.vJ(I:Inv X Z_ σ H s)(F:nF X.prog X.w X.stack H s a C t B H' s')(fl:Heap.FlyingW B X.stack a (.ref C) (.ref t) h')(up:s'.heap.UpToSlots h'):Un (bJ X.stack) [] H H' s.heap h'/\dN X.prog X.w H' h':=by
 have slot:∀ b o,s.heap.get? b=some o->H b=none->b∈bJ X.stack->∃ sl,h'.get? b=some { o with slots:=sl }:=λb o q n hb=>by obtain⟨sl,q1⟩:=F.un.slot b o q n hb (by simp);obtain⟨_,o',ho,hd⟩:=I.stack.mem hb;rw[q]at ho;cases ho;obtain⟨jT,q2⟩:=up b _ q1 hd;exact⟨jT,q2⟩
 refine⟨⟨λb o q n hb _=>fl.1 b o (F.old b o q n hb),λb o q n hb _=>slot b o q n hb,F.un.free,λb o q _=>?_,F.un.cZ,F.un.cU,F.un.c_⟩,yn F.aK λb u o q e=>fl.1 b o (F.jw b u o q e)⟩;by_cases hb:b∈bJ X.stack
 .obtain⟨sl,q2⟩:=slot b o q (I.eV b hb) hb;exact⟨_,q2⟩
 .obtain⟨o2,q2⟩:=F.ix b o q hb;exact⟨o2,fl.1 b o2 q2⟩
theorem nF.inv(I:Inv X Z_ σ H s)(F:nF X.prog X.w X.stack H s a C t B H' s')(fl:Heap.FlyingW B X.stack a (.ref C) (.ref t) h')(up:s'.heap.UpToSlots h'):Inv X Z_ σ H' { s' with heap:=h' }:=
 I.jU (s':={ s' with heap:=h' }) F.os (F.vJ I fl up).1 (F.vJ I fl up).2 F.bare (λb hb=>nomatch hb)
theorem nF.inv2(I:Inv X Z_ σ H s)(F:nF X.prog X.w X.stack H s a C t B H' s')(fl:Heap.FlyingW B X.stack a (.ref C) (.ref t) h')(up:s'.heap.UpToSlots h'){oe:Obj}{vs:Array Value}(ho:h'.get? a=some oe)(hd:oe.data=.fields vs) :
  Inv X Z_ σ (upd H' a (tR a oe)) { s' with heap:=h' }:=by
 obtain⟨u,hk⟩:=F.vJ I fl up;have na:∀ b x,H' b=some x->upd H' a (tR a oe) b=some x:=λb x q=>by unfold upd;rw[Qw (λz=>by rw[z,F.free]at q;cases q)];exact q
 have O9:a ∉ bJ X.stack:=λhb=>by obtain⟨_,o',gK,nh⟩:=fl.2.2.1.mem hb;rw[ho]at gK;cases gK;exact nh vs hd
 refine I.jU (s':={ s' with heap:=h' }) F.os ⟨u.keep,u.slot,λb o q n e=>?_,u.there,λb xs q=>na b _ (u.cZ b xs q),λb o' u' q=>na b _ (u.cU b o' u' q),λb ps q=>?_⟩ (λb x q=>?_) F.bare (λb hb=>nomatch hb)
 .unfold upd;rw[Qw (λz=>?_)]
  .exact u.free b o q n e
  .subst z;obtain⟨o2,q2⟩:=F.ix b o q O9;rw[fl.2.1]at q2;cases q2
 .obtain⟨m,q1⟩:=u.c_ b ps q;exact⟨m,na b _ q1⟩
 .by_cases hb:b=a
  .subst hb;unfold upd at q;rw[Qk rfl]at q;cases q;exact⟨ho,ho,⟨_,ho⟩,λh1 h2 q1 q2=>q2 _ q1⟩
  .have q':=q;unfold upd at q;rw[Qw hb]at q;exact(hk b x q).gJ (λ_ _ _ z=>z) (λc z=>na c _ z) (λc xs z=>na c _ z)
abbrev Cx.mark (X:Cx)(e:Value):Cx:={ X with A:=X.A.mark (some e),calm:=false,xe:=λ_ _=>False }
theorem Inv.mark(I:Inv X Z_ σ H s)(e:Value):Inv (Cx.mark X e) Z_ σ H s:=
 ⟨⟨I.ok.mod,I.ok.kind,I.ok.glob,I.ok.blt,I.ok.above,I.ok.inj,I.ok.has,I.ok.sX,(λz=>by cases z),I.ok.frames,I.ok.uA,I.ok.uB,I.ok.bs,I.ok.lH,I.ok.kz,I.ok.jx,I.ok.eU,I.ok.pC⟩,I.os,I.bare,I.base,I.loc,I.cell,I.free,I.cQ,I.pin,I.aK,I.len⟩
theorem Inv.unmark{e:Value}(hX:X.Ok)(I:Inv (Cx.mark X e) Z_ σ H s):Inv X Z_ σ H s:=⟨hX,I.os,I.bare,I.base,I.loc,I.cell,I.free,I.cQ,I.pin,I.aK,I.len⟩
theorem O_{R n kx:Str}{RA:Addr}{np kp vp apos:Pos}{ie ik:Nat}{Q:Flow->Shared->Prop}{E:Y0}(I:Inv X Z_ σ H s)(F:nF X.prog X.w X.stack H s a C t B H' s')(lK:X.stack=X.env::X.outer)(Bn:X.env.frame=some X.env.locals)
  (hN:X.N.Nodup) (rW:X.N[ie]? = some n) (yr:X.N[ik]? = some kx) (eH:X.env.scope.names.lookup n=some .local) (yt:X.env.scope.names.lookup kx=some .local) (hR:fy X.K RA) (Bo:typeIn X.K (.ref RA)=some (.type "type")) (dY:subIn X.K (.ref C) (.ref RA)=some true) (hmg:X.mg R=some (.ref RA)) (hg:Gl X R)
  (fO:(R==("__debug__":Str))=false) (Bp:(n==("__debug__":Str))=false) (Bq:(n==("__classdict__":Str))=false) (rf:swapsWith (.Name n vp) (some (.Name kx kp)) apos.line X.env=pure false)
  (hQ:∀ s5 oe,oe.cls=.ref C->Inv X Z_ (((σ.set ie (some (.ref a))).set ik (some (.ref a))).set ie none) (upd H' a (tR a oe)) s5->Q .next s5) :
  wpAny (model X.prog X.w) X.A (noteFrame (.ref a) X.env) (λ_ ig=>wpAny (model X.prog X.w) X.A (setFlight (.ref a) none) (λ_ fw=>
   wpAny (model X.prog X.w) X.A (handleBy (.ref a) X.env [.ExceptHandler (some (.Name R np)) (some n) [.Assign [.Name kx kp] (.Name n vp) apos] pos]) Q E fw) E ig) E s':=by
 have kA:ie<σ.length:=by rw[I.len];exact(Qs.mp rW).1
 have Fb:=F.fl;have Pa:=lK;rw[lK]at Fb;refine wpAny_looks_onW (L:=X.env.locals) (outer:=X.outer) (by rw[<- lK];exact I.ok.frames) Bn Fb λou mB qf=>?_;refine wpAny_landsW mB λow qg qh=>?_;have jE:=qg;rw[<- lK]at jE;have I5:=F.inv I jE (qf.trans qh);obtain⟨ob,Pb,Br⟩:=jE.there;have J5:=Inv.mark I5 (.ref a);refine wpAny_handleBy_cons (codeAny_handlers_test (sY (X:=Cx.mark X (.ref a)) J5 hg hmg ?_ fO)) (by intro q;cases q);refine O7 J5.fu ⟨Pb,Br⟩ hR Bo dY ?_;refine codeAny_handlers_suite_as ?_;refine lands_againW qg λPc vK vL=>?_;have jF:=vK;rw[<- lK]at jF;obtain⟨oe,ws,Pd,Bs,Bu,Pe⟩:=jF.first;have I6:=F.inv2 I jF ((qf.trans qh).trans vL) Pd Bu;refine zD (v:=.ref a) I6 hN rW (.inl eH) rfl (λs7 I7=>?_) (.inr eH);have J7:=Inv.mark I7 (.ref a);have body:=Dv (DA (X:=Cx.mark X (.ref a)) (i:=ik) (x:=kx) (pos:=apos) (pos':=kp) hN yr (.inl yt) (pv (X:=Cx.mark X (.ref a)) ie (x:=n) (pos:=vp) rW (.inl eH) Bp Bq) rf (.inr yt));refine Q2 (body Z_ s7 _ _ { nx:=λaP H1=>aP=(σ.set ie (some (.ref a))).set ik (some (.ref a))/\H1=upd H' a (tR a oe),rt:=λ_ _=>False } J7 ⟨.ref a,QB kA,rfl,rfl⟩) (λfl s8 q=>?_) (λ_ _ z=>False.elim z);cases fl with
 | next=>
  obtain⟨Xq,H8,J8,rfl,rfl⟩:=q;exact O8 (Inv.unmark I.ok J8) hN rW eH λs9 I9=>hQ s9 oe Bs I9
 | brk=>obtain⟨_,_,_,z⟩:=q;exact z.elim
 | cont=>obtain⟨_,_,_,z⟩:=q;exact z.elim
 | ret u=>obtain⟨_,_,_,_,_,z⟩:=q;exact z.elim
end
theorem Good.unset{K:PySem.W.Frag}{σ:St}{H:Hp}{w:Wn}{t:Nat}{v:Option V}(g:Good K ρ σ H w t)(hi:i<σ.length) :
  Good K (ρ.set i none) (σ.set i v) H (iq i w) t/\Go H w H (iq i w):=by
 have st:d9 H w H (iq i w):=λa x h n=>⟨sm h,u_ n⟩;refine⟨⟨⟨λa o h=>g.wl a o (oz h).1,g.wl.tb⟩,λa j h=>by rw[QC];exact g.ws a j (oz h).1,λa j h=>g.wt a j (oz h).1,by rw[QC,QC];exact g.len,λj d' q' e'=>?_⟩,⟨st,λa o h n=>⟨rfl,tG h (n i)⟩⟩⟩;by_cases hj:i=j
 .subst hj;rw[QB (by rw[g.len];exact hi)]at e';cases e'
 .rw[QF hj]at e';obtain⟨v',F,h1,h2⟩:=g.slot j d' q' e';exact⟨v',F,by rw[QF hj];exact h1,Rep.go g.wl st h2 λa m=>⟨rfl,tG (h2.aR a m) (λz=>hj (by cases z;rfl))⟩⟩
theorem Good.grow{K:PySem.W.Frag}{σ:St}{H H':Hp}{w:Wn}{t:Nat}(g:Good K ρ σ H w t)(h:∀ b o,H b=some o->Sm o (H' b))(tb:TB K H'):Good K ρ σ H' w t/\Go H w H' w:=by
 have st:d9 H w H' w:=λa x e n=>⟨h a x e,n⟩;have kp:∀ a o,w a=some o->H' a=H a:=λa o e=>by obtain⟨vs,q⟩:=g.wl a o e;rw[q,(h a _ q).eq (by cases vs<;>rfl)]
 refine⟨⟨⟨λa o e=>?_,tb⟩,g.ws,g.wt,g.len,λi d q e=>?_⟩,st,λa o e _=>⟨kp a o e,e⟩⟩
 .obtain⟨vs,q⟩:=g.wl a o e;exact⟨vs,(h a _ q).eq (by cases vs<;>rfl)⟩
 .obtain⟨v,F,h1,h2⟩:=g.slot i d q e;exact⟨v,F,h1,Rep.go g.wl st h2 λa m=>⟨kp a _ (h2.aR a m),h2.aR a m⟩⟩
def oO (K:Frag)(mg:Str->Option Value)(R:Str)(L:List Str):Prop:=∃ RA,fy K RA/\typeIn K (.ref RA)=some (.type "type")/\mg R=some (.ref RA) /\
 ∀ nm∈L,∀ C,nsIn K mainGlobals nm=some (some (.ref C))->iX K nm C/\subIn K (.ref C) (.ref RA)=some true
end L3
namespace L3
open PySem PySem.Spec PyProof.Rows PySem.W L2 PySem.SeqAt
variable {K:PySem.W.Frag}{L:List Str}{k:Nat}
def eR (K:Frag)(mg:Str->Option Value)(L:List Str)(nm:Str):Prop:=∃ C,mg nm=some (.ref C)/\∀ n∈L,∀ B,nsIn K mainGlobals n=some (some (.ref B))->(n=nm->isIn K (.ref B) C=true)/\(n≠nm->kin_not K B C=true)
section
variable {X:Cx}{a b c e:Expr}{es:List Expr}{fa fb fc f:aA}{ga gb:cy}{g:bQ}{pos p p1 p2 pT az apos:Pos}
theorem Pf{C:Addr}{nm:Str}(h:∀ n∈L,∀ B,nsIn X.K mainGlobals n=some (some (.ref B))->(n=nm->isIn X.K (.ref B) C=true)/\(n≠nm->kin_not X.K B C=true)) :
  jy X (.builtin "isinstance") (λxs H Q=>∃ x w o q F n,xs=[x,.ref C]/\n∈L/\Rep X.K H w o q (.exc n) x F/\Q (.bl (n==nm)) H):=by
 intro Z_ s σ H xs us Q I r hh;obtain⟨x,w,o,q,F,n,rfl,hn,rd,hq⟩:=hh;obtain⟨u,v,rfl,ru,rv⟩:=xq r;cases rv;obtain⟨_,_,_,rfl,ha,B,hc,k⟩:=rd.inv
 .cases ru;obtain⟨e1,_⟩:=(show d7 X.prog X.w H s.heap _ (.fF _ _)from I.aK _ _ ha);obtain⟨h1,h2⟩:=h n hn B k.ns;by_cases z:n=nm
  .rw[Zy.mpr z]at hq;exact MX I.fu ⟨e1,hc⟩ (h1 z) ⟨.bl true,H,I,rfl,hq⟩
  .rw[YI.mpr z]at hq;exact MW I.fu ⟨e1,hc⟩ k.xc (h2 z) ⟨.bl false,H,I.tok _,rfl,hq⟩
def oP (L:List Str)(nm:Str)(fa:aA):aA:=λρ=>match fa ρ with
 | some (.exc n,_,ac)=>if n∈L then some (.bl (n==nm),9,ac)else none
 | _=>none
theorem rX{nm:Str}(hC:eR X.K X.mg L nm)(hm:X.mg "isinstance" = none)(ha:QD X a fa)(hg:Gl X "isinstance":=by rfl)(vz:Gl X nm:=by rfl)(jD:(nm==("__debug__":Str))=false:=by decide)(hs:starEach [a,.Name nm pT] X.env=(false,eval a X.env)::starEach [.Name nm pT] X.env:=by rfl)(cR:(backTo pos (starEach [.Name nm pT] X.env)).any (·.1)=false:=by rfl):QD X (.Call (.Name "isinstance" p) [a,.Name nm pT] [] pos) (oP L nm fa):=⟨have ha:=ha.o;by
 obtain⟨C,Pg,il⟩:=hC;refine PE.imp (qN (Pf il) hg hm ZV (kE ha (kE (Dr (v:=.ref C) vz Pg rfl jD) n9 bV) hs) (by decide) (by decide) hs cR) λσ H Q ak=>?_;obtain⟨ρ,w,t,r',q,aB,gd,ee,k⟩:=ak;unfold oP at ee;split at ee;next n q1 ac h1=>
  split at ee;next hL=>
   cases ee;refine⟨ρ,w,t,_,_,_,gd,h1,λv H1 w1 F1 g1 aJ r1=>?_⟩;exact⟨v,w1,_,_,F1,n,rfl,hL,r1,k _ H1 (cm t w1) [] g1.drop.up (aJ.drop gd.wt) (.bl _)⟩
  .cases ee
 .cases ee⟩
theorem Ph:jy X (.builtin "isinstance") (λxs H Q=>∃ x w o q F n,xs=[x,.ty "ValueError"]/\Rep X.K H w o q (.exc n) x F/\Q (.bl true) H):=by
 intro Z_ s σ H xs us Q I r hh;obtain⟨x,w,o,q,F,n,rfl,rd,hq⟩:=hh;obtain⟨u,v,rfl,ru,rv⟩:=xq r;cases rv;obtain⟨_,_,_,rfl,ha,B,hc,k⟩:=rd.inv
 .cases ru;obtain⟨e1,_⟩:=(show d7 X.prog X.w H s.heap _ (.fF _ _)from I.aK _ _ ha);exact MY I.fu ⟨e1,hc⟩ (by kernel_rfl) k.ve ⟨.bl true,H,I,rfl,hq⟩
def Bv (fa:aA):aA:=λρ=>match fa ρ with
 | some (.exc n,_,ac)=>some (.bl true,9,ac)
 | _=>none
theorem Pj(hm:X.mg "isinstance" = none)(Be:X.mg "ValueError" = none)(ha:QD X a fa)(hg:Gl X "isinstance":=by rfl)(vz:Gl X "ValueError":=by rfl)(hs:starEach [a,.Name "ValueError" pT] X.env=(false,eval a X.env)::starEach [.Name "ValueError" pT] X.env:=by rfl)(cR:(backTo pos (starEach [.Name "ValueError" pT] X.env)).any (·.1)=false:=by rfl):QD X (.Call (.Name "isinstance" p) [a,.Name "ValueError" pT] [] pos) (Bv fa):=⟨have ha:=ha.o;by
 refine PE.imp (qN Ph hg hm ZV (kE ha (kE (Ds (v:=.ty "ValueError") vz Be (by kernel_rfl) rfl (by decide) (by decide)) n9 bV) hs) (by decide) (by decide) hs cR) λσ H Q ak=>?_;obtain⟨ρ,w,t,r',q,aB,gd,ee,k⟩:=ak;unfold Bv at ee;split at ee;next n q1 ac h1=>
  cases ee;refine⟨ρ,w,t,_,_,_,gd,h1,λv H1 w1 F1 g1 aJ r1=>?_⟩;exact⟨v,w1,_,_,F1,n,rfl,r1,k _ H1 (cm t w1) [] g1.drop.up (aJ.drop gd.wt) (.bl _)⟩
 .cases ee⟩
def yu:D->D->Option D
 | .aO,.aO=>some (.bl true)
 | .exc _,.aO=>some (.bl false)
 | .int _,.aO=>some (.bl false)
 | .tup _,.aO=>some (.bl false)
 | .str _,.aO=>some (.bl false)
 | _,_=>none
def Fc:R2:=λx y H Q=>y=.aO/\((x=.aO/\Q (.bl true) H)\/((∃ i,x=.int i)\/(∃ i,x=.str i)\/(∃ i,x=.ref i))/\Q (.bl false) H)
theorem DD:cN X (compareOp .Is) Fc:=by
 intro Z_ s σ H x y v u Q I rx ry h;obtain⟨rfl,h⟩:=h;cases ry;rcases h with⟨rfl,q⟩|⟨⟨i,rfl⟩|⟨i,rfl⟩|⟨i,rfl⟩,q⟩
 .cases rx;exact Ql ⟨.bl true,H,I,rfl,q⟩
 .obtain⟨t,rfl⟩:=rx;exact Ql ⟨.bl false,H,I,rfl,q⟩
 .obtain⟨t,rfl⟩:=rx;exact Ql ⟨.bl false,H,I,rfl,q⟩
 .cases rx;exact Ql ⟨.bl false,H,I,rfl,q⟩
theorem Pk:∀ σ H Q,tD K (e2 yu fa fb) σ H Q->iS Fc (tD K fa) (tD K fb) σ H Q:=oA λx y d h=>by
 unfold yu at h;split at h
 .cases h;exact⟨_,rfl,λH w o o' q q' u u' F F' r1 r2 _ Q hq=>⟨r2.inv.1,.inl ⟨r1.inv.1,hq⟩⟩⟩
 .cases h;exact⟨_,rfl,λH w o o' q q' u u' F F' r1 r2 _ Q hq=>have ⟨a,_,_,e,_⟩:=r1.inv;⟨r2.inv.1,.inr ⟨.inr (.inr ⟨a,e⟩),hq⟩⟩⟩
 .cases h;exact⟨_,rfl,λH w o o' q q' u u' F F' r1 r2 _ Q hq=>⟨r2.inv.1,.inr ⟨.inl ⟨_,r1.inv.1⟩,hq⟩⟩⟩
 .cases h;exact⟨_,rfl,λH w o o' q q' u u' F F' r1 r2 _ Q hq=>have ⟨a,_,e,_⟩:=r1.inv;⟨r2.inv.1,.inr ⟨.inr (.inr ⟨a,e⟩),hq⟩⟩⟩
 .cases h;exact⟨_,rfl,λH w o o' q q' u u' F F' r1 r2 _ Q hq=>⟨r2.inv.1,.inr ⟨.inr (.inl ⟨_,r1.inv.1⟩),hq⟩⟩⟩
 .cases h
theorem Pl(ha:QD X a fa)(hb:QD X b fb):iI X (.Compare a [.Is] [b] pos) (bM (e2 yu fa fb)):=⟨have ha:=ha.o;have hb:=hb.o;rq DD Pk ha hb (qJ _)⟩
def vM (d:D)(ds:List D):Nat:=(d3 ds).countP λy=>PyData.eqv y (cn d)
def Pm (K:PySem.W.Frag):V->List V->Hp->VK->Prop:=λx xs H Q=>∃ ds d y,xs=[y]/\Is K H (.lst ds) x/\Is K H d y/\eY (.lst ds)=true/\eY d=true/\Q (.int (Int.ofNat (vM d ds))) H
theorem Pn(hu:X.A.units+65<cLine):qQ X "list.count" (Pm X.K):=by
 intro Z_ s σ H x xs v us Q I rx rs ⟨ds,d,y,e,⟨w,o,q,F,h1⟩,⟨w',o',q',F',h2⟩,k1,k2,hq⟩;subst e;obtain⟨u,rfl,ru⟩:=lN rs;obtain⟨as,ra⟩:=h1.reads I rx (lg k1);obtain⟨bs,rb⟩:=h2.reads I ru (lg k2);replace k1:=lh k1;replace k2:=lh k2;unfold cn at ra k1;have mv:PyData.canLayAll0 (d3 ds)=true:=QP k1;have k9:=QP k2;cases ra with
 | @list a ob vs n _ _ ho tS hd vN=>
  obtain⟨cls,dd,data,sl⟩:=ob;simp only at tS hd;subst tS hd;have oQ:=SeqAt.readsAll_map _ _ _ mv vN;have Bw:vs.toList.countP (λy=>PyData.eqv (SeqAt.readOf s.heap y) (cn d))=vM d ds:=by unfold vM;rw[<- oQ,List.countP_map];rfl
  refine Zs Yh ⟨_,ho,rfl⟩ PySem.F.entry_list_count (PySem.F.args_list_count_2 _ _)
   (list_countAt a vs n dd sl u (λy=>PyData.eqv (SeqAt.readOf s.heap y) (cn d))) ⟨ho,SeqAt.items_eqAt vN rb mv k9 (Z4 k2 hu),?_⟩
  rw[Bw];exact⟨.int (Int.ofNat (vM d ds)),H,I.tok _,⟨_,rfl⟩,hq⟩
def Bx (fo:aA)(g:bQ):aA:=λρ=>match fo ρ with
 | some (.lst ds,_,ac)=>match g ac with
  | some ([d],ad)=>if eY (.lst ds)=true/\eY d=true then some (.int (Int.ofNat (vM d ds)),9,ad)else none
  | _=>none
 | _=>none
def Po (K:PySem.W.Frag):V->List V->Hp->VK->Prop:=λx xs H Q=>∃ ds d y j,xs=[y]/\Is K H (.lst ds) x/\Is K H d y/\eY (.lst ds)=true/\eY d=true/\vi d ds=some j/\(j:Int)<1000/\Q (.int (Int.ofNat j)) H
theorem Pp(hu:X.A.units+65<cLine):qQ X "list.index" (Po X.K):=by
 intro Z_ s σ H x xs v us Q I rx rs ⟨ds,d,y,j,e,⟨w,o,q,F,h1⟩,⟨w',o',q',F',h2⟩,k1,k2,hj,Fd,hq⟩;subst e;obtain⟨u,rfl,ru⟩:=lN rs;obtain⟨as,ra⟩:=h1.reads I rx (lg k1);obtain⟨bs,rb⟩:=h2.reads I ru (lg k2);replace k1:=lh k1;replace k2:=lh k2;unfold cn at ra k1;have mv:PyData.canLayAll0 (d3 ds)=true:=QP k1;have k9:=QP k2;cases ra with
 | @list a ob vs n _ _ ho tS hd vN=>
  obtain⟨cls,dd,data,sl⟩:=ob;simp only at tS hd;subst tS hd;have oQ:=SeqAt.readsAll_map _ _ _ mv vN;have Pq:=ZF.mp hj;obtain⟨Pr,Pt,Pu⟩:=Pq;have hlen:vs.size=(d3 ds).length:=by rw[<- oQ];simp
  have tT:∀ m (hm:m<vs.size) (Fe:m<(d3 ds).length),SeqAt.readOf s.heap vs[m]=(d3 ds)[m]:=λm hm Fe=>by
   have:(vs.toList.map (SeqAt.readOf s.heap))[m]? = (d3 ds)[m]?:=by rw[oQ]
   simpa [hm,Fe]using this
  refine Zs Yi ⟨_,ho,rfl⟩ PySem.F.entry_list_index (PySem.F.args_list_index_2 _ _)
   (list_indexAt a vs n dd sl u (λy=>PyData.eqv (SeqAt.readOf s.heap y) (cn d)) j (by omega) (by omega) (by rw[tT j (by omega) Pr];simpa using Pt) (λm hm Pw=>by rw[tT m hm (by omega)];simpa using Pu m Pw)) ⟨ho,SeqAt.items_eqAt vN rb mv k9 (Z4 k2 hu),?_⟩
  exact⟨.int (Int.ofNat j),H,I.tok _,⟨_,rfl⟩,hq⟩
def yv (fo:aA)(g:bQ):aA:=λρ=>match fo ρ with
 | some (.lst ds,_,ac)=>match g ac with
  | some ([d],ad)=>if eY (.lst ds)=true/\eY d=true then match vi d ds with
   | some j=>if(j:Int)<1000 then some (.int (Int.ofNat j),9,ad)else none
   | none=>none
   else none
  | _=>none
 | _=>none
theorem Rep.Ff{H:Hp}{w:Wn}{ds:List D}{v:V}{F:List Addr}(r:Rep K H w .f 0 (.lst ds) v F):∃ a us,v=.ref a/\cM K H a us:=by obtain⟨a,vs,e,h,_⟩:=r.d_;exact⟨a,vs,e,h⟩
theorem Px(hr:bc k X.A)(ho:QD X a fa)(ha:eO X [e] g)(bS:attributeBase a "count" X.env (eval a X.env)=eval a X.env:=by rfl)(di:((backTo az (starEach [e] X.env)).all (λx=>!x.1)&&(backToKw az (keywordEach [] X.env)).all (λx=>x.1.isSome)
   && decide ([e].length+([]:List Keyword).length+(if([]:List Keyword).isEmpty then 0 else 1)<30))=true:=by rfl) (bT:(apos.endLine==az.line)=true:=by rfl) (hs:starEach [e] X.env=(false,eval e X.env)::starEach [] X.env:=by rfl) (bg:(backTo az (starEach [] X.env)).any (·.1)=false:=by rfl):QD X (.Call (.Attribute a "count" apos) [e] [] az) (Bx fa g):=⟨have ho:=ho.o;have ha:=ha.o;PE.imp (om Zw Yh PySem.F.type_list_count (Pn (vg hr)) ho ha bS di bT hs bg) λσ H Q ak=>by
 obtain⟨ρ,w,t,r',q,aB,gd,ee,k⟩:=ak;unfold Bx at ee;split at ee;next ds q1 ac h1=>
  split at ee;next d ad h2=>
   split at ee;next aK=>
    cases ee;refine⟨ρ,w,t,_,_,_,gd,h1,λv H1 w1 F1 g1 aJ r1=>?_⟩;have r0:=r1.drop (o:=.f) (Qf t);have gg:=g1.drop (t':=t);obtain⟨p0,us,rfl,hq⟩:=Rep.Ff r0;refine⟨.inl ⟨rfl,us,hq⟩,ac,cm t w1,t,_,_,gg,h2,λyw H2 w2 g2 bb r2=>?_⟩;obtain⟨v2,rfl,oR⟩:=one r2;have r3:Rep X.K H2 w2 .f 0 (.lst ds) (.ref p0) []:=r0.j7 gg.wl bb.bw;exact⟨ds,d,v2,rfl,⟨_,_,_,_,r3⟩,⟨_,_,_,_,oR⟩,aK.1,aK.2,k _ H2 w2 [] g2.up ((aJ.drop gd.wt).trans bb) (.int _)⟩
   .cases ee
  .cases ee
 .cases ee⟩
theorem Py(hr:bc k X.A)(ho:QD X a fa)(ha:eO X [e] g)(bS:attributeBase a "index" X.env (eval a X.env)=eval a X.env:=by rfl)(di:((backTo az (starEach [e] X.env)).all (λx=>!x.1)&&(backToKw az (keywordEach [] X.env)).all (λx=>x.1.isSome)
   && decide ([e].length+([]:List Keyword).length+(if([]:List Keyword).isEmpty then 0 else 1)<30))=true:=by rfl) (bT:(apos.endLine==az.line)=true:=by rfl) (hs:starEach [e] X.env=(false,eval e X.env)::starEach [] X.env:=by rfl) (bg:(backTo az (starEach [] X.env)).any (·.1)=false:=by rfl):QD X (.Call (.Attribute a "index" apos) [e] [] az) (yv fa g):=⟨have ho:=ho.o;have ha:=ha.o;PE.imp (om Zw Yi PySem.F.type_list_index (Pp (vg hr)) ho ha bS di bT hs bg) λσ H Q ak=>by
 obtain⟨ρ,w,t,r',q,aB,gd,ee,k⟩:=ak;unfold yv at ee;split at ee;next ds q1 ac h1=>
  split at ee;next d ad h2=>
   split at ee;next aK=>
    split at ee;next j hj=>
     split at ee;next Fd=>
      cases ee;refine⟨ρ,w,t,_,_,_,gd,h1,λv H1 w1 F1 g1 aJ r1=>?_⟩;have r0:=r1.drop (o:=.f) (Qf t);have gg:=g1.drop (t':=t);obtain⟨p0,us,rfl,hq⟩:=Rep.Ff r0;refine⟨.inl ⟨rfl,us,hq⟩,ac,cm t w1,t,_,_,gg,h2,λyw H2 w2 g2 bb r2=>?_⟩;obtain⟨v2,rfl,oR⟩:=one r2;have r3:Rep X.K H2 w2 .f 0 (.lst ds) (.ref p0) []:=r0.j7 gg.wl bb.bw;exact⟨ds,d,v2,j,rfl,⟨_,_,_,_,r3⟩,⟨_,_,_,_,oR⟩,aK.1,aK.2,hj,Fd,k _ H2 w2 [] g2.up ((aJ.drop gd.wt).trans bb) (.int _)⟩
     .cases ee
    .cases ee
   .cases ee
  .cases ee
 .cases ee⟩
end
end L3
namespace L3
open PySem PySem.Spec PyProof.Rows L2
section
variable {X:Cx}{a b c e:Expr}{fa fb fc f:aA}{pos p p1 p2 pT az apos:Pos}
@[simp] def js (fa:aA)(fl fh:lp):aA:=λρ=>match fa ρ with
 | some (.lst ds,_,ac)=>match fl ac with
  | some (lo,ad)=>match fh ad with
   | some (hi,dI)=>some (.lst (lu ds lo hi),1,dI)
   | none=>none
  | none=>none
 | _=>none
theorem oS{lo hi:Option Expr}{fl fh:lp}(ha:QD X a fa)(hl:p_ X lo fl)(hh:p_ X hi fh):QD X (.Subscript a (.Slice lo hi none p2) pos) (js fa fl fh):=⟨have ha:=ha.o;have hl:=hl.o;have hh:=hh.o;PE.imp (zW Mf ha hl hh) λσ H Q ak=>by
 obtain⟨ρ,w,t,r',q,aB,gd,ee,k⟩:=ak;unfold js at ee;split at ee;next ds q1 ac h1=>
  split at ee;next lo ad h2=>
   split at ee;next hi dI h3=>
    cases ee;refine⟨ρ,w,t,_,_,_,gd,h1,λv H1 w1 F1 g1 aJ r1=>?_⟩;have rS:=g1.drop (t':=t);have r0:=r1.drop (o:=.f) (Qf t);refine⟨ac,cm t w1,t,_,_,rS,h2,λH2 w2 g2 bb=>⟨ad,w2,t,_,_,g2,h3,λH3 w3 g3 iw=>?_⟩⟩;have r3:=(r0.j7 rS.wl bb.bw).j7 g2.wl iw.bw;obtain⟨p1,vs,rfl,mx,s1⟩:=r3.d_;have l1:=s1.length;refine⟨p1,vs,rfl,mx,λp hp=>?_⟩;have s4:ag X.K H3 w3 .f 0 (lu ds lo hi) (nq vs lo hi) []:=by unfold lu nq;rw[<- l1];exact(s1.mf _).my _
    obtain⟨a1,a2,a3⟩:=pP g3 hp s4;exact k _ _ _ _ a1 ((((aJ.drop gd.wt).trans bb).trans iw).trans a2) a3
   .cases ee
  .cases ee
 .cases ee⟩
end
end L3
namespace L3
open PySem PySem.Spec PyProof.Rows PySem.W L2
variable {j k n:Nat}{z:Str}
def vO (K:PySem.W.Frag)(x:cY)(E:XK):St->Hp->Prop:=λσ H=>∃ ρ w t nm,Good K ρ σ H w t/\x ρ=some nm/\∀ C H' w',nsIn K mainGlobals nm=some (some (.ref C))->WL K w' H'->Go H w H' w'->E (.ref C) none H'
theorem tX.e{K:PySem.W.Frag}{x:cY}{E:XK}{D:Ends}{σ:St}{H:Hp}(h:tX K x E D σ H):vO K x E σ H:=by obtain⟨ρ,w,nm,g,e,k⟩:=h;exact⟨ρ,w,0,nm,g,e,k⟩
def yx:cY:=λ_=>none
def ly (x y:cY):cY:=λρ=>match x ρ with
 | some nm=>some nm
 | none=>y ρ
def jG (f:aH)(x:cY):cY:=λρ=>match f ρ with
 | some (.nx ac)=>x ac
 | _=>none
def oU (g:cy)(x y:cY):cY:=λρ=>match g ρ with
 | some (b,ac)=>if b=true then x ac else y ac
 | none=>none
def yy (nm:Str):cY:=λ_=>some nm
abbrev Fg (X:Cx)(E:XK)(e:Expr)(x:cY):Prop:=PE X e λσ H _=>vO X.K x E σ H
structure mC (X:Cx) (E:XK) (e:Expr) (x:cY):Prop where mk::o:Fg X E e x
abbrev Fh (X:Cx)(E:XK)(es:List Expr)(x:cY):Prop:=PA X es λσ H _=>vO X.K x E σ H
structure By (X:Cx) (E:XK) (e:List Expr) (x:cY):Prop where mk::o:Fh X E e x
abbrev Pz (X:Cx)(E:XK)(st:Stmt)(x:cY):Prop:=PS X st (tX X.K x E)
structure tU (X:Cx) (E:XK) (e:Stmt) (x:cY):Prop where mk::o:Pz X E e x
abbrev PB (X:Cx)(E:XK)(ss:List Stmt)(x:cY):Prop:=gL X ss (tX X.K x E)
structure nG (X:Cx) (E:XK) (e:List Stmt) (x:cY):Prop where mk::o:PB X E e x
section
variable {X:Cx}{E:XK}{st:Stmt}{ss cb a b:List Stmt}{x y:cY}{f:aH}{g:cy}{c e:Expr}{es:List Expr}{pos pos' p:Pos}
theorem Fi:nG X E ss yx:=⟨λ_ _ _ _ _ _ h=>by obtain⟨_,_,_,_,e,_⟩:=h;cases e⟩
theorem tV(hx:nG X E ss x)(hy:nG X E ss y):nG X E ss (ly x y):=⟨have hx:=hx.o;have hy:=hy.o;λZ_ s σ H D I h=>by
 obtain⟨ρ,w,nm,g,e,k⟩:=h;unfold ly at e;split at e;next qe h1=>
  cases e;exact hx Z_ s σ H D I ⟨ρ,w,_,g,h1,k⟩
 .exact hy Z_ s σ H D I ⟨ρ,w,nm,g,e,k⟩⟩
theorem oV(h1:j6 X st f)(h2:nG X E cb x):nG X E (st::cb) (jG f x):=⟨have h1:=h1.o;have h2:=h2.o;gL.imp (Du h1 h2) λD σ H ak=>by
 obtain⟨ρ,w,nm,g,e,k⟩:=ak;unfold jG at e;split at e;next ac h1=>
  exact⟨ρ,w,.nx ac,g,h1,λaP H' w' hl g' fP=>⟨ac,w',nm,g',e,λC H2 w2 n wl bb=>k C H2 w2 n wl (fP.trans bb)⟩⟩
 .cases e⟩
theorem lz(h:tU X E st x):nG X E (st::cb) x:=⟨have h:=h.o;by
 intro Z_ s σ H D I hh;refine Jq (a_ (h Z_ s σ H { nx:=λ_ _=>False,rt:=λ_ _=>False } I hh) λfl s1 q=>?_);cases fl with
 | next=>obtain⟨_,_,_,z⟩:=q;exact z.elim
 | brk=>obtain⟨_,_,_,z⟩:=q;exact z.elim
 | cont=>obtain⟨_,_,_,z⟩:=q;exact z.elim
 | ret u=>obtain⟨_,_,_,_,_,z⟩:=q;exact z.elim⟩
theorem Fj(hc:iI X c g)(ha:nG X E a x)(hb:nG X E b y):tU X E (.If c a b pos) (oU g x y):=⟨have hc:=hc.o;have ha:=ha.o;have hb:=hb.o;PS.imp (Dw hc ha hb) λD σ H ak=>by
 obtain⟨ρ,w,nm,gd,e,k⟩:=ak;unfold oU at e;split at e;next b' ac h1=>
  refine⟨ρ,w,0,b',ac,gd,h1,λH1 w1 g1 aJ=>?_⟩;cases b' with
  | true=>exact⟨ac,w1,nm,g1,e,λC H2 w2 n wl bb=>k C H2 w2 n wl (aJ.trans bb)⟩
  | false=>exact⟨ac,w1,nm,g1,e,λC H2 w2 n wl bb=>k C H2 w2 n wl (aJ.trans bb)⟩
 .cases e⟩
theorem tW(he:mC X E e x)(hs:swapsWith e (some (.Name z pos')) pos.line X.env=pure false:=by rfl):tU X E (.Assign [.Name z pos'] e pos) x:=⟨have he:=he.o;by intro Z_ s σ H D I h;refine J4 (a_ (he Z_ s σ H (λ_ _=>False) I h.e) λv s1 q=>?_) hs;obtain⟨_,_,_,_,z⟩:=q;exact z.elim⟩
theorem PC(he:mC X E e x):tU X E (.Return (some e) pos) x:=⟨have he:=he.o;by intro Z_ s σ H D I h;refine wpAny_Return_some (a_ (he Z_ s σ H (λ_ _=>False) I h.e) λv s1 q=>?_);obtain⟨_,_,_,_,z⟩:=q;exact z.elim⟩
theorem Fl(he:Fg X E e x)(hs:starEach (e::es) X.env=(false,eval e X.env)::starEach es X.env:=by rfl):Fh X E (e::es) x:=
 PA.imp (kE (t:=λ_ _ _=>False) he (λ_ _ _ _ _ _ _ h=>h.elim) hs) λσ H Q h=>h
theorem PF{x1}(h:By X E es x):mC X E (.Tuple es x1 pos) x:=⟨have h:=h.o;PE.imp (DJ h) λσ H Q h=>h⟩
theorem PH{F:List D->OD}(C:aw X.prog X.w X.K X.mg X.base k z n F)(hr:bc j X.A)(hk:k<=j)(ha:By X E (e::es) x)(hg:Gl X z:=by rfl)(fO:(z==("__debug__":Str))=false:=by decide)(he:starEach (e::es) X.env=(false,eval e X.env)::starEach es X.env:=by rfl)(cR:(backTo pos (starEach es X.env)).any (·.1)=false:=by rfl):mC X E (.Call (.Name z p) (e::es) [] pos) x:=⟨have ha:=ha.o;by obtain⟨f,fd,ps,G,hm,oI,hb⟩:=C;exact PE.imp (xw (E:=λ_ _ _=>False) G (hr.mono hk) hg hm oI hb .nil D6 ha fO he cR) λσ H Q h=>h⟩
end
section
variable {P:Program}{w:World}{K:PySem.W.Frag}{mg:Str->Option Value}{base:Heap}{N:List Str}{qual:Str}{scope:Scope}{f:Addr}{cd:Value}{A:Around}{outer:List Env}{ai:Shared}{aD:Hp}{E:XK}
theorem Fm{nm txt:Str}{k j:Nat}{np az oN pos:Pos}(hr:bc k (A.deeper (envOfC qual scope ai.heap.objs.size f cd)))(hC:∃ C,yo K mg nm C)(hg:Gl (df P w K mg base N qual scope f cd A outer ai aD E) nm:=by rfl)(fO:(nm==("__debug__":Str))=false:=by decide):tU (df P w K mg base N qual scope f cd A outer ai aD E) E (.Raise (some (.Call (.Name nm np) [.Constant (.str txt) j oN] [] az)) none pos) (yy nm):=⟨by obtain⟨C,hC⟩:=hC;refine PS.imp (O6 hr.hd hC hg fO) λD σ H ak=>?_;obtain⟨ρ,w',qe,g,e,k⟩:=ak;cases e;exact k C H w' hC.ns g.wl Go.refl⟩
theorem Bz{x:Str}{F:List D->Option Str}{e:Expr}{es:List Expr}{g:bQ}{p pos:Pos}(BA:gR P w K mg base k x n F)(hr:bc j (A.deeper (envOfC qual scope ai.heap.objs.size f cd)))(hk:k<=j)(ha:eO (df P w K mg base N qual scope f cd A outer ai aD E) (e::es) g)(hg:Gl (df P w K mg base N qual scope f cd A outer ai aD E) x:=by rfl)(fO:(x==("__debug__":Str))=false:=by decide)(he:starEach (e::es) (envOfC qual scope ai.heap.objs.size f cd)=(false,eval e (envOfC qual scope ai.heap.objs.size f cd))::starEach es (envOfC qual scope ai.heap.objs.size f cd):=by rfl)(cR:(backTo pos (starEach es (envOfC qual scope ai.heap.objs.size f cd))).any (·.1)=false:=by rfl):mC (df P w K mg base N qual scope f cd A outer ai aD E) E (.Call (.Name x p) (e::es) [] pos) (iM F n g):=⟨have ha:=ha.o;by
 obtain⟨fn,fd,ps,G,hm,oI,hb⟩:=BA;refine PE.imp (xw (X:=df P w K mg base N qual scope f cd A outer ai aD E) (E:=E) G (hr.mono hk) hg hm oI hb .nil (λZ_ σ H s e s' I h=>O2 (λ_ _ h=>h) I h) ha fO he cR) λσ H Q ak=>?_;obtain⟨ρ,w',t,nm,gd,e,k'⟩:=ak;unfold iM at e;split at e;next ds ac h1=>
  split at e;next hn=>
   refine⟨ρ,w',t,ds,ac,gd,h1,λvs H1 w1 g1 aJ r1=>?_⟩;show yq K n F (vs++[]) H1 Q E;rw[QY];refine⟨by rw[<- r1.length];exact hn,ds,λa=>(w1 a).map λ_=>Ow.f,nm,λa o e=>?_,⟨λa o e=>?_,g1.wl.tb⟩,?_,e,λC H2 w2 g8 rp bb=>k' C H2 w1 g8 ⟨λa o ew=>?_,rp.tb⟩ (aJ.trans ⟨λa x e n=>?_,λa o ew no=>?_⟩)⟩
   .try dsimp only at e
    cases ew:w1 a with
    | none=>rw[ew]at e;cases e
    | some o'=>rw[ew]at e;cases e;rfl
   .try dsimp only at e
    cases ew:w1 a with
    | none=>rw[ew]at e;cases e
    | some o'=>exact g1.wl a o' ew
   .exact ag.freeze (λa n=>by show(w1 a).map _=_;rw[n];rfl) r1 nM
   .obtain⟨l8,q⟩:=g1.wl a o ew;have:=(bb.keep a .f (by show(w1 a).map _=_;rw[ew];rfl) (λi z=>nomatch z)).1;exact⟨l8,by rw[this];exact q⟩
   .exact⟨(bb.bw a x e (by show(w1 a).map _=_;rw[n];rfl)).1,n⟩
   .exact⟨(bb.keep a .f (by show(w1 a).map _=_;rw[ew];rfl) (λi z=>nomatch z)).1,ew⟩
  .cases e
 .cases e⟩
end
abbrev rY:=aV->Option (Str×aV)
def CE (Y:Cx)(Z_:List (Addr×Obj))(σ:St)(H:Hp)(w:Wn)(nm:Str)(ac:aV)(ev:Value)(s':Shared):Prop:=
 ∃ s1 H1 w1 a C t B H',ev=.ref a/\Inv Y.g7 Z_ σ H1 s1/\Good Y.K ac σ H1 w1 0/\Go H w H1 w1/\nF Y.prog Y.w Y.stack H1 s1 a C t B H' s'/\nsIn Y.K mainGlobals nm=some (some (.ref C))/\(∀ b o,H1 b=some o->Sm o (H' b))/\TB Y.K H'
def PJ (Y:Cx)(st:Stmt)(y:rY):Prop:=∀ (Z_:List (Addr×Obj)) (s:Shared) (σ:St) (H:Hp) (ρ:aV) (w:Wn) (nm:Str) (ac:aV),Inv Y.g7 Z_ σ H s->Good Y.K ρ σ H w 0->y ρ=some (nm,ac)->
 wpAny (model Y.prog Y.w) Y.A (exec st Y.env) (λ_ _=>False) (CE Y Z_ σ H w nm ac) s
structure Fn (Y:Cx) (e:Stmt) (y:rY):Prop where mk::o:PJ Y e y
def PK (Y:Cx)(ss:List Stmt)(y:rY):Prop:=∀ (Z_:List (Addr×Obj)) (s:Shared) (σ:St) (H:Hp) (ρ:aV) (w:Wn) (nm:Str) (ac:aV),Inv Y.g7 Z_ σ H s->Good Y.K ρ σ H w 0->y ρ=some (nm,ac)->
 wpAny (model Y.prog Y.w) Y.A (execs ss Y.env) (λ_ _=>False) (CE Y Z_ σ H w nm ac) s
structure Fp (Y:Cx) (e:List Stmt) (y:rY):Prop where mk::o:PK Y e y
def rZ (Fx:List D->Option Str)(n:Nat)(g:bQ):rY:=λρ=>match g ρ with
 | some (ds,ac)=>if ds.length=n then(Fx ds).map λnm=>(nm,ac)else none
 | none=>none
def vP (L:List Str)(f:aH)(y:rY)(ie ik:Nat):aH:=λρ=>match y ρ with
 | some (nm,ac)=>if nm∈L then some (.nx (((ac.set ie (some (.exc nm,9))).set ik (some (.exc nm,9))).set ie none))else none
 | none=>f ρ
section
variable {Y:Cx}{c e:Expr}{es:List Expr}{g:bQ}{gt:cy}{x y:rY}{a b ss:List Stmt}{st:Stmt}{pos:Pos}
theorem PL(h:Fn Y st y):Fp Y [st] y:=⟨have h:=h.o;λZ_ s σ H ρ w nm ac I gd e=>
 Jq (a_ (h Z_ s σ H ρ w nm ac I gd e) λ_ _ z=>z.elim)⟩
theorem PM{z u:Str}{Fx:List D->Option Str}{yp fp az iW:Pos}(CX:gR Y.prog Y.w Y.K Y.mg Y.base k z n Fx)(hr:bc j Y.A)(hk:k<=j)(ha:eO Y.g7 (e::es) g)(PN:Gl Y z:=by rfl)(PR:(z==("__debug__":Str))=false:=by decide)(PU:swapsWith (.Call (.Name z fp) (e::es) [] az) (some (.Name u yp)) iW.line Y.env=pure false:=by rfl)(he:starEach (e::es) Y.env=(false,eval e Y.env)::starEach es Y.env:=by rfl)(cR:(backTo az (starEach es Y.env)).any (·.1)=false:=by rfl):Fn Y (.Assign [.Name u yp] (.Call (.Name z fp) (e::es) [] az) iW) (rZ Fx n g):=⟨have ha:=ha.o;by
 intro Z_ s σ H ρ w nm ac I gd ee;unfold rZ at ee;split at ee;next ds ad h1=>
  split at ee;next hn=>
   obtain⟨qe,hx,e0⟩:=Zm.mp ee;cases e0;obtain⟨fn,fd,ps,G,hm,oI,hb⟩:=CX;refine J4 ?_ PU;refine Ji (sY (X:=Y.g7) I PN hm ?_ PR);refine W.callWith_K (h₀:=Y.base) I.ok.mod.sV oI (Q2 (ha az Z_ s σ H (λvs H1=>∃ w1,Good Y.K ac σ H1 w1 0/\Go H w H1 w1/\ag Y.K H1 w1 .f 0 ds vs []) I ⟨ρ,w,0,ds,ac,gd,h1,λvs H1 w1 g1 aJ r1=>⟨w1,g1,aJ,r1⟩⟩) (λus s1 rJ=>?_) (λ_ _ z=>False.elim z)) he cR;obtain⟨vs,H1,I1,rv,w1,g1,aJ,r1⟩:=rJ;refine⟨I1.fu,?_⟩;have jz:yq Y.K n Fx vs H1 (λ_ _=>False) (λc _ H'=>∃ C,c=.ref C/\nsIn Y.K mainGlobals nm=some (some (.ref C))/\(∀ b o,H1 b=some o->Sm o (H' b))/\TB Y.K H'):=by
    refine⟨by rw[<- r1.length];exact hn,ds,λa=>(w1 a).map λ_=>Ow.f,nm,λa o e=>?_,⟨λa o e=>?_,g1.wl.tb⟩,?_,hx,λC H2 w2 g8 rp bb=>⟨C,rfl,g8,λb o e=>?_,rp.tb⟩⟩
    .try dsimp only at e
     cases ew:w1 a with
     | none=>rw[ew]at e;cases e
     | some o'=>rw[ew]at e;cases e;rfl
    .try dsimp only at e
     cases ew:w1 a with
     | none=>rw[ew]at e;cases e
     | some o'=>exact g1.wl a o' ew
    .exact ag.freeze (λa n=>by show(w1 a).map _=_;rw[n];rfl) r1 nM
    .cases ew:w1 b with
     | none=>exact(bb.bw b o e (by show(w1 b).map _=_;rw[ew];rfl)).1
     | some o'=>exact sm (((bb.keep b .f (by show(w1 b).map _=_;rw[ew];rfl) (λi z=>nomatch z)).1).trans e)
   have hl:us.length=ps.length:=by rw[<- rv.length];exact G.len _ _ _ _ jz
   have xE:=hb s1 us I1.fu (by rw[QY];exact hl);rw[QY]at xE;refine wpAny_call (JK (G.run Y.A Y.stack s1 H1 ⟨us,[]⟩ us vs _ _ (hr.mono hk) I1.uO xE rv jz) λr s' hq=>?_);cases r with
   | ok fl=>
    cases fl with
    | ret u=>obtain⟨_,_,_,z⟩:=I1.after hq;exact z.2.elim
    | next=>exact False.elim hq
    | brk=>exact False.elim hq
    | cont=>exact False.elim hq
   | error ev=>
    obtain⟨a,C,t,B,H',rfl,F',C',eC,g8,oW,BB⟩:=hq;cases eC;exact⟨s1,H1,w1,a,C,t,B,H',rfl,I1,g1,aJ,F',g8,oW,BB⟩
  .cases ee
 .cases ee⟩
theorem PV{R nn kx:Str}{L:List Str}{f:aH}{ie ik:Nat}{np kp vp apos mz:Pos}(hU:oO Y.K Y.mg R L)(hf:gP Y.g7 ss f)(hx:Fp Y ss y)(hN:Y.N.Nodup)(rW:Y.N[ie]? = some nn)(yr:Y.N[ik]? = some kx)(lK:Y.stack=Y.env::Y.outer:=by rfl)(Bn:Y.env.frame=some Y.env.locals:=by rfl)(eH:Y.env.scope.names.lookup nn=some .local:=by rfl)(yt:Y.env.scope.names.lookup kx=some .local:=by rfl)(hg:Gl Y R:=by rfl)(fO:(R==("__debug__":Str))=false:=by decide)(Bp:(nn==("__debug__":Str))=false:=by decide)(Bq:(nn==("__classdict__":Str))=false:=by decide)(rf:swapsWith (.Name nn vp) (some (.Name kx kp)) apos.line Y.env=pure false:=by rfl):j6 Y.g7 (.Try ss [.ExceptHandler (some (.Name R np)) (some nn) [.Assign [.Name kx kp] (.Name nn vp) apos] mz] [] [] pos) (vP L f y ie ik):=⟨have hf:=hf.o;have hx:=hx.o;by
 intro Z_ s σ H Dn I hh;obtain⟨ρ,w,o,gd,ee,K'⟩:=hh;unfold vP at ee;refine wpAny_Try_except ?_;split at ee;next nm ac h1=>
  split at ee;next hL=>
   cases ee;obtain⟨RA,hR,Bo,hmg,il⟩:=hU;refine Q2 (hx Z_ s σ H ρ w nm ac I gd h1) (λ_ _ z=>z.elim) λev s' q=>?_;obtain⟨s1,H1,w1,a,C,t,B,H',rfl,I1,g1,aJ,F',g8,oW,BB⟩:=q;obtain⟨PX,dY⟩:=il nm hL C g8;refine O_ (X:=Y.g7) I1 F' lK Bn hN rW yr eH yt hR Bo dY hmg hg fO Bp Bq rf λs5 oe xn I5=>?_;have vQ:ie<σ.length:=by rw[I.len];exact(Qs.mp rW).1
   have BC:ik<σ.length:=by rw[I.len];exact(Qs.mp yr).1
   have vR:=F'.free;obtain⟨g2,bb⟩:=g1.grow (H':=upd H' a (tR a oe)) (λb o q=>by obtain⟨y,ey,_⟩:=(oW b o q).is;unfold upd;rw[Qw (λz=>by rw[<- z,ey]at vR;cases vR)];exact oW b o q) (BB.upd rfl (.inl vR))
   have rep:∀ w',Rep Y.K (upd H' a (tR a oe)) w' .f 0 (.exc nm) (.ref a) []:=λw'=>.exc (ob:=oe) (u:=.ext λh=>h.get? a=some oe) (by unfold upd;rw[Qk rfl];rfl) ⟨C,xn,PX⟩ (λ_ z=>nomatch z);obtain⟨g3,iw⟩:=g2.rD (i:=ie) vQ (rep _);obtain⟨g4,j8⟩:=g3.rD (i:=ik) (by rw[QC];exact BC) (rep _);obtain⟨g5,jn⟩:=g4.unset (i:=ie) (v:=none) (by rw[QC,QC];exact vQ);exact⟨_,_,I5,K' _ _ _ (by rw[QC,QC,QC]) g5 ((((aJ.trans bb).trans iw).trans j8).trans jn)⟩
  .cases ee
 .refine Q2 (hf Z_ s σ H Dn I ⟨ρ,w,o,gd,ee,K'⟩) (λfl s1 q=>?_) (λ_ _ z=>False.elim z);cases fl with
  | next=>exact JB q
  | brk=>exact q
  | cont=>exact q
  | ret u=>exact q⟩
end
end L3
namespace L3
open PySem PySem.Spec PyProof.Rows L2
theorem Rep.BD{K:PySem.W.Frag}{H:Hp}{w:Wn}{o:Ow}{q:Nat}{ds:List D}{v:V}{F:List Addr}(r:Rep K H w o q (.lst ds) v F)(hq:q<=1):∃ a vs,v=.ref a/\cM K H a vs/\ag K H w o 0 ds vs []:=by
 match q,hq with
 | 0,_=>exact r.d_
 | 1,_=>
  obtain⟨a,vs,e,F',_,h,_,r,_⟩:=r.inv;have z:=r.zero;subst z;exact⟨a,vs,e,cM.of h,r⟩
end L3
namespace L3
open PySem PySem.Spec PyProof.Rows PySem.W L2
abbrev met (ks:List Int):List Int:=firstMet (λi=>ks.getD i 0) ks.length
def bl (m:Nat):List Nat:=(range 5).filter λi=>m.testBit i
def bt (m:Nat)(led:Bool):SetTable:={ mask:=if(bl m).length<5 then 7 else 31,place:=(bl m).toArray,dummies:=#[],finger:=0,led:=led,moves:=if(bl m).length<5 then 0 else 1,plain:=true }
def PY (m:Nat)(z:Nat->Tok):Array (Int×Value):=((bl m).map λv:Nat=>(Int.ofNat v,Value.int (Int.ofNat v) (z v))).toArray
def so (m:Nat)(z:Nat->Tok)(ep:Nat)(led:Bool):Obj:={ cls:=.type "set",dict:=none,data:=.set (PY m z) ep (bt m led) }
def bor (m v:Nat):Nat:=m ||| 1 <<< v
def mb (val:Nat->Nat):Nat->Nat
 | 0=>0
 | i+1=>bor (mb val i) (val i)
theorem xD:∀ {ks:List Int} {us:List Value},IntsAre us ks->bf (ks.map V.int) us
 | _,_,.nil=>.nil
 | _,_,.cons k t r=>.cons ⟨t,rfl⟩ (xD r)
end L3
namespace L3
open PySem PySem.Spec PyProof.Rows L2
end L3
namespace L3
open PySem PySem.Spec PyProof.Rows PySem.W L2
end L3
namespace L3
open PySem PySem.Spec PyProof.Rows L2
end L3
namespace L3
open PySem PySem.Spec PyProof.Rows PySem.W L2
end L3
namespace L3
open PySem PySem.Spec PyProof.Rows L2
end L3
namespace L3
open PySem PySem.Spec PyProof.Rows PySem.W L2
variable {elt iter tg:Expr}{h h':Heap}{ifs:List Expr}{it:iZ}{k n:Nat}{o:Ow}{te:TE}{tt:TT}{x:Str}{xe:cY}
abbrev PZ (b:Int)(t:Tok)(c:Nat):Obj:={ cls:=.type "list",dict:=none,data:=.seq #[.int b t,.int b t] c,slots:=#[] }
def oX (base:Heap)(l:List Env)(e:Addr)(cls a0 v:Value)(h:Heap):Prop:=
 base.StaysIn h/\base.get? e=none/\h.FunFrames base l/\h.TracedAtW base e cls a0 v
section
variable {M:Model}{A:Around}{E:Y0}{s:Shared}{base:Heap}{env:Env}{outer l:List Env}{L e:Addr}{cls a0 v:Value}
theorem P0{Q:Unit->Shared->Prop}(vR:A.frames=some (env::outer))(hf:env.frame=some L)(hh:oX base (env::outer) e cls a0 v s.heap)
  (hQ:∀ h',Heap.FlyingW base outer e cls a0 h'->s.heap.UpToSlots h'->Q () { s with heap:=h' }):wpAny M A (leaving env (.ref e)) Q E s:=by
 by_cases hv:v=rawInt L
 .subst hv;unfold leaving;refine Qb (wpAny_noteFrame_againW hf hh.2.2.2 ?_);refine wpAny_landsW (L:=L) hh λh' P1 hs=>?_;obtain⟨k1,k2,⟨_,_,k3⟩,k4⟩:=P1;exact hQ h' ⟨k1,k2,k3,k4⟩ hs
 .obtain⟨f1,f2,f3,oe,vs,T,oT,ts,he,⟨ic,h0⟩,hd,h1,p6,tY,hT,jD,h3⟩:=hh;subst ic;unfold leaving noteFrame;simp only[hf];refine Qb (Qb (ZB he hd h1 ?_));rw[Qk (show(Value.ref T != Value.none)=true from by simp)];refine Qb (ZB hT jD h3 ?_);rw[Qw (show ¬ ((v==rawInt L)=true)from λz=>hv (Zy.mp z))];refine Qb (JT hT jD (Z5.mp h3).1 ?_);have other:∀ b,b≠T->(s.heap.update T (Obj.mapFields (·.setIfInBounds 3 Value.none))).get? b=s.heap.get? b:=λb hb=>ZO _ _ (ZM hb);have nr:∀ b o,s.heap.get? b=some o->(∀ vs,o.data ≠ .fields vs)->b≠T:=λb o hb lA q=>by rw[q,hT]at hb;cases hb;exact lA ts jD
  refine wpAny_newEntryW vR (f3.of_keeps λb o hb lA=>⟨o,(other b (nr b o hb lA)).trans hb,rfl⟩) hf ((other e (ZM tY)).trans he)
   (λb o r_=>(other b λq=>by rw[q,p6]at r_;cases r_).trans (f1 b o r_)) f2 hd (Z5.mp h1).1 h0 λh' hL=>?_
  obtain⟨k1,⟨_,_,k2⟩,k3,k4⟩:=hL;exact hQ h' ⟨k1,f2,k2,k3⟩ λb o hb lA=>k4 b o ((other b (nr b o hb lA)).trans hb) lA
theorem P2{α:Type}{Q:α->Shared->Prop}{BE:String}{fX:Env}(hh:oX base l e cls a0 v s.heap)
  (hQ:∀ v' h',oX base l e cls a0 v' h'->s.heap.UpToSlots h'->E (.ref e) { s with heap:=h' }):wpAny M A (PySem.passOn BE (.ref e) fX:Sem α) Q E s:=by
 obtain⟨f1,f2,f3,oe,vs,T,oT,ts,he,ic,hd,h1,p6,tY,hT,jD,h3⟩:=hh;have vS:3<ts.size:=(Z5.mp h3).1;have nr:∀ b o,s.heap.get? b=some o->(∀ vs,o.data ≠ .fields vs)->b≠T:=λb o hb lA q=>by rw[q,hT]at hb;cases hb;exact lA ts jD
 unfold PySem.passOn;refine Qb (ZB he hd h1 ?_);rw[Qw (show ¬ ((Value.ref T==Value.none)=true)from by simp)];have go:wpAny M A (setFlight (.ref e) fX.frame) (λ_ s'=>wpAny M A (throw (.ref e):Sem α) Q E s') E s:=by
  have other:∀ b,b≠T->(s.heap.update T (Obj.mapFields (·.setIfInBounds 3 (fX.frame.elim Value.none λf=>rawInt f)))).get? b=s.heap.get? b:=λb hb=>ZO _ _ (ZM hb);unfold setFlight;refine Qb (ZB he hd h1 ?_);rw[Qk (show(Value.ref T != Value.none)=true from by simp)];refine JT hT jD vS (wpAny_throw (hQ (fX.frame.elim Value.none λf=>rawInt f) _ ⟨λb o r_=>(other b λq=>by rw[q,p6]at r_;cases r_).trans (f1 b o r_),f2,
   f3.of_keeps λb o hb lA=>⟨o,(other b (nr b o hb lA)).trans hb,rfl⟩,?_⟩ λb o hb lA=>⟨o.slots,(other b (nr b o hb lA)).trans hb⟩))
  exact⟨oe,vs,T,_,_,(other e (ZM tY)).trans he,ic,hd,h1,p6,tY,Jp _ hT (Obj.isFreed_of_fields (Jj jD _)),Jj jD _,by simp[vS]⟩
 first
  | exact Qb (Ql (Qb go))
  | exact Qb go
end
structure jH (P:Program) (w:World) (outer l:List Env) (H:Hp) (s:Shared) (a C t:Addr) (B:Heap) (H':Hp) (v:Value) (s':Shared):Prop where
 os:s'.os=s.os
 bare:AllBare s'.gens
 un:Un (bJ outer) [] H H' s.heap s'.heap
 aK:dN P w H' s'.heap
 fl:oX B l a (.ref C) (.ref t) v s'.heap
 old:∀ b o,s.heap.get? b=some o->H b=none->b ∉ bJ outer->B.get? b=some o
 ix:∀ b o,s.heap.get? b=some o->b ∉ bJ outer->∃ o',B.get? b=some o'
 jw:∀ b u o,H' b=some u->s'.heap.get? b=some o->B.get? b=some o
 free:H' a=none
 sub:∀ b∈bJ outer,b∈bJ l
 Fq:∀ b∈bJ outer,H b=none
section
variable {P:Program}{w:World}{outer l:List Env}{H:Hp}{s:Shared}{a C t:Addr}{B:Heap}{H':Hp}{v v':Value}{s':Shared}
theorem jH.Fs(F:jH P w outer l H s a C t B H' v s')(k1:B.StaysIn h')(up:∀ b∈bJ outer,∀ o,s'.heap.get? b=some o->(∀ vs,o.data ≠ .fields vs)->∃ sl,h'.get? b=some { o with slots:=sl }) :
  Un (bJ outer) [] H H' s.heap h'/\dN P w H' h'/\∀ b u o,H' b=some u->h'.get? b=some o->B.get? b=some o:=by
 have slot:∀ b o,s.heap.get? b=some o->H b=none->b∈bJ outer->∃ sl,h'.get? b=some { o with slots:=sl }:=λb o q n hb=>by obtain⟨sl,q1⟩:=F.un.slot b o q n hb (by simp);obtain⟨_,o',ho,hd⟩:=F.fl.2.2.1.mem (F.sub b hb);rw[q1]at ho;cases ho;obtain⟨jT,q2⟩:=up b hb _ q1 hd;exact⟨jT,q2⟩
 refine⟨⟨λb o q n hb _=>k1 b o (F.old b o q n hb),λb o q n hb _=>slot b o q n hb,F.un.free,λb o q _=>?_,F.un.cZ,F.un.cU,F.un.c_⟩,yn F.aK λb u o q e=>k1 b o (F.jw b u o q e),λb u o q e=>?_⟩
 .by_cases hb:b∈bJ outer
  .obtain⟨sl,q2⟩:=slot b o q (F.Fq b hb) hb;exact⟨_,q2⟩
  .obtain⟨o',q2⟩:=F.ix b o q hb;exact⟨o',k1 b o' q2⟩
 .obtain⟨o1,q1⟩:=ym (F.aK b u q);have q2:=F.jw b u o1 q q1;have q3:=k1 b o1 q2;rw[q3]at e;cases e;exact q2
theorem jH.step(F:jH P w outer l H s a C t B H' v s')(fl:oX B l a (.ref C) (.ref t) v' h')(up:∀ b∈bJ outer,∀ o,s'.heap.get? b=some o->(∀ vs,o.data ≠ .fields vs)->∃ sl,h'.get? b=some { o with slots:=sl }) :
  jH P w outer l H s a C t B H' v' { s' with heap:=h' }:=by obtain⟨u1,u2,u3⟩:=F.Fs fl.1 up;exact⟨F.os,F.bare,u1,u2,fl,F.old,F.ix,u3,F.free,F.sub,F.Fq⟩
end
theorem Ft{base:Heap}{C:Addr}(k:∀ b o,b≠C->h.get? b=some o->h'.get? b=some o):∀ {l:List Env},h.FunFrames base l->C ∉ bJ l->h'.FunFrames base l
 | [],_,_=>trivial
 | env::r,⟨hk,⟨L,o,hf,hn,ho,hd⟩,hr⟩,hc=>by
  have e:bJ (env::r)=L::bJ r:=by show List.filterMap (·.frame) (env::r)=_;rw[Ja,hf];rfl
  rw[e]at hc;exact⟨hk,⟨L,o,hf,hn,k L o (λz=>hc (z ▸ Qd)) ho,hd⟩,Ft k hr λz=>hc (Qc _ z)⟩
theorem oX.but{base:Heap}{l:List Env}{e C:Addr}{cls a0 v:Value}{o0:Obj}(x:oX base l e cls a0 v h)(k:∀ b o,b≠C->h.get? b=some o->h'.get? b=some o)(hb:base.get? C=none)(hc:h.get? C=some o0)(tZ:∀ vs,o0.data ≠ .fields vs)(hl:C ∉ bJ l):oX base l e cls a0 v h':=by
 obtain⟨f1,f2,f3,oe,vs,T,oT,ts,he,ic,hd,h1,p6,tY,hT,jD,h3⟩:=x;refine⟨λb o q=>k b o (λz=>by rw[z,hb]at q;cases q) (f1 b o q),f2,Ft k f3 hl,oe,vs,T,oT,ts,k e oe (λz=>?_) he,ic,hd,h1,p6,tY,k T oT (λz=>?_) hT,jD,h3⟩
 .rw[z,hc]at he;cases he;exact tZ _ hd
 .rw[z,hc]at hT;cases hT;exact tZ _ jD
theorem P4{e:Value}{env env':Env}(h:env'.frame=env.frame):noteFrame e env'=noteFrame e env:=by unfold noteFrame PySem.frameOf;rw[h]
section
variable {P:Program}{w:World}{K:PySem.W.Frag}{mg:Str->Option Value}{base:Heap}{N N':List Str}{qual:Str}{scope aM:Scope}{f:Addr}{cd:Value}{A:Around}{outer:List Env}{ai:Shared}{aD:Hp}{E:XK}{Z_:List (Addr×Obj)}{σ:St}{H:Hp}{s:Shared}
theorem P5{H:Hp}{s':Shared}{a C t:Addr}{B:Heap}{v:Value}(I:Inv (df P w K mg base N qual scope f cd A outer ai aD E) Z_ σ H s){H':Hp}(F:jH P w outer (envOfC qual scope ai.heap.objs.size f cd::outer) aD ai a C t B H' v s')(hE:E (.ref C) none H') :
  (df P w K mg base N qual scope f cd A outer ai aD E).xe (.ref a) s':=by show wpAny _ _ (leaving (envOfC qual scope ai.heap.objs.size f cd) (.ref a)) _ _ _;refine P0 (L:=ai.heap.objs.size) (outer:=outer) I.ok.frames rfl F.fl λh2 fl up=>?_;obtain⟨u1,u2,u3⟩:=F.Fs fl.1 λb _ o q hd=>up b o q hd;exact⟨a,C,t,B,H',rfl,⟨F.os,F.bare,u1,u2,fl,F.old,F.ix,u3,F.free⟩,hE⟩
def BF (X:Cx)(E:XK)(N':List Str)(scope:Scope)(C:Addr)(s2:Shared)(H2:Hp)(fp:List Addr):Y0:=
 λe s'=>∃ Z_ σ H s,Inv (dw X N' scope C s2 H2 fp) Z_ σ H s/\vE X.prog X.w X.stack H s E e s'
abbrev qk (X:Cx)(E:XK)(N':List Str)(scope:Scope)(C:Addr)(s2:Shared)(H2:Hp)(fp:List Addr):Cx:=(dw X N' scope C s2 H2 fp).fv (BF X E N' scope C s2 H2 fp)
theorem P6{H2 H3 H':Hp}{s2 s3 s':Shared}{fp:List Addr}{C Cc a t:Addr}{B:Heap}{pins':List (Addr×Obj)}{aP:St}(I2:Inv (df P w K mg base N qual scope f cd A outer ai aD E) Z_ σ H2 s2)(f2:∀ b∈fp,jX (df P w K mg base N qual scope f cd A outer ai aD E) Z_ H2 b)
  (Ic:Inv (dw (df P w K mg base N qual scope f cd A outer ai aD E) N' aM C s2 H2 fp) pins' aP H3 s3) (F:nF P w (envOfC qual scope ai.heap.objs.size f cd::outer) H3 s3 a Cc t B H' s') :
  jH P w outer (envOfC qual scope ai.heap.objs.size f cd::outer) aD ai a Cc t (hideAll B [C]) H' .none s'/\(∃ m,s'.heap.Ns C m)/\(hideAll B [C]).get? C=none/\C ∉ bJ (envOfC qual scope ai.heap.objs.size f cd::outer):=by
 have u3:Un (bJ (envOfC qual scope ai.heap.objs.size f cd::outer)) fp H2 H3 s2.heap s3.heap:=Ic.base;have P7:∀ b∈fp,ai.heap.objs.size<=b:=λb hb=>by
  rcases(f2 b hb).2.2.2.1 with z|z
  .exact(QJ (show b∈([]:List Addr)from z)).elim
  .exact z
 have ab:s2.heap.objs.size<=C:=Ic.ok.above;have nC:C ∉ bJ (envOfC qual scope ai.heap.objs.size f cd::outer):=λhm=>by obtain⟨_,o,ho,_⟩:=Ic.ok.eU.mem hm;exact absurd (Qo (Qn ho) ab) (Qx _)
 have sz:ai.heap.objs.size<=s2.heap.objs.size:=I2.sz;have qH:∀ b o,ai.heap.get? b=some o->b≠C:=λb o q z=>absurd (Qo (Qn q) (Qq sz ab)) (by rw[z];exact Qx _);have q_:∀ b o,ai.heap.get? b=some o->b ∉ fp:=λb o q z=>absurd (Qo (Qn q) (P7 b z)) (Qx _);have rV:∀ b o,ai.heap.get? b=some o->b ∉ bJ outer->b ∉ bJ (envOfC qual scope ai.heap.objs.size f cd::outer):=λb o q n hm=>by
  rcases Qp.mp (show b∈ai.heap.objs.size::bJ outer from hm)with z|z
  .exact absurd (Qn q) (by rw[z];exact Qx _)
  .exact n z
 have vJ:Un (bJ (envOfC qual scope ai.heap.objs.size f cd::outer)) fp H2 H' s2.heap s'.heap:=
  u3.trans ⟨λb o q n hb _=>F.un.keep b o q n hb (by simp),λb o q n hb _=>F.un.slot b o q n hb (by simp),λb o q n _=>F.un.free b o q n (by simp),λb o q _=>F.un.there b o q (by simp),F.un.cZ,F.un.cU,F.un.c_⟩
 have Io:=I2.jU (ch:=fp) (F.os.trans Ic.os) vJ F.aK F.bare λb hb=>⟨(f2 b hb).2.2.2.1,(f2 b hb).2.1,(f2 b hb).2.2.2.2⟩;obtain⟨m,hn,_⟩:=Ic.loc;obtain⟨o0,es,ep,yz,tZ,P8⟩:=id hn;have Fu:H3 C=none:=Ic.free;have bC:B.get? C=some o0:=F.old C o0 yz Fu nC;have vI:H' C=none:=F.un.free C o0 yz Fu (by simp);have st:(hideAll B [C]).StaysIn B:=λb o q=>of_hideAll _ q;have qd:∀ b o,B.get? b=some o->b≠C->(hideAll B [C]).get? b=some o:=λb o q n=>hideAll_get _ q λz=>n (by simpa using z);have bB:Un (bJ outer) [] aD H2 ai.heap s2.heap:=I2.base;refine⟨⟨Io.os,F.bare,Io.base,F.aK,flyingW_base st F.fl,λb o q n hb=>?_,λb o q hb=>?_,λb u o q e=>qd b o (F.jw b u o q e) λz=>?_,F.free,λb hb=>Qc _ hb,I2.ok.pC⟩,⟨m,o0,es,ep,F.fl.1 C o0 bC,tZ,P8⟩,hideAll_none _ (by simp),nC⟩
 .have q2:=bB.keep b o q n hb (by simp);have n2:=bB.free b o q n (by simp);exact qd b o (F.old b o (u3.keep b o q2 n2 (rV b o q hb) (q_ b o q)) (u3.free b o q2 n2 (q_ b o q)) (rV b o q hb)) (qH b o q)
 .obtain⟨o1,q1⟩:=bB.there b o q (by simp);obtain⟨o2,q2⟩:=u3.there b o1 q1 (q_ b o q);obtain⟨o3,q3⟩:=F.ix b o2 q2 (rV b o q hb);exact⟨o3,qd b o3 q3 (qH b o q)⟩
 .rw[z,vI]at q;cases q
end
theorem P9{XE:Y0}{prog:Program}{w:World}{A:Around}{R:Result->Shared->Prop}{s:Shared}{target:Expr}{scope:Scope}{pos:Pos}{it acc:Value}{env:Env}(I:Nat->Shared->Prop)(hX:∀ e s,XE e s->notedBy (model prog w) A env (λx s'=>R (.error x) s') e s)
  (turn:∀ n s,I n s->wpAny (model prog w) A (pyNext it) (λr aT=>match r with
    | none=>R (.ok .next) aT
    | some v=>wpAny (model prog w) A (letOwnedTupleGo target it v) (λ_ iV=>wpAny (model prog w) A (assign target env v) (λ_ ig=>
      wpAny (model prog w) A (forIn ifs true λc r=>if r=true then do let ok <- isTrue c env (eval c env);pure (ForInStep.yield ok)else pure (ForInStep.yield r)) (λok fw=>
       if ok=true then wpAny (model prog w) A (eval elt env) (λx ip=>
        wpAny (model prog w) A (call (.builtin "list.append") [acc,x]) (λ_ lU=>∃ m,m<n/\I m lU) (λ_ _=>False) ip) XE fw
       else ∃ m,m<n/\I m fw) (λ_ _=>False) ig) (λ_ _=>False) iV) (λ_ _=>False) aT) (λ_ _=>False) s)
  (n:Nat) (h:I n s):codeAny (model prog w) A (.compLoop (.ListComp elt [⟨target,iter,ifs,0⟩] scope pos) 0 it acc env) R s:=by
 refine codeAny_loop rfl I (λn s hI=>?_) n h;show wpAny _ A ((compTurn (.ListComp elt [⟨target,iter,ifs,0⟩] scope pos) 0 it acc env).onRaise (λx=>do noteFrame x env;theTreesLotGoes x)) _ _ s;refine wpAny_noted ?_;rw[compTurn_list];refine Qb (Yb (Qb (Q2 (turn n s hI) (λr aT lV=>?_) λ_ _ h'=>h'.elim)));cases r with
 | none=>exact Ql lV
 | some v=>
  refine Qb (Q2 lV (λ_ iV lW=>?_) λ_ _ h'=>h'.elim);refine Qb (Q2 lW (λ_ ig qX=>Qb (Q2 qX (λok fw lX=>?_) λ_ _ h'=>h'.elim)) λ_ _ h'=>h'.elim);cases ok with
  | false=>exact Ql ⟨rfl,lX⟩
  | true=>
   exact Qb (Qb (Q2 lX (λx ip ou=>Qb (Q2 ou (λ_ lU ow=>Ql (Ql ⟨rfl,ow⟩)) λ_ _ h'=>h'.elim)) hX))
theorem P_{E0:XK}{X:Cx}{N':List Str}{scope:Scope}{Z_:List (Addr×Obj)}{σ:St}{H2:Hp}{s2:Shared}{fp:List Addr}{pos:Pos}{it:Addr}{tn:Nat->Heap->Prop}{J:It}{g:TG}{Fin:List V->Hp->Prop}{E:Y0}{RR:Value->Addr->Result->Shared->Prop}
  (hc:X.calm=true) (S:bL X k N' scope) (hg:∀ C s H fp,PG (dw X N' scope C s H fp) tg g) (ht:∀ C s H fp,pL (dw X N' scope C s H fp) ifs tt) (he:∀ C s H fp,PE (qk X E0 N' scope C s H fp) elt te)
  (I2:Inv X Z_ σ H2 s2) (T:Turn X.prog X.w X.K tg J fp it tn) (kC:tn 0 s2.heap) (f2:∀ b∈fp,jX X Z_ H2 b) (R:Ap k g tt te σ J H2 Fin)
  (Ar:∀ C ys H' s' m',Inv X Z_ σ (upd H' s2.heap.objs.size (.lst ys)) s'->s'.heap.Ns C m'->H' s2.heap.objs.size=none->upd H' s2.heap.objs.size (.lst ys) C=none->C≠X.env.locals->X.ai.heap.objs.size<=C->s2.heap.objs.size<C->
    Fin ys H'->RR (.ref s2.heap.objs.size) C (.ok .next) s')
  (Q_:∀ e s',BF X E0 N' scope (s2.heap.objs.size+1) s2 H2 fp e s'->notedBy (model X.prog X.w) X.A (nu scope X.env (s2.heap.objs.size+1)) (λx pI=>RR (.ref s2.heap.objs.size) (s2.heap.objs.size+1) (.error x) pI) e s') :
  wpAny (model X.prog X.w) X.A (newList []) (λacc fw=>wpAny (model X.prog X.w) X.A (newFunctionEnv scope X.env.globals (gO X.env.cells scope.names []) [] X.env.qual none .none (some X.env)) (λfX ip=>
   codeAny (model X.prog X.w) X.A (.compStart (.ListComp elt [⟨tg,iter,ifs,0⟩] scope pos) 0 (.ref it) acc { fX with scope:=relabel scope X.env }) (RR acc fX.locals) ip) E fw) E s2:=by
 refine Q9 (D8 ?_);have e1:(s2.heap.push (d8 [] 0)).objs.size=s2.heap.objs.size+1:=Zi ..;have k_:∀ b∈fp,b<s2.heap.objs.size:=λb hb=>by obtain⟨o,e,_⟩:=T.obj _ _ kC b hb;exact Qn e
 obtain⟨W,⟨m0,w0⟩,turn⟩:=R;have I3:=D_ S I2 f2 k_;have pG:tn 0 (q8 scope s2):=T.keep _ _ _ kC λb hb o e=>ZU _ _ b o (Qh _ (Qh _ e));have As:s2.heap.objs.size≠s2.heap.objs.size+1:=by omega
 have fW:∀ {H':Hp} {us:List Value} {n:Nat},(∀ b∈fp,H' b=none)->∀ b∈fp,jX (dw X N' scope (s2.heap.objs.size+1) s2 H2 fp) [(s2.heap.objs.size,d8 us n)] H' b:=λ{H' us n} hn b hb=>by
  have q:=I3.ok.uB b hb;refine⟨hn b hb,q.1,I3.ok.jx b hb,.inl hb,q.2,λp hp z=>?_⟩;have lY:p ∈ [(s2.heap.objs.size,d8 us n)]:=hp;have e:p=(s2.heap.objs.size,d8 us n):=by simpa using lY
  subst e;have:=k_ b hb;have z':s2.heap.objs.size=b:=z;exact absurd this (by rw[z'];exact Qx _)
 have loop:∀ uZ,uZ=Value.ref it->codeAny (model X.prog X.w) X.A (.compLoop (.ListComp elt [⟨tg,iter,ifs,0⟩] scope pos) 0 uZ (.ref s2.heap.objs.size) (nu scope X.env (s2.heap.objs.size+1))) (RR (.ref s2.heap.objs.size) (s2.heap.objs.size+1)) { s2 with heap:=q8 scope s2 }:=by
  rintro _ rfl;refine P9 (XE:=BF X E0 N' scope (s2.heap.objs.size+1) s2 H2 fp) (λn s'=>∃ i ys us cnt H',Inv (dw X N' scope (s2.heap.objs.size+1) s2 H2 fp) [(s2.heap.objs.size,d8 us cnt)] (σ++replicate k none) H' s'/\tn i s'.heap/\(∀ b∈fp,H' b=none)/\bf ys us/\W i n ys H') Q_ ?_ m0
   ⟨0,[],[],0,H2,I3,pG,λb hb=>(f2 b hb).1,.nil,w0⟩
  rintro n s3 ⟨i,ys,us,cnt,H3,J3,st,fr,r3,w3⟩;obtain⟨hz,hw⟩:=turn i n ys H3 w3;rcases hw with⟨stop,fin⟩|⟨go,eN,step⟩
  .refine a_ (T.done (dw X N' scope (s2.heap.objs.size+1) s2 H2 fp) rfl rfl rfl hc i _ s3 _ H3 _ J3 (fW fr) st stop) λrr s4 ⟨hr,I4⟩=>?_;subst hr;obtain⟨m',lJ,_⟩:=id I4.loc;obtain⟨eD,nD,_⟩:=I4.pin (s2.heap.objs.size,d8 us cnt) (Qg _ (Qu.mpr rfl));refine Ar (s2.heap.objs.size+1) ys H3 s4 m' (Ea I2 f2 I4 r3 hz) lJ nD ?_ ?_ ?_ (Zt _) fin
   .rw[bR (ZM As)];exact I4.free
   .exact ZM (QS (Qo I2.lt (Z2 _)))
   .have:=I2.sz;omega
  .refine a_ (T.item (dw X N' scope (s2.heap.objs.size+1) s2 H2 fp) rfl rfl rfl hc i _ s3 _ H3 _ J3 (fW fr) st go) λrr s4 ⟨u,hr,h4⟩=>?_;subst hr;refine a_ h4 λ_ s5 ak=>?_;obtain⟨x,H5,I5,r5,y5,lL,uJ⟩:=ak;have uK:=I5.pinned (fW uJ) (T.obj _ _ lL);refine a_ (hg _ _ _ _ _ s5 _ H5 x u _ uK r5 (step x H5 y5)) λ_ s6 ⟨zO,H6,I6,⟨τ,e6,l6⟩,q6⟩=>?_;subst e6;refine a_ (ht _ _ _ _ _ s6 _ H6 _ I6 q6) λok s7 ak=>?_;obtain⟨H7,I7,q7⟩:=ak;have kept:∀ {s':Shared} {H':Hp} {aP:St},Inv (dw X N' scope (s2.heap.objs.size+1) s2 H2 fp) ([(s2.heap.objs.size,d8 us cnt)]++k6 fp s5.heap) aP H' s'->tn (i+1) s'.heap/\∀ b∈fp,H' b=none:=λ{s' H' aP} I'=>by refine⟨T.keep _ _ _ lL λb hb o e=>(I'.pin (b,o) (Qg _ (Qg _ (s_ hb e)))).1,λb hb=>?_⟩;obtain⟨o,e,d⟩:=T.obj _ _ lL b hb;exact(I'.pin (b,o) (Qg _ (Qg _ (s_ hb e)))).2.1
   cases ok with
   | false=>
    rw[Qw (by decide)]at q7 ⊢;obtain⟨m',hm,w7⟩:=q7;have:=xI I7.dO;rw[l6]at this;exact⟨m',hm,i+1,ys,us,cnt,H7,this,(kept I7).1,(kept I7).2,r3,w7⟩
   | true=>
    rw[Qk rfl]at q7 ⊢;refine a_ (he _ _ _ _ _ s7 _ H7 _ (I7.fv _) q7) λu8 s8 ak=>?_;obtain⟨v,H8,Ra,r8,m',hm,w8⟩:=ak;have I8:=Ra.cG;obtain⟨eD,nD,u0,Au,dD⟩:=I8.pin (s2.heap.objs.size,d8 us cnt) (Qg _ (QW _ (Qu.mpr rfl)));refine append_at eD (λh9 u4 Av=>?_) (hsz:=by rw[Qi,<- r3.length];exact ZG eN);have Ia:=I8.dW (pins':=k6 fp s5.heap) λp hp=>I8.pin p (Qg _ (Qg _ hp));have q_:∀ p∈k6 fp s5.heap,p.1≠s2.heap.objs.size:=λp hp z=>by have:=k_ p.1 (zN hp).1;exact absurd this (by rw[z];exact Qx _)
    have Ib:=Ia.turned (h':=h9) (t':=s8.toks) (it:=s2.heap.objs.size) (λb o hb e=>u4.extBut b o hb e) nD u0 (.inr (Qf _)) (λy c h z=>by
      obtain⟨vv,o,ho,hd⟩:=I8.cell y c h;rw[z,eD]at ho;cases ho;cases hd) (λp hp=>q_ p (by have lY:p ∈ []++k6 fp s5.heap:=hp;simpa using lY))
    have Ic:=Ib.dW (pins':=[(s2.heap.objs.size,d8 (us++[u8]) (cnt+1))]) λp hp=>by
     have e:p=(s2.heap.objs.size,d8 (us++[u8]) (cnt+1)):=by simpa using hp
     subst e;refine⟨?_,nD,u0,Au,λv z=>nomatch z⟩;show h9.get? s2.heap.objs.size=_;rw[Av];unfold d8;simp
    have Id:=xI Ic;rw[l6]at Id;have kp:=kept I8;refine⟨m',hm,i+1,ys++[v],us++[u8],cnt+1,H8,Id,T.keep _ _ _ kp.1 λb hb o e=>u4.extBut b o (λz=>by have:=k_ b hb;have z':b=s2.heap.objs.size:=z;exact absurd this (by rw[z'];exact Qx _)) e,kp.2,bf.append r3 (.cons r8 .nil),w8⟩
 have hC:(s2.heap.push { cls:=.type "list",dict:=none,data:=.seq ([]:List Value).toArray }).objs.size=s2.heap.objs.size+1:=Zi ..;have fin:=codeAny_compStart_list (loop _ rfl) (T.self X.A 0 _ _ _ pG (loop _ rfl));dsimp only at fin ⊢;rw[hC];exact fin
section
variable {P:Program}{w:World}{K:PySem.W.Frag}{mg:Str->Option Value}{base:Heap}{N N':List Str}{qual:Str}{scope aM:Scope}{f:Addr}{cd:Value}{A:Around}{outer:List Env}{ai:Shared}{aD:Hp}{E:XK}
theorem Rb{pos:Pos}{wi:TI}{g:TG}(hc:(df P w K mg base N qual scope f cd A outer ai aD E).calm=true)(S:bL (df P w K mg base N qual scope f cd A outer ai aD E) k N' aM)(hi:PI (df P w K mg base N qual scope f cd A outer ai aD E) tg iter wi)
  (hg:∀ C s H fp,PG (dw (df P w K mg base N qual scope f cd A outer ai aD E) N' aM C s H fp) tg g) (ht:∀ C s H fp,pL (dw (df P w K mg base N qual scope f cd A outer ai aD E) N' aM C s H fp) ifs tt) (he:∀ C s H fp,PE (qk (df P w K mg base N qual scope f cd A outer ai aD E) E N' aM C s H fp) elt te)
  (hs:∀ x,foldedSetIterable iter (envOfC qual scope ai.heap.objs.size f cd) x=pure x):PE (df P w K mg base N qual scope f cd A outer ai aD E) (.ListComp elt [⟨tg,iter,ifs,0⟩] aM pos) (tm k wi g tt te):=by
 intro Z_ s σ H Q I h;rw[eval_ListComp];refine Jd (use:=none) rfl hs (Ai λy hy e=>?_) S.kind S.locs (a_ (hi Z_ s σ H _ I h) λv s1 h1=>a_ h1 λuH s2 h2=>?_)
 .obtain⟨n,kd⟩:=y;have e':kd=.free:=e;subst e';exact I.ok.has n (S.free hy)
 .obtain⟨it,fp,tn,J,H2,e,I2,T,kC,f2,R⟩:=h2;subst e;refine P_ (E0:=E) hc S hg ht he I2 T kC f2 R ?_ ?_
  .intro C ys H' s' m' I' hn hD u5 tq u6 u7 fin;refine⟨m',hn,λh' j0=>⟨.ref s2.heap.objs.size,_,I'.turned (h':=h') (t':=s'.toks) (it:=C) (λb o hb e=>j0.extBut b o hb e) u5 tq (.inr u6) (λx c h=>?_) (λp hp z=>?_),rfl,fin _ hD⟩⟩
   .obtain⟨v,q⟩:=I'.cell x c h;exact xJ hn q
   .have:=Qn (I2.pin p hp).1;exact absurd (Zj this u7) (by rw[z];exact Qx _)
  .rintro e s' ⟨pins',aP,H3,s3,Ic,a,Cc,t,B,H',rfl,F,hE⟩;obtain⟨V,⟨m,hn⟩,hB,nC⟩:=P6 I2 f2 Ic F;show wpAny _ _ (noteFrame (.ref a) (nu aM (envOfC qual scope ai.heap.objs.size f cd) (s2.heap.objs.size+1))) _ _ _;rw[P4 (env':=nu aM (envOfC qual scope ai.heap.objs.size f cd) (s2.heap.objs.size+1)) (env:=envOfC qual scope ai.heap.objs.size f cd) rfl];refine wpAny_looks_onW (L:=ai.heap.objs.size) (outer:=outer) I2.ok.frames rfl V.fl λh1 hh up=>?_;have V1:=V.step (v':=rawInt ai.heap.objs.size) hh λb _ o q hd=>up b o q hd;have n1:=up.ns hn;refine⟨m,n1,λh2 sb fX tS=>?_⟩;obtain⟨o0,es,ep,yz,tZ,_⟩:=id n1;have nf:∀ vs,o0.data ≠ .fields vs:=λvs z=>by rw[tZ]at z;cases z
   have V2:=V1.step (h':=h2) (oX.but (C:=s2.heap.objs.size+1) V1.fl (λb o n q=>sb.extBut b o n q) hB yz nf nC) λb hb o q _=>⟨o.slots,sb.extBut b o (λz=>nC (z ▸ Qc _ hb)) q⟩;refine P2 V2.fl λv' h3 Rc Rf=>?_;exact P5 I2 (V2.step Rc λb _ o q hd=>Rf b o q hd) hE
end
def lB (k:Nat)(pt:eo)(tt:cy)(te:aA)(xe:cY):List D->aV->Option Str
 | [],_=>none
 | d::ds,ρ=>match pt d (ρ++replicate k none)with
  | none=>none
  | some ac=>match tt ac with
   | none=>none
   | some (b,ad)=>if b=true then(match xe ad with
     | some nm=>some nm
     | none=>match te ad with
      | none=>none
      | some (_,_,dI)=>lB k pt tt te xe ds (dI.take ρ.length))
    else lB k pt tt te xe ds (ad.take ρ.length)
def oY (k:Nat)(it:iZ)(pt:eo)(tt:cy)(te:aA)(xe:cY):cY:=λρ=>match it ρ with
 | some (ds,ac)=>lB k pt tt te xe ds ac
 | none=>none
theorem Rg{K:PySem.W.Frag}{pt:eo}{tt:cy}{te:aA}{E:XK}:∀ σ H Q,vO K (oY k it pt tt te xe) E σ H->tm k (vc K it) (vd K σ.length pt) (pS K tt) (λσ H Q=>tD K te σ H Q\/vO K xe E σ H) σ H Q:=λσ H Q ak=>by
 obtain⟨ρ,w,t,nm,g,ee,kk⟩:=ak;unfold oY at ee;split at ee;next ds ac h1=>
  refine⟨ρ,w,t,ds,ac,g,h1,λJ P H1 w1 g1 aJ ok p1 hl=>?_⟩;refine⟨λi m ys H'=>m=ds.length-i/\i<=ds.length/\ys.length<=i/\∃ dI w3,Good K dI σ H' w3 t/\Go H w H' w3/\P H' w3/\lB k pt tt te xe (ds.drop i) dI=some nm,
   ⟨ds.length,by simp,Jl _,Qf _,ac,w1,g1,aJ,p1,ee⟩,?_⟩
  rintro i m ys H' ⟨rfl,mh,NC,dI,w3,g0,j7,p0,e3⟩;have hsz:ys.length<sizeLine:=by omega
  refine⟨ZG hsz,?_⟩;by_cases eN:i<ds.length
  .refine .inr ⟨ok.go i H' w3 p0 eN,hsz,λx H2 hy=>?_⟩;obtain⟨mo,rx,p3⟩:=ok.pE i H' w3 x H2 ds[i] p0 g0.wl (Qz eN) hy;obtain⟨g3,bb⟩:=g0.more mo;have iw:=j7.trans bb;have ed:ds.drop i=ds[i]::ds.drop (i+1):=Z9 eN;rw[ed]at e3;unfold lB at e3;split at e3
   .cases e3
   next rF h4=>
    split at e3
    .cases e3
    next b j9 h5=>
     have gx:=g3.ext k;have vf:dI.length=σ.length:=g3.len;refine⟨ds[i],_,w3,t,rF,gx,rx,h4,λqZ H4 w4 l4 s4 g4 j8=>?_⟩;obtain⟨τ,rfl,AQ⟩:=Eo l4 s4;refine⟨⟨τ,rfl,by rw[AQ,Q7]⟩,rF,w4,t,b,j9,g4,h5,λH5 w5 g5 jn=>?_⟩;have p5:=ok.st _ _ _ _ (ok.st _ _ _ _ p3 g3.wl j8.bw) g4.wl jn.bw;have sd:=(iw.trans j8).trans jn;cases b with
     | false=>
      rw[Qw (by decide)]at e3;dsimp only;rw[Qw (by decide)];obtain⟨gc,kK⟩:=g5.cut;rw[vf]at e3;exact⟨ds.length-(i+1),by omega,rfl,eN,by omega,_,_,gc,sd.trans kK,ok.st _ _ _ _ p5 g5.wl kK.bw,e3⟩
     | true=>
      rw[Qk rfl]at e3;dsimp only;rw[Qk rfl];split at e3;next qe h6=>
       cases e3;exact .inr ⟨j9,w5,t,_,g5,h6,λC H6 w6 n wl rG=>kk C H6 w6 n wl (sd.trans rG)⟩
      .split at e3
       .cases e3
       next d6 q6 AR h6=>
        refine .inl ⟨j9,w5,t,d6,q6,AR,g5,h6,λv H6 w6 F6 g6 rG r6=>?_⟩;have gd:=g6.drop (t':=t);have Fv:=rG.drop g5.wt;obtain⟨gc,kK⟩:=gd.cut;rw[vf]at e3;exact⟨ds.length-(i+1),by omega,rfl,eN,by rw[Qe];simp;omega,_,_,gc,(sd.trans Fv).trans kK,ok.st _ _ _ _ (ok.st _ _ _ _ p5 g5.wl Fv.bw) gd.wl kK.bw,e3⟩
  .have fG:i=ds.length:=Yv mh (Nat.not_lt.mp eN);subst fG;have ed:ds.drop ds.length=[]:=by simp
   rw[ed]at e3;cases e3
 .cases ee
section
variable {P:Program}{w:World}{K:PySem.W.Frag}{mg:Str->Option Value}{base:Heap}{N N':List Str}{qual:Str}{scope aM:Scope}{f:Addr}{cd:Value}{A:Around}{outer:List Env}{ai:Shared}{aD:Hp}{E:XK}
theorem yA{pos:Pos}{pt:eo}{tt:cy}{te:aA}(S:bL (df P w K mg base N qual scope f cd A outer ai aD E) k N' aM)(hi:rC (df P w K mg base N qual scope f cd A outer ai aD E) tg iter it)(hg:∀ C s H fp,pV (dw (df P w K mg base N qual scope f cd A outer ai aD E) N' aM C s H fp) N.length tg pt)(ht:∀ C s H fp,mj (dw (df P w K mg base N qual scope f cd A outer ai aD E) N' aM C s H fp) ifs tt)(he:∀ C s H fp,QD (dw (df P w K mg base N qual scope f cd A outer ai aD E) N' aM C s H fp) elt te)(hx:∀ C s H fp,mC (qk (df P w K mg base N qual scope f cd A outer ai aD E) E N' aM C s H fp) E elt xe)(hs:∀ x,foldedSetIterable iter (envOfC qual scope ai.heap.objs.size f cd) x=pure x:=by intro _;rfl):mC (df P w K mg base N qual scope f cd A outer ai aD E) E (.ListComp elt [⟨tg,iter,ifs,0⟩] aM pos) (oY k it pt tt te xe):=⟨have hi:=hi.o;have hg:=λC s H fp=>(hg C s H fp).o;have ht:=λC s H fp=>(ht C s H fp).o;have he:=λC s H fp=>(he C s H fp).o;have hx:=λC s H fp=>(hx C s H fp).o;by
 intro Z_ s σ H Q I h;have:=Rg σ H Q h;rw[I.len]at this;refine Rb (N':=N') rfl S hi hg ht (λC s H fp=>?_) hs Z_ s σ H Q I this;intro Z_ s σ H Q I h;rcases h with h|h
 .exact(PE.g7 (X:=qk (df P w K mg base N qual scope f cd A outer ai aD E) E N' aM C _ _ fp) (he C _ _ fp)) Z_ s σ H Q I h
 .exact hx C _ _ fp Z_ s σ H Q I h⟩
end
section
variable {X:Cx}{E:XK}{N':List Str}{aM:Scope}{C:Addr}{s2:Shared}{H2:Hp}{fp:List Addr}{a e:Expr}{es:List Expr}{x0:cY}{p pos:Pos}
theorem yB{j:Nat}{F:List D->Option Str}{g:bQ}(BA:gR X.prog X.w X.K X.mg X.base k x n F)(hr:bc j X.A)(hk:k<=j)(ha:eO (qk X E N' aM C s2 H2 fp) (e::es) g)(hg:Gl (qk X E N' aM C s2 H2 fp) x:=by rfl)(fO:(x==("__debug__":Str))=false:=by decide)(he:starEach (e::es) (nu aM X.env C)=(false,eval e (nu aM X.env C))::starEach es (nu aM X.env C):=by rfl)(cR:(backTo pos (starEach es (nu aM X.env C))).any (·.1)=false:=by rfl):mC (qk X E N' aM C s2 H2 fp) E (.Call (.Name x p) (e::es) [] pos) (iM F n g):=⟨have ha:=ha.o;by
 obtain⟨fn,fd,ps,G,hm,oI,hb⟩:=BA;refine PE.imp (xw (X:=qk X E N' aM C s2 H2 fp) (CX:=vE X.prog X.w) (E:=E) G (hr.mono hk) hg hm oI hb .nil (λZ_ σ H s e s' I h=>⟨Z_,σ,H,s,I.cG,h⟩) ha fO he cR) λσ H Q ak=>?_;obtain⟨ρ,w',t,nm,gd,e,k'⟩:=ak;unfold iM at e;split at e;next ds ac h1=>
  split at e;next hn=>
   refine⟨ρ,w',t,ds,ac,gd,h1,λvs H1 w1 g1 aJ r1=>?_⟩;show yq X.K n F (vs++[]) H1 Q E;rw[QY];refine⟨by rw[<- r1.length];exact hn,ds,λa=>(w1 a).map λ_=>Ow.f,nm,λa o e=>?_,⟨λa o e=>?_,g1.wl.tb⟩,?_,e,λC H2 w2 g8 rp bb=>k' C H2 w1 g8 ⟨λa o ew=>?_,rp.tb⟩ (aJ.trans ⟨λa x e n=>?_,λa o ew no=>?_⟩)⟩
   .try dsimp only at e
    cases ew:w1 a with
    | none=>rw[ew]at e;cases e
    | some o'=>rw[ew]at e;cases e;rfl
   .try dsimp only at e
    cases ew:w1 a with
    | none=>rw[ew]at e;cases e
    | some o'=>exact g1.wl a o' ew
   .exact ag.freeze (λa n=>by show(w1 a).map _=_;rw[n];rfl) r1 nM
   .obtain⟨l8,q⟩:=g1.wl a o ew;have:=(bb.keep a .f (by show(w1 a).map _=_;rw[ew];rfl) (λi z=>nomatch z)).1;exact⟨l8,by rw[this];exact q⟩
   .exact⟨(bb.bw a x e (by show(w1 a).map _=_;rw[n];rfl)).1,n⟩
   .exact⟨(bb.keep a .f (by show(w1 a).map _=_;rw[ew];rfl) (λi z=>nomatch z)).1,ew⟩
  .cases e
 .cases e⟩
theorem yC(hm:X.mg "tuple" = none)(hb:bootBuiltins "tuple" = some (.type "tuple"))(ha:mC X E a x0)(hg:Gl X "tuple":=by rfl)(he:starEach [a] X.env=(false,eval a X.env)::starEach [] X.env:=by rfl)(cR:(backTo pos (starEach [] X.env)).any (·.1)=false:=by rfl):mC X E (.Call (.Name "tuple" p) [a] [] pos) x0:=⟨have ha:=ha.o;PE.imp (td (r:=λ_ _ _=>False) (λ_ _ _ _ _ _ _ _ _ h=>h.elim) hg hm hb (Fl ha he) (by decide) (by decide) he cR) λσ H Q h=>h⟩
end
def hG (n:Nat):Bool:=decide (n<=100000)
theorem BG(h:hG n=true):n<=100000:=Zv h
theorem nH(h:hG n=true):n<=sizeLine:=Qq (BG h) (by rw[Jy];omega)
@[simp] def kP:List D->Option D
 | [.int i]=>if 0<=i/\i<1000000 then some (.str (toString i))else none
 | [.str x]=>some (.str x)
 | _=>none
@[simp] def oZ:List D->Option D
 | [.str x]=>if hG x.length=true then some (.int x.length)else none
 | _=>none
@[simp] def hJ:D->D->Option D
 | .str x,.str y=>if hG (x.length+y.length)=true then some (.str (x++y))else none
 | _,_=>none
def Xr:D->D->Option D
 | .int 10,.int 9=>some (.int 1000000000)
 | _,_=>none
section
variable {X:Cx}{a b c e:Expr}{es:List Expr}{fa fb fc f:aA}{g:bQ}{pos p p1 p2 az apos:Pos}
theorem Rh:jy X (.type "str") (λxs H Q=>(∃ i,xs=[.int i]/\i.natAbs.log2<1920/\Q (.str (toString i)) H)\/∃ x,xs=[.str x]/\Q (.str x) H):=by
 intro Z_ s σ H xs us Q I r h;rcases h with h|⟨x,rfl,q⟩
 .exact Lv Z_ s σ H xs us Q I r h
 .obtain⟨u,rfl,t,rfl⟩:=lN r;exact PySem.P.str_of_str ⟨.str _,H,I,⟨_,rfl⟩,q⟩
theorem t4{K:PySem.W.Frag}{H:Hp}{w:Wn}{d:D}{vs:List V}(r:ag K H w o 0 [d] vs []):∃ v,vs=[v]/\Rep K H w o 0 d v []:=by
 have h:=r.length;obtain⟨v,e,rv⟩:=r.get (i:=0) rfl
 match vs,h,e with
 | [u],_,e=>exact⟨u,rfl,by cases e;exact rv⟩
theorem Fw{i:Int}(h0:0<=i)(h:i<1000000):i.natAbs.log2<1920:=by
 have h1:i.natAbs<2 ^ 20:=by omega
 rcases Nat.eq_zero_or_pos i.natAbs with z|z
 .rw[z];decide
 .exact Qo ((Nat.log2_lt (by omega)).mpr h1) (by decide)
theorem yD(hm:X.mg "str" = none)(hb:bootBuiltins "str" = some (.type "str"))(ha:eO X [a] g)(hg:Gl X "str":=by rfl)(he:starEach [a] X.env=(false,eval a X.env)::starEach [] X.env:=by rfl)(cR:(backTo pos (starEach [] X.env)).any (·.1)=false:=by rfl):QD X (.Call (.Name "str" p) [a] [] pos) (eB kP g):=⟨have ha:=ha.o;PE.imp (td Rh hg hm hb ha (by decide) (by decide) he cR) (ye λds d h=>by
  unfold kP at h;split at h;next i=>
   split at h;next hi=>
    cases h;refine⟨_,rfl,λH w vs _ r Q q=>?_⟩;obtain⟨v,rfl,rv⟩:=t4 r;cases dZ rv;exact .inl ⟨i,rfl,Fw hi.1 hi.2,q⟩
   .cases h
  next x=>
   cases h;refine⟨_,rfl,λH w vs _ r Q q=>?_⟩;obtain⟨v,rfl,rv⟩:=t4 r;obtain⟨rfl,_⟩:=rv.inv;exact .inr ⟨x,rfl,q⟩
  .cases h)⟩
theorem Fy(hm:X.mg "len" = none)(ha:eO X [a] g)(hg:Gl X "len":=by rfl)(he:starEach [a] X.env=(false,eval a X.env)::starEach [] X.env:=by rfl)(cR:(backTo pos (starEach [] X.env)).any (·.1)=false:=by rfl):QD X (.Call (.Name "len" p) [a] [] pos) (eB oZ g):=⟨have ha:=ha.o;PE.imp (qN Mh hg hm PySem.boot_len ha (by decide) (by decide) he cR) (ye λds d h=>by
  unfold oZ at h;split at h;next x=>
   split at h;next hx=>
    cases h;refine⟨_,rfl,λH w vs _ r Q q=>?_⟩;obtain⟨v,rfl,rv⟩:=t4 r;obtain⟨rfl,_⟩:=rv.inv;exact⟨x,rfl,nH hx,q⟩
   .cases h
  .cases h)⟩
theorem kg(ha:QD X a fa)(hb:QD X b fb):QD X (.BinOp a .Add b pos) (e2 hJ fa fb):=⟨have ha:=ha.o;have hb:=hb.o;PE.imp (nk Ls ha hb) (oA λx y d h=>by
 unfold hJ at h;split at h;next x y=>
  split at h;next hx=>
   cases h;refine⟨_,rfl,λH w o o' q q' u u' F F' r1 r2 _ Q hq=>?_⟩;obtain⟨rfl,_⟩:=r1.inv;obtain⟨rfl,_⟩:=r2.inv;exact⟨x,y,rfl,rfl,nH hx,hq⟩
  .cases h
 .cases h)⟩
def gS (fa:aA)(fl fh:lp):aA:=λρ=>match fa ρ with
 | some (.str x,_,ac)=>if hG x.length=true then match fl ac with
  | some (lo,ad)=>match fh ad with
   | some (hi,dI)=>some (.str (Txt.slice x lo hi),9,dI)
   | none=>none
  | none=>none
  else none
 | _=>none
theorem Ri:oh X (λx lo hi H Q=>∃ z,x=.str z/\z.length<=sizeLine/\Q (.str (Txt.slice z lo hi)) H):=by
 intro Z_ s σ H x v vl vu lo hi sl Q I rx hs pl pu h;obtain⟨z,rfl,hz,q⟩:=h;obtain⟨t,rfl⟩:=rx;have fin:∀ l u:Option (Int×Tok),vl=partValue l->vu=partValue u->lo=l.map (·.1)->hi=u.map (·.1)->wpAny (model X.prog X.w) X.A (getItem (.str z t) (.ref sl)) (EP X Z_ σ Q) X.xe s:=λl u h1 h2 h3 h4=>by subst h1 h2 h3 h4;exact wpAny_getItem_str_slice (l:=l) (u:=u) (st:=none) hs rfl (post_val_or_str ⟨Qq (Txt.slice_le z _ _) hz,λt' k=>⟨.str _,H,I.tok _,⟨_,rfl⟩,q⟩⟩)
 refine⟨"str",_,PySem.F.slot_str_getitem.lookup,Js _ _ _,?_⟩;cases pl with
 | none=>
  cases pu with
  | none=>exact fin none none rfl rfl rfl rfl
  | int j u=>exact fin none (some (j,u)) rfl rfl rfl rfl
 | int i u=>
  cases pu with
  | none=>exact fin (some (i,u)) none rfl rfl rfl rfl
  | int j u'=>exact fin (some (i,u)) (some (j,u')) rfl rfl rfl rfl
theorem lC{lo hi:Option Expr}{fl fh:lp}(ha:QD X a fa)(hl:p_ X lo fl)(hh:p_ X hi fh):QD X (.Subscript a (.Slice lo hi none p2) pos) (gS fa fl fh):=⟨have ha:=ha.o;have hl:=hl.o;have hh:=hh.o;PE.imp (zW Ri ha hl hh) λσ H Q ak=>by
 obtain⟨ρ,w,t,r',q,aB,gd,ee,k⟩:=ak;unfold gS at ee;split at ee;next x q1 ac h1=>
  split at ee;next hx=>
   split at ee;next lo ad h2=>
    split at ee;next hi dI h3=>
     cases ee;refine⟨ρ,w,t,_,_,_,gd,h1,λv H1 w1 F1 g1 aJ r1=>?_⟩;have rS:=g1.drop (t':=t);refine⟨ac,cm t w1,t,_,_,rS,h2,λH2 w2 g2 bb=>⟨ad,w2,t,_,_,g2,h3,λH3 w3 g3 iw=>?_⟩⟩;obtain⟨rfl,_⟩:=r1.inv;exact⟨x,rfl,nH hx,k _ H3 w3 [] g3.up (((aJ.drop gd.wt).trans bb).trans iw) (.str _)⟩
    .cases ee
   .cases ee
  .cases ee
 .cases ee⟩
def vU (n:Nat)(fb:aA):aA:=λρ=>match ρ[n]? with
 | some (some (.str _,_))=>match fb ρ with
  | some (.int i,_,ad)=>match ad[n]? with
   | some (some (.str z,_))=>if z.length<=1000 then match dC z.cps.toList i with
    | some c=>some (.str ⟨#[c]⟩,9,ad)
    | none=>none
    else none
   | _=>none
  | _=>none
 | _=>none
theorem Rj(h:QE X (.Name x p1) (jV n))(hb:QD X b fb)(hs:tj b:=by exact λ_ _=>rfl):QD X (.Subscript (.Name x p1) b pos) (vU n fb):=⟨have h:=h.o;have hb:=hb.o;by
 intro Z_ s σ H Q I ak;obtain⟨ρ,w,t,r',q,aB,gd,ee,k⟩:=ak;unfold vU at ee;split at ee;next z0 q0 e0=>
  refine uT uV h hb hs Z_ s σ H Q I ?_;obtain⟨v,F,iJ,_⟩:=gd.slot n _ _ e0;split at ee;next i q2 ad h2=>
   split at ee;next z q e2=>
    split at ee;next hz=>
     split at ee;next cc hc=>
      cases ee;refine⟨v,iJ,ρ,w,t,_,_,_,gd,h2,λy H2 w2 F2 g2 go r2=>?_⟩;have hy:=dZ r2;subst hy;have gg:=g2.drop (t':=t);obtain⟨v',F',e_,rr⟩:=gg.slot n _ q e2;rw[iJ]at e_;cases e_;cases rr;exact .inr (.inr ⟨z,i,cc,rfl,rfl,Qq hz (by rw[Jy];omega),hc,k _ H2 (cm t w2) [] gg.up (go.drop gd.wt) (.str _)⟩)
     .cases ee
    .cases ee
   .cases ee
  .cases ee
 .cases ee⟩
def yE (h:Str->Str->Option D)(fo:aA)(g:bQ):aA:=λρ=>match fo ρ with
 | some (.str x,_,ac)=>match g ac with
  | some ([.str y],ad)=>match h x y with
   | some d=>some (d,9,ad)
   | none=>none
  | _=>none
 | _=>none
def BH (x y:Str):Option D:=some (.bl (Txt.startswith x y))
theorem Rk:qQ X "str.startswith" (λx vs H Q=>∃ z y,x=.str z/\vs=[.str y]/\Q (.bl (Txt.startswith z y)) H):=by intro Z_ s σ H x vs v us Q I rx rv h;obtain⟨z,y,rfl,rfl,q⟩:=h;obtain⟨u,rfl,ru⟩:=rv.one;obtain⟨t,rfl⟩:=rx;obtain⟨t',rfl⟩:=ru;exact SC.startswith ⟨.bl _,H,I,rfl,q⟩
theorem Fz(ho:QD X a fa)(ha:eO X [e] g)(bS:attributeBase a "startswith" X.env (eval a X.env)=eval a X.env:=by rfl)(di:((backTo az (starEach [e] X.env)).all (λx=>!x.1)&&(backToKw az (keywordEach [] X.env)).all (λx=>x.1.isSome)
   && decide ([e].length+([]:List Keyword).length+(if([]:List Keyword).isEmpty then 0 else 1)<30))=true:=by rfl) (bT:(apos.endLine==az.line)=true:=by rfl) (hs:starEach [e] X.env=(false,eval e X.env)::starEach [] X.env:=by rfl) (bg:(backTo az (starEach [] X.env)).any (·.1)=false:=by rfl):QD X (.Call (.Attribute a "startswith" apos) [e] [] az) (yE BH fa g):=⟨have ho:=ho.o;have ha:=ha.o;PE.imp (om ZR PySem.F.slot_str_startswith PySem.F.type_str_startswith Rk ho ha bS di bT hs bg) λσ H Q ak=>by
 obtain⟨ρ,w,t,r',q,aB,gd,ee,k⟩:=ak;unfold yE at ee;split at ee;next x q1 ac h1=>
  split at ee;next y ad h2=>
   split at ee;next d hd=>
    cases hd;cases ee;refine⟨ρ,w,t,_,_,_,gd,h1,λv H1 w1 F1 g1 aJ r1=>?_⟩;obtain⟨rfl,_⟩:=r1.inv;have gg:=g1.drop (t':=t);refine⟨rfl,ac,cm t w1,t,_,_,gg,h2,λyw H2 w2 g2 bb r2=>?_⟩;obtain⟨v2,rfl,oR⟩:=t4 r2;obtain⟨rfl,_⟩:=oR.inv;exact⟨x,y,rfl,rfl,k _ H2 w2 [] g2.up ((aJ.drop gd.wt).trans bb) (.bl _)⟩
   .cases ee
  .cases ee
 .cases ee⟩
def vV:List D->Option (List Str)
 | []=>some []
 | .str x::ds=>(vV ds).map (x :: ·)
 | _=>none
theorem FA{K:PySem.W.Frag}{H:Hp}{w:Wn}:∀ {ds:List D} {xs:List Str} {vs:List V} {q:Nat} {F:List Addr},vV ds=some xs->ag K H w o q ds vs F->vs=xs.map V.str
 | [],xs,vs,q,F,h,r=>by cases h;cases r;rfl
 | d::ds,xs,vs,q,F,h,r=>by
  cases d with
  | str x=>
   obtain⟨ys,e,rfl⟩:=Zm.mp h;cases r with
   | cons r s _=>
    obtain⟨rfl,_⟩:=r.inv;rw[FA e s];rfl
  | _=>cases h
theorem FC:∀ {xs:List Str} {us:List Value},bf (xs.map V.str) us->StrsAre us xs
 | [],us,r=>by cases r;exact .nil
 | x::xs,us,r=>by
  cases r with
  | cons h r=>
   obtain⟨t,rfl⟩:=h;exact .cons x t (FC r)
def qo (fo fa:aA):aA:=λρ=>match fo ρ with
 | some (.str x,_,ac)=>match fa ac with
  | some (.lst ds,q,ad)=>if q<=1 then match vV ds with
   | some ys=>if x.length<=16/\hG ((ys.map (·.length)).sum+ys.length)=true then some (.str (Txt.join x ys),9,ad)else none
   | none=>none
   else none
  | _=>none
 | _=>none
theorem Rl:qQ X "str.join" (λx vs H Q=>∃ z l ys,x=.str z/\vs=[.ref l]/\cM X.K H l (ys.map V.str)/\z.length<=16/\(ys.map (·.length)).sum+ys.length<=1048576/\Q (.str (Txt.join z ys)) H):=by intro Z_ s σ H x vs v us Q I rx rv h;obtain⟨z,l,ys,rfl,rfl,hl,hz,hy,q⟩:=h;obtain⟨u,rfl,ru⟩:=rv.one;obtain⟨t,rfl⟩:=rx;cases ru;obtain⟨ar,r,pl,_⟩:=I.list hl;exact join_listW pl.isList (FC r) hz hy λt' k=>⟨.str _,H,I.tok _,⟨_,rfl⟩,q⟩
theorem BI(ho:QD X a fa)(ha:QD X e f)(bS:attributeBase a "join" X.env (eval a X.env)=eval a X.env:=by rfl)(di:((backTo az (starEach [e] X.env)).all (λx=>!x.1)&&(backToKw az (keywordEach [] X.env)).all (λx=>x.1.isSome)
   && decide ([e].length+([]:List Keyword).length+(if([]:List Keyword).isEmpty then 0 else 1)<30))=true:=by rfl) (bT:(apos.endLine==az.line)=true:=by rfl) (hs:starEach [e] X.env=(false,eval e X.env)::starEach [] X.env:=by rfl) (bg:(backTo az (starEach [] X.env)).any (·.1)=false:=by rfl):QD X (.Call (.Attribute a "join" apos) [e] [] az) (qo fa f):=⟨have ho:=ho.o;have ha:=ha.o;PE.imp (om ZR PySem.F.slot_str_join PySem.F.type_str_join Rl ho (kE ha n9 hs) bS di bT hs bg) λσ H Q ak=>by
 obtain⟨ρ,w,t,r',q,aB,gd,ee,k⟩:=ak;unfold qo at ee;split at ee;next x q1 ac h1=>
  split at ee;next ds q2 ad h2=>
   split at ee;next hq=>
    split at ee;next ys hy=>
     split at ee;next hc=>
      cases ee;refine⟨ρ,w,t,_,_,_,gd,h1,λv H1 w1 F1 g1 aJ r1=>?_⟩;obtain⟨rfl,_⟩:=r1.inv;have gg:=g1.drop (t':=t);refine⟨rfl,ac,cm t w1,t,_,_,_,gg,h2,λv2 H2 w2 F2 g2 bb r2=>?_⟩;obtain⟨p,zs,rfl,Rm,rs⟩:=r2.BD hq;have e:=FA hy rs;subst e;have Rn:=g2.drop (t':=t);exact⟨x,p,ys,rfl,rfl,Rm,hc.1,Qq (BG hc.2) (by decide),k _ H2 (cm t w2) [] Rn.up ((aJ.drop gd.wt).trans (bb.drop gg.wt)) (.str _)⟩
     .cases ee
    .cases ee
   .cases ee
  .cases ee
 .cases ee⟩
end
open Builtin Builtin.Str in
theorem FD:∀ {l:List (Str×Tok)} {xs:List Str},l.map (·.1)=xs->bf (xs.map V.str) (strValues l)
 | [],xs,e=>by cases e;exact .nil
 | p::l,xs,e=>by cases e;exact .cons ⟨_,rfl⟩ (FD rfl)
section
variable {X:Cx}{a b c e:Expr}{es:List Expr}{fa fb fc f:aA}{g:bQ}{pos p p1 p2 az apos:Pos}
open Builtin Builtin.Str in
theorem Ro:qQ X "str.split" (λx vs H Q=>∃ z y,x=.str z/\vs=[.str y]/\(y.length==0)=false/\z.length+2<=sizeLine/\∀ l,H l=none->Q (.ref l) (upd H l (.lst ((Txt.split z y).map V.str)))):=by
 intro Z_ s σ H xv vs v us Q I rx rv hh;obtain⟨x,y,rfl,rfl,hy,hsz,q⟩:=hh;obtain⟨u',rfl,ru⟩:=rv.one;obtain⟨t,rfl⟩:=rx;obtain⟨u,rfl⟩:=ru;have hn:(partsBetween x (occurrences x y 0 x.length (x.length+1)) y.length).length<=sizeLine:=by have e1:=StrLaws.occ_length_le x y 0 x.length (x.length+1);rw[length_partsBetween];omega
 have hlen:(Txt.split x y).length<=sizeLine:=by
  unfold Txt.split;split
  .show 1<=_;omega
  .split
   .show 1<=_;omega
   .exact hn
 have fin:∀ (l:List (Str×Tok)) (tk:Nat),l.map (·.1)=Txt.split x y->EP X Z_ σ Q (.ref s.heap.objs.size) { s with heap:=s.heap.push { cls:=.type "list",data:=.seq (strValues l).toArray },toks:=tk }:=λl tk e=>
  ⟨.ref s.heap.objs.size,_,I.qT (FD e) (by rw[Qa];exact hlen),rfl,q _ I.fresh⟩
 cases h1:(decide (x.length<y.length)||decide (strKind x<strKind y))
 .cases hf:(occurrences x y 0 x.length (x.length+1)).isEmpty
  .refine Zs Yj (Js _ _ _) Ya (JU _ _) (meets_str_split_sep x y t u h1 hy hf (by omega) hn) ?_;show wants (EP X Z_ σ Q) X.xe _ { s with toks:=_,heap:=s.heap.push { cls:=.type "list",data:=.seq (strsFrom s.toks (partsBetween x (occurrences x y 0 x.length (x.length+1)) y.length)).toArray } };rw[strsFrom_eq];exact fin (numbered s.toks _) _ ((numbered_texts _ _).trans ((Qw (JI h1)).trans (Qw (JI hf))).symm)
  .exact Zs Yj (Js _ _ _) Ya (JU _ _) (meets_str_split_not_found x y t u h1 hy hf)
    (fin [(x,t)] s.toks ((Qw (JI h1)).trans (Qk hf)).symm)
 .exact Zs Yj (Js _ _ _) Ya (JU _ _) (meets_str_split_cannot_occur x y t u h1)
   (fin [(x,t)] s.toks (Qk h1).symm)
open Builtin Builtin.Str in
theorem Rp:qQ X "str.partition" (λx vs H Q=>∃ z y,x=.str z/\vs=[.str y]/\(y.length==0)=false/\z.length<=sizeLine/\∀ l,H l=none->Q (.ref l) (upd H l (.tup [.str (Txt.partition z y).1,.str (Txt.partition z y).2.1,.str (Txt.partition z y).2.2]))):=by
 intro Z_ s σ H xv vs v us Q I rx rv hh;obtain⟨x,y,rfl,rfl,hy,hsz,q⟩:=hh;obtain⟨u',rfl,ru⟩:=rv.one;obtain⟨t,rfl⟩:=rx;obtain⟨u,rfl⟩:=ru;have fin:∀ (A B C:Str) (ta tb tc:Tok) (tk:Nat),Txt.partition x y=(A,B,C)->EP X Z_ σ Q (.ref s.heap.objs.size) { s with heap:=s.heap.push { cls:=.type "tuple",data:=.seq [.str A ta,.str B tb,.str C tc].toArray },toks:=tk }:=λA B C ta tb tc tk e=>by rw[e]at q;exact⟨.ref s.heap.objs.size,_,I.laid (t':=tk) (λb o e=>Qh _ e) (Qf _) (show d7 X.prog X.w _ _ _ (.tup [.str A,.str B,.str C])from⟨by show 3<=sizeLine;rw[Jy];omega,_,.cons ⟨_,rfl⟩ (.cons ⟨_,rfl⟩ (.cons ⟨_,rfl⟩ .nil)),jS.new _ _⟩),rfl,q _ I.fresh⟩
 refine Zs F.slot_str_partition (Js _ _ _) F.entry_str_partition (F.args_str_partition_2 _ _) (meets_str_partition x y t u hy hsz) ?_;have h':=fin;unfold Txt.partition at h';revert h';cases occurrences x y 0 x.length 1 with
 | nil=>intro h';exact h' _ _ _ _ _ _ _ rfl
 | cons i r=>intro h';exact h' _ _ _ _ _ _ _ rfl
def nI (fo:aA)(g:bQ):aA:=λρ=>match fo ρ with
 | some (.str x,_,ac)=>match g ac with
  | some ([.str y],ad)=>if(y.length==0)=false/\hG x.length=true then some (.lst ((Txt.split x y).map D.str),1,ad)else none
  | _=>none
 | _=>none
def o7 (fo:aA)(g:bQ):aA:=λρ=>match fo ρ with
 | some (.str x,_,ac)=>match g ac with
  | some ([.str y],ad)=>if(y.length==0)=false/\hG x.length=true then some (.tup [.str (Txt.partition x y).1,.str (Txt.partition x y).2.1,.str (Txt.partition x y).2.2],9,ad)else none
  | _=>none
 | _=>none
theorem BJ{K:PySem.W.Frag}{H:Hp}{w:Wn}:∀ xs:List Str,ag K H w o 0 (xs.map D.str) (xs.map V.str) []
 | []=>.nil
 | x::xs=>.cons (F:=[]) (G:=[]) (.str x) (BJ xs) nM
theorem yF(ho:QD X a fa)(ha:eO X [e] g)(bS:attributeBase a "split" X.env (eval a X.env)=eval a X.env:=by rfl)(di:((backTo az (starEach [e] X.env)).all (λx=>!x.1)&&(backToKw az (keywordEach [] X.env)).all (λx=>x.1.isSome)
   && decide ([e].length+([]:List Keyword).length+(if([]:List Keyword).isEmpty then 0 else 1)<30))=true:=by rfl) (bT:(apos.endLine==az.line)=true:=by rfl) (hs:starEach [e] X.env=(false,eval e X.env)::starEach [] X.env:=by rfl) (bg:(backTo az (starEach [] X.env)).any (·.1)=false:=by rfl):QD X (.Call (.Attribute a "split" apos) [e] [] az) (nI fa g):=⟨have ho:=ho.o;have ha:=ha.o;PE.imp (om ZR PySem.F.slot_str_split PySem.F.type_str_split Ro ho ha bS di bT hs bg) λσ H Q ak=>by
 obtain⟨ρ,w,t,r',q,aB,gd,ee,k⟩:=ak;unfold nI at ee;split at ee;next x q1 ac h1=>
  split at ee;next y ad h2=>
   split at ee;next hc=>
    cases ee;refine⟨ρ,w,t,_,_,_,gd,h1,λv H1 w1 F1 g1 aJ r1=>?_⟩;obtain⟨rfl,_⟩:=r1.inv;have gg:=g1.drop (t':=t);refine⟨rfl,ac,cm t w1,t,_,_,gg,h2,λyw H2 w2 g2 bb r2=>?_⟩;obtain⟨v2,rfl,oR⟩:=t4 r2;obtain⟨rfl,_⟩:=oR.inv;refine⟨x,y,rfl,rfl,hc.1,Qq (Nat.add_le_add_right (BG hc.2) 2) (by rw[Jy];omega),λl hl=>?_⟩;obtain⟨a1,a2,a3⟩:=pP g2 hl (BJ (Txt.split x y));exact k _ _ _ _ a1 (((aJ.drop gd.wt).trans bb).trans a2) a3
   .cases ee
  .cases ee
 .cases ee⟩
theorem BK(ho:QD X a fa)(ha:eO X [e] g)(bS:attributeBase a "partition" X.env (eval a X.env)=eval a X.env:=by rfl)(di:((backTo az (starEach [e] X.env)).all (λx=>!x.1)&&(backToKw az (keywordEach [] X.env)).all (λx=>x.1.isSome)
   && decide ([e].length+([]:List Keyword).length+(if([]:List Keyword).isEmpty then 0 else 1)<30))=true:=by rfl) (bT:(apos.endLine==az.line)=true:=by rfl) (hs:starEach [e] X.env=(false,eval e X.env)::starEach [] X.env:=by rfl) (bg:(backTo az (starEach [] X.env)).any (·.1)=false:=by rfl):QD X (.Call (.Attribute a "partition" apos) [e] [] az) (o7 fa g):=⟨have ho:=ho.o;have ha:=ha.o;PE.imp (om ZR PySem.F.slot_str_partition PySem.F.type_str_partition Rp ho ha bS di bT hs bg) λσ H Q ak=>by
 obtain⟨ρ,w,t,r',q,aB,gd,ee,k⟩:=ak;unfold o7 at ee;split at ee;next x q1 ac h1=>
  split at ee;next y ad h2=>
   split at ee;next hc=>
    cases ee;refine⟨ρ,w,t,_,_,_,gd,h1,λv H1 w1 F1 g1 aJ r1=>?_⟩;obtain⟨rfl,_⟩:=r1.inv;have gg:=g1.drop (t':=t);refine⟨rfl,ac,cm t w1,t,_,_,gg,h2,λyw H2 w2 g2 bb r2=>?_⟩;obtain⟨v2,rfl,oR⟩:=t4 r2;obtain⟨rfl,_⟩:=oR.inv;refine⟨x,y,rfl,rfl,hc.1,nH hc.2,λl hl=>?_⟩;obtain⟨a1,a2,a3⟩:=rm g2 hl (BJ [(Txt.partition x y).1,(Txt.partition x y).2.1,(Txt.partition x y).2.2]);exact k _ _ _ _ a1 (((aJ.drop gd.wt).trans bb).trans a2) a3
   .cases ee
  .cases ee
 .cases ee⟩
theorem Rq{env:Env}{cb vs:List Expr}:starEach (.JoinedStr vs pos::cb) env=(false,eval (.JoinedStr vs pos) env)::starEach cb env:=by simp only[starEach]
def se (c:Str)(fa:aA):aA:=λρ=>match fa ρ with
 | some (.int i,_,ac)=>if 0<=i/\i<1000000/\hG (c.length+(Str.ofString (toString i)).length)=true then some (.str (c++(toString i:String)),9,ac)else none
 | some (.str x,_,ac)=>if hG (c.length+x.length)=true then some (.str (c++x),9,ac)else none
 | _=>none
theorem yG(d:Str):Str.empty++d=d:=by show(⟨#[]++d.cps⟩:Str)=d;simp
theorem FE{c:Str}(ha:QD X a fa):QD X (.JoinedStr [.Constant (.str c) k p1,.FormattedValue a (-1) none p2] pos) (se c fa):=⟨have ha:=ha.o;by
 intro Z_ s σ H Q I ak;obtain⟨ρ,w,t,r',q,aB,gd,ee,kk⟩:=ak;refine JoinedStr_many (joinParts_cons (a_ (zE (j:=k) (pos:=p1) Z_ s σ H (λv H1=>v=.str c/\H1=H) I ⟨rfl,rfl⟩) λu s1 rJ=>?_));obtain⟨v1,H1,I1,r1,e1,e2⟩:=rJ;subst e1 e2;obtain⟨t1,rfl⟩:=r1;have FF:∀ n,hG (c.length+n)=true->c.length<=sizeLine:=λn h=>Qq (Yf _ _) (nH h);unfold se at ee;split at ee;next i q1 ac h1=>
  split at ee;next hc=>
   cases ee;refine⟨by rw[yG];exact FF _ hc.2.2,?_⟩;rw[yG];refine joinParts_cons (FormattedValue_plain (a_ (ha Z_ s1 σ H1 (λv H2=>v=.int i/\∃ w1,Good X.K aB σ H2 w1 (t+1)/\Go H1 w H2 w1) I1 ⟨ρ,w,t,_,_,_,gd,h1,λv H2 w2 F2 g2 bb r2=>⟨dZ r2,w2,g2,bb⟩⟩) λu s2 BL=>?_));obtain⟨v2,H2,I2,r2,rfl,w2,g2,bb⟩:=BL;obtain⟨t2,rfl⟩:=r2;refine formatField_int_small (Fw hc.1 hc.2.1) ⟨?_,joinParts_nil ⟨.str _,H2,I2.tok _,⟨_,rfl⟩,kk _ H2 w2 [] g2 bb (.str _)⟩ ?_⟩
   .rw[Z1];exact nH hc.2.2
   .rw[Z1];exact nH hc.2.2
  .cases ee
 next x q1 ac h1=>
  split at ee;next hc=>
   cases ee;refine⟨by rw[yG];exact FF _ hc,?_⟩;rw[yG];refine joinParts_cons (FormattedValue_plain (a_ (ha Z_ s1 σ H1 (λv H2=>v=.str x/\∃ w1,Good X.K aB σ H2 w1 (t+1)/\Go H1 w H2 w1) I1 ⟨ρ,w,t,_,_,_,gd,h1,λv H2 w2 F2 g2 bb r2=>⟨by obtain⟨rfl,_⟩:=r2.inv;rfl,w2,g2,bb⟩⟩) λu s2 BL=>?_));obtain⟨v2,H2,I2,r2,rfl,w2,g2,bb⟩:=BL;obtain⟨t2,rfl⟩:=r2;refine formatField_str (λt' tk=>⟨?_,joinParts_nil ⟨.str _,H2,(I2.tok _).tok _,⟨_,rfl⟩,kk _ H2 w2 [] g2 bb (.str _)⟩ ?_⟩) (Qq (Nat.le_add_left _ _) (nH hc))
   .rw[Z1];exact nH hc
   .rw[Z1];exact nH hc
  .cases ee
 .cases ee⟩
end
def yH (nm:Str)(fe:aA):cY:=λρ=>match fe ρ with
 | some (.str _,_,_)=>some nm
 | _=>none
section
variable {P:Program}{w:World}{K:PySem.W.Frag}{mg:Str->Option Value}{base:Heap}{N:List Str}{qual:Str}{scope:Scope}{f:Addr}{cd:Value}{A:Around}{outer:List Env}{ai:Shared}{aD:Hp}{E:XK}
theorem Rr{nm:Str}{k:Nat}{np az pos:Pos}{e:Expr}{fe:aA}(hr:bc k (A.deeper (envOfC qual scope ai.heap.objs.size f cd)))(hC:∃ C,yo K mg nm C)(he:QD (df P w K mg base N qual scope f cd A outer ai aD E) e fe)(hg:Gl (df P w K mg base N qual scope f cd A outer ai aD E) nm:=by rfl)(fO:(nm==("__debug__":Str))=false:=by decide)(hs:starEach [e] (envOfC qual scope ai.heap.objs.size f cd)=(false,eval e (envOfC qual scope ai.heap.objs.size f cd))::starEach [] (envOfC qual scope ai.heap.objs.size f cd):=by rfl):tU (df P w K mg base N qual scope f cd A outer ai aD E) E (.Raise (some (.Call (.Name nm np) [e] [] az)) none pos) (yH nm fe):=⟨have he:=he.o;by
 obtain⟨C,hC⟩:=hC;intro Z_ s σ H D I ak;obtain⟨ρ,w',qe,g,ee,k⟩:=ak;unfold yH at ee;split at ee;next txt q ac h1=>
  cases ee;obtain⟨tl,Nn,qe,q,bs,hdct,sn,sub,ab,col,dd,k0,k1,k2,k3,k5,mN,vI,hN,tN,T⟩:=E9 I.mod.sV hC.ex;refine wpAny_Raise_call_subT (C:=C) (nm:=qe) (q:=q) (N:=Nn) (bs:=bs) (bm:=tl) (hdct:=hdct) (sn:=sn) (sub:=sub) (ab:=ab) (col:=col) (dd:=dd) (k0:=k0) (k1:=k1) (k2:=k2) (k3:=k3) (k5:=k5)
   ZE (mN:=mN) (T.hasType ZE.hasBase) hr.hd ?_ tN (sY I hg hC.mg ⟨rfl,?_⟩ fO)
  .show(backTo az (starEach [e] (envOfC qual scope ai.heap.objs.size f cd))).any (·.1)=false;rw[hs];rfl
  .have j0:starEach [e] (df P w K mg base N qual scope f cd A outer ai aD E).env=(false,eval e (df P w K mg base N qual scope f cd A outer ai aD E).env)::starEach [] (df P w K mg base N qual scope f cd A outer ai aD E).env:=hs;rw[j0];refine Jz (JP (a_ (he Z_ s σ H (λv H1=>v=.str txt/\∃ w1,WL K w1 H1/\Go H w' H1 w1) I ⟨ρ,w',0,_,_,_,g,h1,λv H1 w1 F1 g1 aJ r1=>⟨(by obtain⟨rfl,_⟩:=r1.inv;rfl),w1,g1.wl,aJ⟩⟩) λu s1 rJ=>?_));obtain⟨v,H1,I1,r1,e1,w1,Rt,aJ⟩:=rJ;subst e1;refine J9 ⟨rfl,by show 1<=sizeLine;decide,I1.bk _ _ vI,hN.keeps I1.bk,T.keeps I1.bk,λh' e hm=>E8 I1 hm (k C H1 w1 hC.ns Rt aJ)⟩
 .cases ee⟩
end
end L3
namespace L3
open PySem PySem.Spec PyProof.Rows L2
variable {K:PySem.W.Frag}{N ps:List Str}{P:Program}{base:Heap}{body:aH}{k:Nat}{mg:Str->Option Value}{w:World}
theorem qv{X:Cx}(i:Nat){x:Str}{pos:Pos}(hN:X.N[i]? = some x:=by rfl)(hv:sW X.env.scope x:=by first|exact Or.inl rfl|exact Or.inr (Or.inl rfl)|exact Or.inr (Or.inr rfl))(hd:(x==("__debug__":Str))=false:=by decide)(gM:(x==("__classdict__":Str))=false:=by decide):QE X (.Name x pos) (jV i):=⟨pv i hN hv hd gM⟩
theorem ql{X:Cx}(i:Nat){x:Str}{pos:Pos}(hN:X.N[i]? = some x)(hv:X.env.scope.names.lookup x=some .local)(hd:(x==("__debug__":Str))=false:=by decide)(gM:(x==("__classdict__":Str))=false:=by decide):QE X (.Name x pos) (jV i):=⟨pv i hN (.inl hv) hd gM⟩
theorem lD{X:Cx}{e:Expr}{f:cy}(h:xX X e f):iI X e f:=⟨PW.pt h.o⟩
section
variable {X:Cx}{E:XK}{st:Stmt}{ss cb a b:List Stmt}{x y:cY}{f:aH}{g:cy}{c e:Expr}{es:List Expr}{pos pos' p:Pos}
theorem FG(he:mC X E e x)(hs:starEach (e::es) X.env=(false,eval e X.env)::starEach es X.env:=by rfl):By X E (e::es) x:=⟨Fl he.o hs⟩
end
theorem aq{X:Cx}(i:Nat){x:Str}{pos:Pos}(hN:X.N[i]? = some x)(hv:X.env.scope.names.lookup x=some .local)(hd:(x==("__debug__":Str))=false:=by decide)(gM:(x==("__classdict__":Str))=false:=by decide):QD X (.Name x pos) (aa i):=bu (ql i hN hv hd gM)
theorem aG{X:Cx}(i:Nat){x:Str}{pos:Pos}{es:List Expr}{g:bQ}(hN:X.N[i]? = some x)(hv:X.env.scope.names.lookup x=some .local)(hr:eO X es g)(hd:(x==("__debug__":Str))=false:=by decide)(gM:(x==("__classdict__":Str))=false:=by decide):eO X (.Name x pos::es) (ae (aa i) g):=ao (aq i hN hv hd gM) hr bV
theorem cP{X:Cx}{i:Int}{j:Nat}{pos:Pos}{es:List Expr}{g:bQ}(hr:eO X es g):eO X (.Constant (.int i) j pos::es) (ae (eC (.int i)) g):=ao aU hr gf
theorem aw.cx{x:Str}{st:Stmt}(a:At K mg x st ps)(S:ah N ps (bh st))
  (h:∀ (f:Addr) (b6:Value) (A:Around) (outer:List Env) (s:Shared) (H:Hp) (E:XK),bc k (A.deeper (envOfC x (bh st) s.heap.objs.size f b6))->gP (k8 jl P w K mg base N x (bh st) f b6 A outer s H E).g7 (jk st) body) :
  aw P w K mg base (k+1) x ps.length (bU N.length body):=aw.mk a S λf b6 A outer s H E hr=>(h f b6 A outer s H E hr).o
theorem Ru{x:Str}{st:Stmt}{f:Addr}{fd:FuncData}(F:lT K x x st f fd)(S:ah N ps (bh st))
  (h:∀ (f:Addr) (b6:Value) (A:Around) (outer:List Env) (s:Shared) (H:Hp) (E:XK),bc k (A.deeper (envOfC x (bh st) s.heap.objs.size f b6))->gP (k8 jl P w K mg base N x (bh st) f b6 A outer s H E).g7 (jk st) body) :
  eG P w K mg base jl (k+1) f fd ps (kH K ps.length (bU N.length body)):=N_ F S λf b6 A outer s H E hr=>(h f b6 A outer s H E hr).o
end L3
namespace L3
open PySem PySem.Spec PyProof.Rows PySem.W L2
variable {C:Addr}{K:Frag}{L:List Str}{k:Nat}{mg:Str->Option Value}{x:Str}
theorem BM{v:Value}{b:Bool}(h:mroIn K C v=some b):(clsIn K C).isSome=true:=by obtain⟨cd,a,_⟩:=Option.bind_eq_some_iff.mp h;rw[a];rfl
theorem iX.of{nm:Str}(n:nsIn K mainGlobals nm=some (some (.ref C)))(x:fy K C)(ex:excIn K C Ay "ValueError.__new__" = true)(v:mroIn K C (.type "ValueError")=some true)
  (a1:mroIn K C (.type "int")=some false) (a2:mroIn K C (.type "bool")=some false) (a3:mroIn K C (.type "tuple")=some false) (a4:mroIn K C (.type "list")=some false) (a5:mroIn K C (.type "str")=some false):iX K nm C:=
 ⟨n,x,ex,v,λT hT=>by
   rcases Qp.mp hT with rfl|hT
   .exact a1
   rcases Qp.mp hT with rfl|hT
   .exact a2
   rcases Qp.mp hT with rfl|hT
   .exact a3
   rcases Qp.mp hT with rfl|hT
   .exact a4
   rcases Qp.mp hT with rfl|hT
   .exact a5
   cases hT⟩
theorem oO.nil{R:Str}{RA:Addr}(x:fy K RA)(t:typeIn K (.ref RA)=some (.type "type"))(m:mg R=some (.ref RA)):oO K mg R []:=⟨RA,x,t,m,λn hn=>nomatch hn⟩
theorem oO.cons{K:Frag}{mg:Str->Option Value}{R nm:Str}{L:List Str}{C RA:Addr}(U:oO K mg R L)(m:mg R=some (.ref RA))(k:iX K nm C)(s:mroIn K C (.ref RA)=some true):oO K mg R (nm::L):=by
 obtain⟨RB,x,t,m',h⟩:=U;rw[m]at m';cases m';refine⟨RA,x,t,m,λn hn C' e=>?_⟩;rcases Qp.mp hn with rfl|hn
 .have e':=k.ns;rw[e]at e';cases e';exact⟨k,s⟩
 .exact h n hn C' e
theorem eR.nil{nm:Str}(m:mg nm=some (.ref C)):eR K mg [] nm:=⟨C,m,λn hn=>nomatch hn⟩
theorem eR.self{nm:Str}(U:eR K mg L nm)(n:nsIn K mainGlobals nm=some (some (.ref C)))(m:mg nm=some (.ref C)):eR K mg (nm::L) nm:=by
 obtain⟨C',m',h⟩:=U;rw[m]at m';cases m';refine⟨C,m,λn' hn B e=>?_⟩;rcases Qp.mp hn with rfl|hn
 .rw[e]at n;cases n;exact⟨λ_=>by unfold isIn;simp,λz=>absurd rfl z⟩
 .exact h n' hn B e
theorem eR.other{nm n2:Str}{D:Addr}(U:eR K mg L n2)(n:nsIn K mainGlobals nm=some (some (.ref C)))(m:mg n2=some (.ref D))(hn:nm≠n2)(ne:C≠D)(t:typeIn K (.ref D)=some (.type "type"))(o:mroIn K D (.type "object")=some true)(s:mroIn K C (.ref D)=some false):eR K mg (nm::L) n2:=by
 obtain⟨D',m',h⟩:=U;rw[m]at m';cases m';refine⟨D,m,λn' lJ B e=>?_⟩;rcases Qp.mp lJ with rfl|lJ
 .rw[e]at n;cases n;have s':subIn K (.ref C) (.ref D)=some false:=s;exact⟨λz=>absurd z hn,λ_=>by unfold kin_not;rw[BM o,t,s'];simp[ne]⟩
 .exact h n' lJ B e
theorem gR.cx{P:Program}{w:World}{K:PySem.W.Frag}{base:Heap}{st:Stmt}{N ps:List Str}{xb:cY}(a:At K mg x st ps)(S:ah N ps (bh st))
  (h:∀ (f:Addr) (b6:Value) (A:Around) (outer:List Env) (s:Shared) (H:Hp) (E:XK),bc k (A.deeper (envOfC x (bh st) s.heap.objs.size f b6))->nG (df P w K mg base N x (bh st) f b6 A outer s H E) E (jk st) xb) :
  gR P w K mg base (k+1) x ps.length (fnX N.length xb):=gR.mk a S λf b6 A outer s H E hr=>(h f b6 A outer s H E hr).o
theorem j5e{K:PySem.W.Frag}(a:nsIn K mainGlobals x=some none):tabIn K x=none:=by unfold tabIn;rw[a]
theorem T0.of{K:PySem.W.Frag}(h1:tabIn K "turned" = none)(h2:tabIn K "chain_ladder" = none)(h3:tabIn K "flat_ladder" = none)(h4:tabIn K "paired" = none)(h5:tabIn K "height_of" = none)(h6:tabIn K "_law_high" = none):∀ x∈tz,tabIn K x=none:=λx hx=>by unfold tz at hx;simp only[Qp,QJ,or_false]at hx;rcases hx with rfl|rfl|rfl|rfl|rfl|rfl<;>assumption
theorem Rv{l:PySem.W.OpenLaw}{n:Nat}{q:Program}{loose:List Str}{XP:(Str->Option Value)->Heap->Prop}{YP:World->Heap->Prop}{d:DefRec}{K:Params->PySem.W.Frag}{F0:List D->OD}
  (hn:l.most=some n) (xK:n<=sizeLine) (uW:d.params.defaults=[]) (hr:bc k callerA) (hY:∀ (w:World) (h:Heap),YP w h->(K w.params).In h)
  (F:∀ (w:World) (mg:Str->Option Value) (fa:Addr) (h:Heap),(K w.params).In h->h.Ns mainGlobals mg->mg d.name=some (.ref fa)->(∀ x∈tz,tabIn (K w.params) x=none) /\
    ∃ fd:FuncData,(∀ (s:Shared) (u:Value),BindsTo s fd ⟨[u],[]⟩ [(x,u)])/\∀ base:Heap,(K w.params).In base->base.Ns mainGlobals mg->eG l.prog w (K w.params) mg base jl k fa fd [x] (kH (K w.params) 1 F0))
  (jz:∀ (w:World) (H:Hp) (a:Addr) (ns:List Int),ns.length<=n->TB (K w.params) H->cM (K w.params) H a (ns.map V.int)->kH (K w.params) 1 F0 [.ref a] H (λv _=>v=.bl true) λ_ _ _=>False) :
  PySem.W.WalkO q loose XP YP l.row.toRowW d [] (λf vs=>PySem.call f vs):=by refine D3.MA hn uW λw ai aT mg mb fa o pm cd doc a vs ns G Y ho hd gM hmg qU hints hlen hg=>?_;have KX:=hY w _ Y;obtain⟨hT,fd,hb,hF⟩:=F w mg fa _ KX G.T.g hmg;exact MC KX G.T.g G.T.b G.T.builtins G.T.nolimit hg qU hints (Qq hlen xK) hr hF hb (λH hO hS=>jz w H a ns hlen (TB.only hO hT) hS) λ_ _ _ z=>z
end L3
namespace L3
open PySem PySem.Spec PyProof.Rows L2
theorem o8{k:Nat}{pt:eo}{tt:cy}{te:aA}{deep:Bool}:∀ (ds:List D) (S:Nat->aV) (b:Nat->Bool) (v:Nat->D),
  (∀ i (h:i<ds.length),∃ ac ad,pt ds[i] (S i++replicate k none)=some ac/\tt ac=some (b i,ad) /\
    (if b i=true then ∃ q dI,te ad=some (v i,q,dI)/\¬ (deep=true/\(v i).cI=true/\q≠1)/\dI.take (S i).length=S (i+1)else ad.take (S i).length=S (i+1)))->
  iK k pt tt te deep ds (S 0)=some (((range ds.length).filter b).map v,S ds.length)
 | [],S,b,v,_=>rfl
 | d::ds,S,b,v,h=>by
  obtain⟨ac,ad,h1,h2,h3⟩:=h 0 (by simp);have ih:=o8 ds (λi=>S (i+1)) (λi=>b (i+1)) (λi=>v (i+1)) (λi hi=>h (i+1) (by simpa using hi));have er:((range (d::ds).length).filter b).map v=(if b 0=true then [v 0]else [])++((range ds.length).filter λi=>b (i+1)).map λi=>v (i+1):=by rw[QK,ZS,List.filter_cons,List.filter_map];split<;>simp[Zn]
  rw[er];unfold iK;rw[show pt d (S 0++replicate k none)=some ac from h1];simp only[h2];split at h3;next hb=>
   obtain⟨q,dI,h4,h5,h6⟩:=h3;simp only[hb,ZZ,h4,Qw h5,h6,ih];rfl
  next hb=>
   simp only[hb,h3,ih];rfl
theorem nJ{pt:eo}{body:aH}:∀ (ds:List D) (I:Nat->aV->Prop) (ρ:aV),(∀ i (h:i<ds.length) ρ,I i ρ->∃ ac ad,pt ds[i] ρ=some ac/\(body ac=some (.nx ad)\/body ac=some (.ct ad))/\I (i+1) ad)->I 0 ρ->∃ aB,fq pt body ds ρ=some (.nx aB)/\I ds.length aB
 | [],I,ρ,_,h0=>⟨ρ,rfl,h0⟩
 | d::ds,I,ρ,h,h0=>by obtain⟨ac,ad,h1,h2,h3⟩:=h 0 (by simp) ρ h0;obtain⟨aB,e,h4⟩:=nJ ds (λi=>I (i+1)) ad (λi hi=>h (i+1) (by simpa using hi)) h3;refine⟨aB,?_,h4⟩;unfold fq;rw[show pt d ρ=some ac from h1];rcases h2 with h2|h2<;>(simp only[h2];exact e)
theorem aZ{f g:aH}{ρ ac:aV}(h:f ρ=some (.nx ac)):aE f g ρ=g ac:=by unfold aE;rw[h]
theorem kh{f g:aH}{ρ:aV}{d:D}{q:Nat}(h:f ρ=some (.rt d q)):aE f g ρ=some (.rt d q):=by unfold aE;rw[h]
theorem dJ{n:Nat}{body:aH}{ds:List D}{d:D}{q:Nat}(h:body (jo n ds)=some (.rt d q)):bU n body ds=some (d,q):=by unfold bU;rw[h]
theorem iO{k:Nat}{it:iZ}{pt:eo}{tt:cy}{te:aA}{deep:Bool}{ρ ac ad:aV}{ds vs:List D}(hi:it ρ=some (ds,ac))(hc:iK k pt tt te deep ds ac=some (vs,ad)):cA k it pt tt te deep ρ=some (.lst vs,if deep=true then 2 else 1,ad):=by unfold cA;rw[hi];simp only[hc]
theorem Rw{i:Nat}{f:aA}{ρ ac:aV}{d:D}{q:Nat}(h:f ρ=some (d,q,ac)):aY i f ρ=some (.nx (ac.set i (some (d,q)))):=by unfold aY;rw[h]
theorem fR{f:aA}{ρ ac:aV}{d:D}{q:Nat}(h:f ρ=some (d,q,ac)):aS f ρ=some (.rt d q):=by unfold aS;rw[h]
theorem fS{it:iZ}{pt:eo}{body:aH}{ρ ac:aV}{ds:List D}(h:it ρ=some (ds,ac)):dy it pt body ρ=fq pt body ds ac:=by unfold dy;rw[h]
theorem qp{g:cy}{s s':aH}{ρ ac:aV}(h:g ρ=some (true,ac)):cj g s s' ρ=s ac:=by unfold cj;rw[h];rfl
theorem o9{g:cy}{s s':aH}{ρ ac:aV}(h:g ρ=some (false,ac)):cj g s s' ρ=s' ac:=by unfold cj;rw[h];rfl
theorem fI{i:Nat}{f:aA}{ρ ac ad:aV}{d:D}{q:Nat}(h:f ρ=some (d,q,ac))(e:ac.set i (some (d,q))=ad):aY i f ρ=some (.nx ad):=by rw[Rw h,e]
theorem cB{f:aA}{ρ ac:aV}{d:D}{q:Nat}(h:f ρ=some (d,q,ac)):ae f af ρ=some ([d],ac):=by unfold ae;rw[h];rfl
theorem eE{f:aA}{g:bQ}{ρ ac ad:aV}{d:D}{q:Nat}{ds:List D}(h:f ρ=some (d,q,ac))(h':g ac=some (ds,ad)):ae f g ρ=some (d::ds,ad):=by unfold ae;rw[h];simp only[h']
theorem t5{g:bQ}{ρ ac:aV}{ds:List D}(h:g ρ=some ([.lst ds],ac)):fV g ρ=some (.tup ds,9,ac):=by unfold fV;rw[h]
theorem FH{g:bQ}{ρ ac:aV}{ds:List D}(h:bW g ρ=some (ds,ac)):pX g ρ=some (.lst ds,1,ac):=by unfold pX;rw[h]
theorem bY{F:List D->OD}{n:Nat}{g:bQ}{ρ ac:aV}{ds:List D}{d:D}{q:Nat}(h:g ρ=some (ds,ac))(hl:ds.length=n)(hF:F ds=some (d,q)):ay F n g ρ=some (d,q,ac):=by unfold ay;rw[h];simp only[hl,ZZ,hF]
def aI (l:List Nat):List D:=l.map λi=>.int (Int.ofNat i)
abbrev iD (k:Nat):D:=.int (Int.ofNat k)
abbrev uL (v:List Nat):OD:=some (.lst (aI v),1)
abbrev v9 (v:List Nat):OD:=some (.tup (aI v),9)
abbrev b9 (b:Bool):OD:=some (.bl b,9)
abbrev i9 (k:Nat):OD:=some ((iD k),9)
def kQ (n:Nat)(f:Nat->Nat->Nat)(i:Nat):D:=.tup (aI ((range n).map λj=>f i j))
def bN (n:Nat)(f:Nat->Nat->Nat):D:=.tup ((range n).map λi=>kQ n f i)
abbrev t9 (n:Nat)(f:Nat->Nat->Nat):OD:=some (bN n f,9)
def bF (n:Nat)(f:Nat->Nat->Nat)(i:Nat):D:=.lst (aI ((range n).map λj=>f i j))
def b8 (n:Nat)(f:Nat->Nat->Nat):D:=.lst ((range n).map λi=>bF n f i)
@[simp] theorem Xs{n:Nat}{f:Nat->Nat->Nat}:(bN n f).cI=false:=rfl
@[simp] theorem Xu{n:Nat}{f:Nat->Nat->Nat}{i:Nat}:(kQ n f i).cI=false:=rfl
@[simp] theorem Xv{n:Nat}{f:Nat->Nat->Nat}:(b8 n f).cI=true:=rfl
@[simp] theorem Xw{n:Nat}{f:Nat->Nat->Nat}{i:Nat}:(bF n f i).cI=true:=rfl
theorem gh(l:List Nat):(aI l).length=l.length:=by simp[aI]
theorem yI(l:List Nat)(i:Nat):(aI l)[i]? = (l[i]?).map λx=>.int (Int.ofNat x):=by simp[aI]
theorem yJ{n i:Nat}(h:i<n):iU n (Int.ofNat i)=some i:=by unfold iU;rw[Qk (by exact JV i),Qk (by show(i:Int)<n;omega)];rfl
theorem BN{α:Type}{xs:List α}{i:Nat}{x:α}(h:xs[i]? = some x):L2.dC xs (Int.ofNat i)=some x:=by unfold L2.dC;rw[yJ (Qs.mp h).1];exact h
theorem FI{l:List Nat}{i x:Nat}(h:l[i]? = some x):L2.dC (aI l) (Int.ofNat i)=some (iD x):=BN (by rw[yI,h];rfl)
theorem FJ{g:Nat->D}{n i:Nat}(h:i<n):L2.dC ((range n).map g) (Int.ofNat i)=some (g i):=BN (by rw[QO,Zp h];rfl)
theorem t6{g:Nat->Nat}{n i:Nat}(h:i<n):L2.dC (aI ((range n).map g)) (Int.ofNat i)=some (iD (g i)):=FI (by rw[QO,Zp h];rfl)
theorem jI{n:Nat}{f:Nat->Nat->Nat}{i:Nat}(h:i<n):eX (bN n f) (Int.ofNat i)=some (kQ n f i):=FJ h
theorem ki{n:Nat}{f:Nat->Nat->Nat}{i j:Nat}(h:j<n):eX (kQ n f i) (Int.ofNat j)=some (iD (f i j)):=t6 h
theorem Rx{n:Nat}{f:Nat->Nat->Nat}{i:Nat}(h:i<n):eX (b8 n f) (Int.ofNat i)=some (bF n f i):=FJ h
theorem Ry{n:Nat}{f:Nat->Nat->Nat}{i j:Nat}(h:j<n):eX (bF n f i) (Int.ofNat j)=some (iD (f i j)):=t6 h
theorem i3{n:Nat}{f:Nat->Nat->Nat}:e8 (bN n f)=some n:=by simp[bN,e8]
theorem vW{n:Nat}{f:Nat->Nat->Nat}:e8 (b8 n f)=some n:=by simp[b8,e8]
theorem yK{n:Nat}{f g:Nat->Nat->Nat}(h:∀ a b,a<n->b<n->f a b=g a b):b8 n f=b8 n g:=by unfold b8 bF;refine Zr D.lst (Q0 λa ha=>?_);refine Zr (λl=>D.lst (aI l)) (Q0 λb hb=>?_);exact h a b (QN.mp ha) (QN.mp hb)
theorem FK{α:Type}{g:Nat->α}{n m:Nat}{x:α}:((range n).map g).set m x=(range n).map λa=>if a=m then x else g a:=by
 apply Za;intro i;by_cases hi:i<n
 .by_cases h:m=i
  .subst h;rw[QB (by simpa using hi),QO,Zp hi];simp
  .rw[QF h,QO,QO,Zp hi];simp;exact λz=>absurd z.symm h
 .rw[QA (by simp;omega),QA (by simp;omega)]
theorem FL{g:Nat->Nat}{n:Nat}:aI ((range n).map g)=(range n).map λi=>.int (Int.ofNat (g i)):=by simp[aI]
theorem Rz{n:Nat}{f:Nat->Nat->Nat}{a b v:Nat}:D.lst (((range n).map λi=>bF n f i).set a (.lst ((aI ((range n).map λj=>f a j)).set b (iD v))))=b8 n λi j=>if i=a/\j=b then v else f i j:=by
 unfold b8;rw[FK];refine Zr D.lst (Q0 λi hi=>?_);by_cases h:i=a
 .subst h;rw[Qk rfl,FL,FK];unfold bF;rw[FL];refine Zr D.lst (Q0 λj hj=>?_);by_cases hj:j=b<;>simp[hj]
 .rw[Qw h];unfold bF;simp[h]
theorem RC(n:Nat):D.lst (replicate n [D.int 0]).flatten=bF n (λ_ _=>0) 0:=by unfold bF aI;congr 1;simp[List.flatten_replicate_singleton,List.map_const']
theorem BO:∀ ds:List D,d3 ds=ds.map cn
 | []=>rfl
 | d::ds=>by rw[d3,BO ds];rfl
def lay (d:D):Bool:=j_ d&&(cn d).canLay0
theorem FN{d:D}(h:lay d=true):j_ d=true:=(QT.mp h).1
theorem FO{d:D}(h:lay d=true):(cn d).canLay0=true:=(QT.mp h).2
theorem BP:∀ {ds:List D},(∀ d∈ds,lay d=true)->rH ds=true
 | [],_=>rfl
 | d::ds,h=>by show(j_ d&&rH ds)=true;rw[FN (h d Qd),BP λx m=>h x (Qc _ m)];rfl
def lZ (d:D):Nat:=(cn d).depth
theorem BQ:∀ {ds:List D},(∀ d∈ds,lay d=true)->PyData.canLayAll0 (d3 ds)=true
 | [],_=>rfl
 | d::ds,h=>by rw[d3,PyData.canLayAll0,BQ λx m=>h x (Qc _ m),Bool.and_true];exact FO (h d Qd)
theorem BR{k:Nat}:∀ {ds:List D},(∀ d∈ds,lZ d<=k)->PyData.depthAll (d3 ds)<=k
 | [],_=>Jl _
 | d::ds,h=>by rw[d3,PyData.depthAll];exact Nat.max_le.mpr ⟨h d Qd,BR λx m=>h x (Qc _ m)⟩
def Sh (k:Nat)(d:D):Prop:=lay d=true/\lZ d<=k
theorem Sh.int{k:Nat}(i:Int):Sh k (.int i):=⟨rfl,Jl _⟩
theorem Sh.tup{k:Nat}{ds:List D}(h:∀ d∈ds,Sh k d):Sh (k+1) (.tup ds):=⟨QT.mpr ⟨BP λd m=>(h d m).1,BQ λd m=>(h d m).1⟩,Yd (BR λd m=>(h d m).2)⟩
theorem Sh.lst{k:Nat}{ds:List D}(h:∀ d∈ds,Sh k d):Sh (k+1) (.lst ds):=⟨QT.mpr ⟨BP λd m=>(h d m).1,BQ λd m=>(h d m).1⟩,Yd (BR λd m=>(h d m).2)⟩
theorem Sh.ok{k:Nat}{d:D}(h:Sh k d)(hk:k<=64:=by decide):eY d=true:=by show(j_ d&&((cn d).canLay0&&decide ((cn d).depth<=64)))=true;rw[FN h.1,FO h.1,Je,Je];exact Qt (Qq h.2 hk)
theorem FP{l:List Nat}{d:D}(m:d∈aI l):Sh 0 d:=by obtain⟨x,_,rfl⟩:=Qm.mp m;exact .int _
theorem BS(l:List Nat):Sh 1 (.lst (aI l)):=.lst λ_ m=>FP m
theorem BU(l:List Nat):Sh 1 (.tup (aI l)):=.tup λ_ m=>FP m
theorem BV(n:Nat)(f:Nat->Nat->Nat):Sh 2 (bN n f):=.tup λd m=>by obtain⟨x,_,rfl⟩:=Qm.mp m;exact BU _
theorem BW:∀ l l':List Nat,PyData.eqvAll (d3 (aI l)) (d3 (aI l'))=decide (l=l')
 | [],[]=>rfl
 | [],_::_=>rfl
 | _::_,[]=>rfl
 | x::l,y::l'=>by
  show(((x:Int)==(y:Int))&&PyData.eqvAll (d3 (aI l)) (d3 (aI l')))=_;rw[BW l l'];by_cases h:x=y
  .subst h;simp
  .have:((x:Int)==(y:Int))=false:=by simp;omega
   rw[this];simp[h]
theorem RD(l l':List Nat):oD (.lst (aI l)) (.lst (aI l'))=decide (l=l'):=BW l l'
theorem RE(l l':List Nat):oD (.tup (aI l)) (.tup (aI l'))=decide (l=l'):=BW l l'
theorem BX(i j:Int):oD (.int i) (.int j)=decide (i=j):=by show(i==j)=_;rw[Bool.beq_eq_decide_eq]
theorem FQ(i j:Nat):oD (iD i) (iD j)=decide (i=j):=by rw[BX];exact Ju.mpr ⟨λh=>Int.ofNat.inj h,λh=>by rw[h]⟩
theorem RF(l l':List Nat):eZ (.lst (aI l)) (.lst (aI l'))=some (.bl (decide (l=l'))):=by unfold eZ;rw[Qk ⟨(BS l).ok,(BS l').ok⟩,RD]
theorem vX(i j:Int):eZ (.int i) (.int j)=some (.bl (decide (i=j))):=by unfold eZ;rw[Qk ⟨(Sh.int (k:=0) i).ok,(Sh.int (k:=0) j).ok⟩,BX]
theorem BY(i j:Int):dE (.int i) (.int j)=some (.bl (!decide (i=j))):=by unfold dE;rw[Qk ⟨(Sh.int (k:=0) i).ok,(Sh.int (k:=0) j).ok⟩,BX]
theorem BZ(i j:Nat):eZ (iD i) (iD j)=some (.bl (decide (i=j))):=by unfold eZ;rw[Qk ⟨(Sh.int (k:=0) _).ok,(Sh.int (k:=0) _).ok⟩,FQ]
theorem qq(i j:Nat):dE (iD i) (iD j)=some (.bl (!decide (i=j))):=by unfold dE;rw[Qk ⟨(Sh.int (k:=0) _).ok,(Sh.int (k:=0) _).ok⟩,FQ]
structure cC (n:Nat) (f:Nat->Nat->Nat):Prop where
 lo:0<n
 hi:n<=16
 cl:∀ i j,i<n->j<n->f i j<n
 idem:∀ i,i<n->f i i=i
 comm:∀ i j,i<n->j<n->f i j=f j i
 assoc:∀ i j k,i<n->j<n->k<n->f (f i j) k=f i (f j k)
 bot:∃ z,z<n/\∀ j,j<n->f z j=j
def B0 (n:Nat)(f:Nat->Nat->Nat):Bool:=
 decide (0<n)&&decide (n<=16)&&((range n).all λi=>(range n).all λj=>decide (f i j<n))&&((range n).all λi=>decide (f i i=i))&&((range n).all λi=>(range n).all λj=>decide (f i j=f j i)) &&
 ((range n).all λi=>(range n).all λj=>(range n).all λk=>decide (f (f i j) k=f i (f j k)))&&((range n).any λz=>(range n).all λj=>decide (f z j=j))
theorem RG{n:Nat}{f:Nat->Nat->Nat}(h:B0 n f=true):cC n f:=by unfold B0 at h;simp only[QX,Zl,QU,List.any_eq_true,QN]at h;obtain⟨⟨⟨⟨⟨⟨h1,h2⟩,h3⟩,h4⟩,h5⟩,h6⟩,z,hz,h7⟩:=h;exact⟨h1,h2,λi j hi hj=>h3 i hi j hj,h4,λi j hi hj=>h5 i hi j hj,λi j k hi hj hk=>h6 i hi j hj k hk,z,hz,h7⟩
theorem cC.RH{n:Nat}{f:Nat->Nat->Nat}(L:cC n f){π ι:Nat->Nat}(h1:∀ i,i<n->π i<n)(h2:∀ i,i<n->ι i<n)(h3:∀ i,i<n->ι (π i)=i)(h4:∀ i,i<n->π (ι i)=i):cC n λa b=>π (f (ι a) (ι b)):=by
 obtain⟨l1,l2,cl,idem,comm,assoc,z,hz,bot⟩:=L;refine⟨l1,l2,λi j hi hj=>h1 _ (cl _ _ (h2 i hi) (h2 j hj)),λi hi=>?_,λi j hi hj=>?_,λi j k hi hj hk=>?_,π z,h1 z hz,λj hj=>?_⟩
 .show π (f (ι i) (ι i))=i;rw[idem _ (h2 i hi),h4 i hi]
 .show π (f (ι i) (ι j))=π (f (ι j) (ι i));rw[comm _ _ (h2 i hi) (h2 j hj)]
 .show π (f (ι (π (f (ι i) (ι j)))) (ι k))=π (f (ι i) (ι (π (f (ι j) (ι k)))));rw[h3 _ (cl _ _ (h2 i hi) (h2 j hj)),h3 _ (cl _ _ (h2 j hj) (h2 k hk)),assoc _ _ _ (h2 i hi) (h2 j hj) (h2 k hk)]
 .show π (f (ι (π z)) (ι j))=j;rw[h3 z hz,bot _ (h2 j hj),h4 j hj]
def dA (p:Nat->Nat->Nat)(n:Nat):Nat->List Nat
 | 0=>range n
 | k+1=>(dA p n k).eraseIdx (p k (dA p n k).length)
def drawn (p:Nat->Nat->Nat)(n k:Nat):Nat:=(dA p n k).getD (p k (dA p n k).length) 0
theorem FR:∀ (l:List Nat) (j:Nat),(aI l).eraseIdx j=aI (l.eraseIdx j)
 | [],_=>rfl
 | _::_,0=>rfl
 | a::l,j+1=>Zr ((iD a) :: ·) (FR l j)
theorem vY{p:Nat->Nat->Nat}{n:Nat}(hp:∀ k m,0<m->p k m<m):∀ k,k<=n->(dA p n k).length=n-k
 | 0,_=>by simp[dA]
 | k+1,h=>by have ih:=vY hp k (Nat.le_of_succ_le h);have:=hp k (n-k) (by omega);rw[dA,List.length_eraseIdx,ih,Qk this];omega
theorem FT:∀ {l:List Nat} {j:Nat} (h:j<l.length),(l[j]::l.eraseIdx j).Perm l
 | a::l,0,_=>List.Perm.refl _
 | a::l,j+1,h=>(List.Perm.swap a (l[j]'(by simpa using h)) (l.eraseIdx j)).trans (List.Perm.cons a (FT (by simpa using h)))
theorem FU{p:Nat->Nat->Nat}{n:Nat}(hp:∀ k m,0<m->p k m<m):∀ k,k<=n->(((range k).map (drawn p n))++dA p n k).Perm (range n)
 | 0,_=>by simp[dA]
 | k+1,h=>by
  have ih:=FU hp k (Nat.le_of_succ_le h);have hl:=vY hp k (by omega:k<=n);have hj:p k (dA p n k).length<(dA p n k).length:=by rw[hl];exact hp k _ (by omega)
  refine List.Perm.trans ?_ ih;rw[Yw,Q6,Zg];refine List.Perm.append_left _ ?_;have e:drawn p n k=(dA p n k)[p k (dA p n k).length]:=by unfold drawn;rw[Zc,Qz hj];rfl
  show(drawn p n k::(dA p n (k+1))).Perm _;rw[e,dA];exact FT hj
theorem yL{p:Nat->Nat->Nat}{n:Nat}(hp:∀ k m,0<m->p k m<m):((range n).map (drawn p n)).Perm (range n):=by have h:=FU hp n (Qf n);have hl:=vY hp n (Qf n);rw[Nat.sub_self]at hl;rw[Zx.mp hl,QY]at h;exact h
theorem FV{p:Nat->Nat->Nat}{n:Nat}(hp:∀ k m,0<m->p k m<m){i:Nat}(h:i<n):drawn p n i<n:=by have m:drawn p n i∈(range n).map (drawn p n):=Qm.mpr ⟨i,QN.mpr h,rfl⟩;exact QN.mp ((yL hp).mem_iff.mp m)
def km (p:Nat->Nat->Nat)(n a:Nat):Nat:=((range n).map (drawn p n)).idxOf a
theorem FW{p:Nat->Nat->Nat}{n:Nat}(hp:∀ k m,0<m->p k m<m){a:Nat}(h:a<n):km p n a<n:=by have m:a∈(range n).map (drawn p n):=(yL hp).mem_iff.mpr (QN.mpr h);have:=JM m;rw[Qa,Q1]at this;exact this
theorem FX{p:Nat->Nat->Nat}{n:Nat}(hp:∀ k m,0<m->p k m<m){a:Nat}(h:a<n):drawn p n (km p n a)=a:=by have m:a∈(range n).map (drawn p n):=(yL hp).mem_iff.mpr (QN.mpr h);have:=List.getElem_idxOf (JM m);rw[Jv,JW]at this;exact this
theorem FY{p:Nat->Nat->Nat}{n:Nat}(hp:∀ k m,0<m->p k m<m){i:Nat}(h:i<n):km p n (drawn p n i)=i:=by
 have nd:((range n).map (drawn p n)).Nodup:=(yL hp).nodup_iff.mpr List.nodup_range;have hi:i<((range n).map (drawn p n)).length:=by simpa using h
 have:=nd.idxOf_getElem i hi;rw[Jv,JW]at this;exact this
theorem yM{i n:Nat}{tt:cy}{te:aA}{ρ:aV}{deep:Bool}(hi:ρ.length=i)(b:Nat->Bool)(v:Nat->D)(q:Nat->Nat)(ht:∀ j,j<n->tt (ρ++[i9 j])=some (b j,ρ++[i9 j]))
  (he:∀ j,j<n->b j=true->te (ρ++[i9 j])=some (v j,q j,ρ++[i9 j])) (hd:deep=true->∀ j,(v j).cI=true->q j=1:=by intro h;cases h) :
  iK 1 (ax i) tt te deep (cq n) ρ=some (((range n).filter b).map v,ρ):=by
 have h:=o8 (k:=1) (pt:=ax i) (tt:=tt) (te:=te) (deep:=deep) (cq n) (λ_=>ρ) b v (λj hj=>?_)
 .rw[dX]at h;exact h
 .rw[dX]at hj;refine⟨ρ++[i9 j],_,?_,ht j hj,?_⟩
  .have:(cq n)[j]'(by rw[dX];exact hj)=(iD j):=by simp[cq]
   rw[this];unfold ax;rw[Qk (by simp[hi])];subst hi;simp[Yx]
  .by_cases hb:b j=true
   .rw[Qk hb];exact⟨q j,_,he j hj hb,λ⟨h1,h2,h3⟩=>h3 (hd h1 j h2),by simp⟩
   .rw[Qw hb];simp
theorem FZ{z:Nat}:∀ n:Nat,(range n).filter (λw=>decide (w=z))=if z<n then [z]else []
 | 0=>by simp
 | n+1=>by
  rw[Yw,List.filter_append,FZ n];by_cases h:n=z
  .subst h;simp
  .have:¬ (n=z):=h;by_cases h2:z<n
   .rw[Qk h2,Qk (by omega)];simp[h]
   .rw[Qw h2,Qw (by omega)];simp[h]
theorem RJ{n:Nat}{g:Nat->Nat}:(range n).map g=range n ↔ ∀ j,j<n->g j=j:=by
 constructor
 .intro h j hj;have:=Zr (λl=>l[j]?) h;simpa [hj]using this
 .intro h;have e:=Q0 (l:=range n) (f:=g) (g:=id) λa ha=>h a (QN.mp ha);rw[e,List.map_id]
namespace cC
variable {z:Nat}
variable {n:Nat}{f:Nat->Nat->Nat}(L:cC n f)
include L
theorem mD{x:Nat}(hz:z<n)(bz:∀ j,j<n->f z j=j)(hx:x<n)(bx:∀ j,j<n->f x j=j):x=z:=by have h1:=bx z hz;have h2:=bz x hx;rw[L.comm x z hx hz]at h1;omega
theorem fold_lt:∀ {l:List Nat} {a:Nat},a<n->(∀ x∈l,x<n)->l.foldl f a<n
 | [],a,ha,_=>ha
 | y::l,a,ha,h=>fold_lt (l:=l) (L.cl a y ha (h y Qd)) λx m=>h x (Qc _ m)
theorem F4:∀ {l:List Nat} {a x:Nat},a<n->x<n->(∀ x∈l,x<n)->f x a=a->f x (l.foldl f a)=l.foldl f a
 | [],a,x,_,_,_,e=>e
 | y::l,a,x,ha,hx,h,e=>by have hy:=h y Qd;refine F4 (l:=l) (L.cl a y ha hy) hx (λx m=>h x (Qc _ m)) ?_;rw[<- L.assoc x a y hx ha hy,e]
theorem i7:∀ {l:List Nat} {a x:Nat},a<n->(∀ x∈l,x<n)->x∈l->f x (l.foldl f a)=l.foldl f a
 | y::l,a,x,ha,h,m=>by
  have hy:=h y Qd;have hl:∀ x∈l,x<n:=λx m=>h x (Qc _ m);rcases Qp.mp m with rfl|m
  .refine F4 L (l:=l) (L.cl a x ha hy) hy hl ?_;rw[L.comm a x ha hy,<- L.assoc x x a hy hy ha,L.idem x hy]
  .exact i7 (l:=l) (L.cl a y ha hy) hl m
theorem gi(hz:z<n)(bz:∀ j,j<n->f z j=j):∀ {l:List Nat} {a:Nat},a<n->(∀ x∈l,x<n)->l.foldl f a=f a (l.foldl f z)
 | [],a,ha,_=>by show a=f a z;rw[L.comm a z ha hz,bz a ha]
 | y::l,a,ha,h=>by have hy:=h y Qd;have hl:∀ x∈l,x<n:=λx m=>h x (Qc _ m);show l.foldl f (f a y)=f a (l.foldl f (f z y));rw[bz y hy,gi hz bz (L.cl a y ha hy) hl,gi hz bz hy hl,L.assoc a y _ ha hy (L.fold_lt hz hl)]
end cC
theorem qr{pt:eo}{body:aH}{d:D}{q:Nat}:∀ (ds:List D) (I:aV->Prop) (ok:Nat->Bool) (ρ:aV),
  (∀ i (h:i<ds.length) ρ,I ρ->∃ ac,pt ds[i] ρ=some ac/\(ok i=true->∃ ad,body ac=some (.nx ad)/\I ad)/\(ok i=false->body ac=some (.rt d q)))->I ρ->
  ((range ds.length).all ok=true->∃ aB,fq pt body ds ρ=some (.nx aB)/\I aB)/\((range ds.length).all ok=false->fq pt body ds ρ=some (.rt d q))
 | [],I,ok,ρ,_,h0=>⟨λ_=>⟨ρ,rfl,h0⟩,λh=>by simp at h⟩
 | x::ds,I,ok,ρ,h,h0=>by
  obtain⟨ac,h1,h2,h3⟩:=h 0 (by simp) ρ h0;have e1:pt x ρ=some ac:=h1;have er:(range (x::ds).length).all ok=(ok 0&&(range ds.length).all λi=>ok (i+1)):=by rw[QK,ZS,ZW,Jn];rfl
  rw[er];cases hk:ok 0 with
  | false=>
   refine⟨λz=>by simp at z,λ_=>?_⟩;unfold fq;simp only[e1,h3 hk]
  | true=>
   obtain⟨ad,h4,h5⟩:=h2 hk;obtain⟨i1,i2⟩:=qr ds I (λi=>ok (i+1)) ad (λi hi=>h (i+1) (by simpa using hi)) h5;rw[Je];unfold fq;simp only[e1,h4];exact⟨i1,i2⟩
theorem range_all{n:Nat}{p:Nat->Bool}:(range n).all p=true ↔ ∀ i,i<n->p i=true:=by rw[QU];exact⟨λh i hi=>h i (QN.mpr hi),λh i hi=>h i (QN.mp hi)⟩
theorem F5(p:Nat->Bool):∀ l:List Nat,((range l.length).all λi=>p (l.getD i 0))=l.all p
 | []=>rfl
 | a::l=>by rw[QK,ZS,ZW,Jn,ZW,<- F5 p l];rfl
theorem F7{l:List Nat}{i:Nat}(h:i<(aI l).length):(aI l)[i]=(iD (l.getD i 0)):=by
 have h':i<l.length:=by rw[gh]at h;exact h
 simp[aI,h']
theorem B1{l:List Nat}{i:Nat}(h:i<l.length):l.getD i 0∈l:=by rw[Zc,Qz h];exact Ze h
theorem RK{i:Nat}{te:aA}{ρ:aV}{deep:Bool}(l:List Nat)(hi:ρ.length=i)(v:Nat->D)(q:Nat->Nat)
  (he:∀ x,x∈l->te (ρ++[i9 x])=some (v x,q x,ρ++[i9 x])) (hd:deep=true->∀ j,(v j).cI=true->q j=1:=by intro h;cases h) :
  iK 1 (ax i) bE te deep (aI l) ρ=some (l.map v,ρ):=by
 have h:=o8 (k:=1) (pt:=ax i) (tt:=bE) (te:=te) (deep:=deep) (aI l) (λ_=>ρ) (λ_=>true) (λj=>v (l.getD j 0)) (λj hj=>?_)
 .rw[gh,show(range l.length).filter (λ_=>true)=range l.length by simp]at h;rw[h];have e:(range l.length).map (λj=>v (l.getD j 0))=l.map v:=by
   apply Za;intro k;by_cases hk:k<l.length
   .simp[hk]
   .rw[QA (by simp;omega),QA (by simp;omega)]
  rw[e]
 .have RM:j<l.length:=by rw[gh]at hj;exact hj
  refine⟨ρ++[i9 (l.getD j 0)],_,?_,rfl,?_⟩
  .rw[F7 hj];unfold ax;rw[Qk (by simp[hi])];subst hi;simp[Yx]
  .rw[Qk rfl];exact⟨q _,_,he _ (B1 RM),λ⟨h1,h2,h3⟩=>h3 (hd h1 _ h2),by simp⟩
theorem dR{g:D->D->Option D}{fa fb:aA}{ρ ac ad:aV}{x y d:D}{q q':Nat}(ha:fa ρ=some (x,q,ac))(hb:fb ac=some (y,q',ad))(hg:g x y=some d):e2 g fa fb ρ=some (d,9,ad):=by unfold e2;rw[ha];simp only[hb,hg]
theorem kn{f:aA}{ρ ac:aV}{b:Bool}{q:Nat}(h:f ρ=some (.bl b,q,ac)):bM f ρ=some (b,ac):=by unfold bM;rw[h]
theorem B2{i:Nat}{g:bQ}{ρ ac ad:aV}{ds:List D}{d:D}(hl:rL ρ[i]? = true)(hg:g ρ=some ([d],ac))(h1:ac[i]? = some (some (.lst ds,1)))(hn:ds.length<=1000)(e:ac.set i (some (.lst (ds++[d]),1))=ad):iu (kb i g) ρ=some (.nx ad):=by unfold iu kb;rw[Qk hl,hg];simp only[h1,Qk hn,e]
theorem qs{b:List D->Option D}{g:bQ}{ρ ac:aV}{ds:List D}{d:D}(h:g ρ=some (ds,ac))(hd:b ds=some d):eB b g ρ=some (d,9,ac):=by unfold eB;rw[h];simp only[hd]
def iP (n:Nat)(r:Nat->Nat):D:=.tup (aI ((range n).map r))
abbrev r9 (n:Nat)(r:Nat->Nat):OD:=some (iP n r,9)
@[simp] theorem Xx{n:Nat}{r:Nat->Nat}:(iP n r).cI=false:=rfl
theorem yN{n i:Nat}{r:Nat->Nat}(h:i<n):eX (iP n r) (Int.ofNat i)=some (iD (r i)):=t6 h
theorem F8(n:Nat)(r:Nat->Nat):Sh 1 (iP n r):=BU _
namespace cC
variable {b x y:Nat}
variable {n:Nat}{f:Nat->Nat->Nat}(L:cC n f)
include L
theorem le_trans{z:Nat}(hx:x<n)(hy:y<n)(hz:z<n)(h1:f x y=y)(h2:f y z=z):f x z=z:=by rw[<- h2,<- L.assoc x y z hx hy hz,h1]
theorem lub{z:Nat}(hx:x<n)(hy:y<n)(hz:z<n)(h1:f x z=z)(h2:f y z=z):f (f x y) z=z:=by rw[L.assoc x y z hx hy hz,h2,h1]
theorem hV{z:Nat}(hz:z<n)(bz:∀ j,j<n->f z j=j)(hb:b<n):∀ {l:List Nat},(∀ x∈l,x<n)->(∀ x∈l,f x b=b)->f (l.foldl f z) b=b
 | [],_,_=>bz b hb
 | y::l,h,k=>by
  have hy:=h y Qd;have hl:∀ x∈l,x<n:=λx m=>h x (Qc _ m);have e:(y::l).foldl f z=f y (l.foldl f z):=by show l.foldl f (f z y)=_;rw[bz y hy,L.gi hz bz hy hl]
  rw[e];exact L.lub hy (L.fold_lt hz hl) hb (k y Qd) (hV hz bz hb hl λx m=>k x (Qc _ m))
omit L
def low (n:Nat)(f:Nat->Nat->Nat)(x:Nat):List Nat:=(range n).filter λy=>decide (f y x=x)
theorem dt:y∈low n f x ↔ y<n/\f y x=x:=by simp[low]
def lr (n:Nat)(f:Nat->Nat->Nat)(z:Nat)(r:Nat->Nat)(x:Nat):Nat:=((low n f x).map r).foldl f z
include L
variable {z:Nat}(hz:z<n)(bz:∀ j,j<n->f z j=j){r s:Nat->Nat}(hr:∀ i,i<n->r i<n)
include hz bz hr
theorem iy:∀ y∈(low n f x).map r,y<n:=λy m=>by obtain⟨k,hk,rfl⟩:=Qm.mp m;exact hr k (dt.mp hk).1
theorem qt(x:Nat):lr n f z r x<n:=L.fold_lt hz (iy L hz bz hr)
theorem vZ(hy:y<n)(h:f y x=x):f (r y) (lr n f z r x)=lr n f z r x:=L.i7 hz (iy L hz bz hr) (Qm.mpr ⟨y,dt.mpr ⟨hy,h⟩,rfl⟩)
theorem mE(hb:b<n)(h:∀ y,y<n->f y x=x->f (r y) b=b):f (lr n f z r x) b=b:=L.hV hz bz hb (iy L hz bz hr) λy m=>by obtain⟨k,hk,rfl⟩:=Qm.mp m;exact h k (dt.mp hk).1 (dt.mp hk).2
theorem mG(hx:x<n)(hy:y<n)(h:f x y=y):f (lr n f z r x) (lr n f z r y)=lr n f z r y:=
 L.mE hz bz hr (L.qt hz bz hr y) λk hk e=>L.vZ hz bz hr hk (L.le_trans hk hx hy e h)
end cC
theorem gB{α:Type}{us:List α}(h:us.length=1):∃ a,us=[a]:=match us,h with|[a],_=>⟨a,rfl⟩
theorem iz{α:Type}{us:List α}(h:us.length=2):∃ a b,us=[a,b]:=by
 cases us with
 | nil=>cases h
 | cons a us=>
  obtain⟨b,hh⟩:=gB (YO h);exact⟨a,b,by rw[hh]⟩
theorem mH{α:Type}{us:List α}(h:us.length=3):∃ a b c,us=[a,b,c]:=by
 cases us with
 | nil=>cases h
 | cons a us=>
  obtain⟨b,c,hh⟩:=iz (YO h);exact⟨a,b,c,by rw[hh]⟩
theorem RN{α:Type}{us:List α}(h:us.length=4):∃ a b c d,us=[a,b,c,d]:=by
 cases us with
 | nil=>cases h
 | cons a us=>
  obtain⟨b,c,d,hh⟩:=mH (YO h);exact⟨a,b,c,d,by rw[hh]⟩
theorem B3{pt:eo}{body:aH}{d:D}{ds:List D}{ρ ac ad:aV}(h1:pt d ρ=some ac)(h2:body ac=some (.nx ad)):fq pt body (d::ds) ρ=fq pt body ds ad:=by show(match pt d ρ with|none=>none|some ac=>_)=_;simp only[h1,h2]
def gv (v:List Nat)(i:Nat):Nat:=v.getD i 0
theorem B5{v:List Nat}{i:Nat}(h:i<v.length):v[i]? = some (gv v i):=by unfold gv;simp[h]
theorem F9{v:List Nat}{i:Nat}(h:i<v.length):gv v i∈v:=B1 h
theorem RO{v:List Nat}{i:Nat}(h:i<v.length):eX (.lst (aI v)) (Int.ofNat i)=some (iD (gv v i)):=FI (B5 h)
theorem RP{u v:List Nat}(h:u.length=v.length)(k:∀ i,i<u.length->gv u i=gv v i):u=v:=by
 apply Za;intro i;by_cases hi:i<u.length
 .rw[B5 hi,B5 (by omega),k i hi]
 .rw[QA (by omega),QA (by omega)]
theorem RQ{p i:Nat}(g:Nat->Nat)(h:i<p):gv ((range p).map g) i=g i:=by unfold gv;simp[h]
theorem RS(v:List Nat):v=(range v.length).map (gv v):=RP (by simp) λi hi=>(RQ _ hi).symm
namespace cC
variable {n:Nat}{f:Nat->Nat->Nat}(L:cC n f){p:Nat}
include L
end cC
end L3
namespace My
open PySem PySem.Spec PyProof.Rows L2 L3
abbrev ap:Str:="_law_ladder_here"
abbrev bd:Str:="_law_script"
abbrev be:Str:="ladder"
abbrev bi:Str:="thing"
abbrev bn:Str:="_law_text_here"
abbrev bv:Str:="_law_at"
abbrev ca:Str:="_law_chart_here"
abbrev ce:Str:="places"
abbrev cr:Str:="_law_worth"
abbrev db:Str:="_law_many"
abbrev dl:Str:="_law_one"
abbrev dL:Str:="_law_rule_here"
abbrev ge:Str:="NoText"
abbrev ii:Str:="_law_other"
abbrev im:Str:="table"
abbrev io:Str:="_law_row"
abbrev jp:Str:="_law_made"
abbrev kw:Str:="_law_base_here"
abbrev lc:Str:="_law_cell_here"
abbrev le:Str:="lines"
abbrev li:Str:="_law_k"
abbrev ln:Str:="_law_rows"
abbrev lv:Str:="many"
abbrev ms:Str:="numbers"
abbrev ol:Str:="chart"
abbrev on:Str:="word"
variable {a c i j m q':Nat}{b fa fo te:aA}{d:D}{ds es:List D}{fh fl:lp}{g:bQ}{hi lo:Option Int}{it:iZ}{k:Int}{l x y:Str}{ls:List Str}{r:Nat->Nat}{st:Stmt}{tt:cy}{ws:List (List Nat)}{xe:cY}{ρ ac ad:aV}
def top (i:Nat):Stmt:=PySem.Challenge.pw_ladderhall_k95_whole_texts.main.body.getD i (.Pass ⟨0,0,0,0⟩)
structure Bt (mg:Str->Option Value):Prop where
 iA:mg "ValueError" = none
 i8:mg "all" = none
 sf:mg "bool" = none
 fJ:mg "enumerate" = none
 v5:mg "int" = none
 au:mg "isinstance" = none
 aF:mg "len" = none
 eJ:mg "list" = none
 qu:mg "max" = none
 av:mg "range" = none
 ko:mg "str" = none
 aC:mg "tuple" = none
 gT:∃ t,mg "MOST_BEGINS" = some (.int 60 t)
 gU:∃ t,mg "MOST_PLACES" = some (.int 8 t)
 i_:∃ t,mg "MOST_WAYS" = some (.int 60 t)
 cV:∃ t,mg "MOST_WORTHS" = some (.int 16 t)
structure Xt (K:PySem.W.Frag) (mg:Str->Option Value):Prop where
 u:oO K mg "RiseError" [ge]
 gj:∃ C,yo K mg "NoText" C
 kR:eR K mg [ge] "NoHouse"
 o_:eR K mg [ge] "NoMap"
 kS:eR K mg [ge] "NoPlace"
 mJ:eR K mg [ge] "NoRule"
 mK:eR K mg [ge] "NoStep"
 mL:eR K mg [ge] "NoText"
 jJ:eR K mg [ge] "TooGreat"
section
variable {P:Program}{w:World}{K:PySem.W.Frag}{mg:Str->Option Value}{base:Heap}
def F_:aH:=aE (cj (bM (e2 jB (aa 1) (bX 0))) (aS (aW 0 (aa 1))) cz)
 (aE (cj (bM (e2 eZ (aa 0) (cF af))) (aS (eC (.int 0))) cz)
 (aS (e2 bG (e2 j3 (aW 0 (e2 g9 (aa 1) (bX 0))) (eC (.int 31))) (aa 1))))
def v7:=bU 2 (F_)
theorem RT:ah [bd,li] [bd,li] (bh (top 47)):=cH (by decide +kernel)
theorem RU(B:Bt mg)(a:At K mg "_law_cell" (top 47) [bd,li]):aw P w K mg base 1 "_law_cell" 2 (v7):=
 aw.cx a RT λ_ _ _ _ _ _ _ hr=>
  aN (dH (tI (aq 1 rfl rfl) (dh B.aF (ql 0 rfl rfl))) (aL (bj (cO (ql 0 rfl rfl) (aq 1 rfl rfl)))) dG)
  (aN (dH (oF hr (aq 0 rfl rfl) (eh aj)) (aL (bj aU)) dG)
  (aL (bj (cS (l9 (cO (ql 0 rfl rfl) (l_ (aq 1 rfl rfl) (dh B.aF (ql 0 rfl rfl)))) aU) (aq 1 rfl rfl)))))
def Ga:aH:=aE (aY 3 (e2 g9 (e2 j3 (e2 bG (ay v7 2 (ae (aa 0) (ae (aa 1) af))) (e2 j3 (eC (.int 6151)) (e2 bG (aa 1) (eC (.int 1))))) (eC (.int 40692))) (eC (.int 2147483399))))
 (aS (e2 g9 (e2 g9 (e2 bG (e2 j3 (aa 3) (aa 3)) (e2 j4 (aa 3) (eC (.int 31)))) (eC (.int 2147483629))) (aa 2)))
def dS:=bU 4 (Ga)
theorem Gb:ah [bd,li,db,"_law_drawn"] [bd,li,db] (bh (top 48)):=cH (by decide +kernel)
theorem RV(B:Bt mg)(c7:aw P w K mg base 1 "_law_cell" 2 v7)(a:At K mg "_law_pick" (top 48) [bd,li,db]):aw P w K mg base 2 "_law_pick" 3 (dS):=
 aw.cx a Gb λ_ _ _ _ _ _ _ hr=>
  aN (bP (i:=3) Gb.nd (l_ (l9 (cS (aQ c7 hr (aG 0 rfl rfl (aG 1 rfl rfl aj))) (l9 aU (cS (aq 1 rfl rfl) aU))) aU) aU))
  (aL (bj (l_ (l_ (cS (l9 (aq 3 rfl rfl) (aq 3 rfl rfl)) (tH (aq 3 rfl rfl) aU)) aU) (aq 2 rfl rfl))))
def RW:aH:=aS (cA 1 (bW (ae (aa 0) af)) (ax 1) bE (cA 1 (bW (ae (aa 0) af)) (ax 2) bE (eB yf (ae (aa 1) (ae (aa 2) af))) false) false)
def jK:=bU 1 (RW)
theorem RX:ah [db] [db] (bh (top 49)):=cH (by decide +kernel)
abbrev Gc:List Str:=[db,dl,ii]
theorem RY:(Gc).Nodup:=by decide +kernel
abbrev Gd:List Str:=[db,dl]
theorem RZ:(Gd).Nodup:=by decide +kernel
theorem R0(B:Bt mg)(a:At K mg "_law_chain" (top 49) [db]):aw P w K mg base 1 "_law_chain" 1 (jK):=
 aw.cx a RX λ_ _ _ _ _ _ _ hr=>
  aL (bj (eQ (k:=1) (N':=Gd) false rfl (eP B.av (ao (bu (qv 0)) aj bV)) (λ_ _ _ _=>bA (i:=1) (show 1<=1 by decide) RZ rfl (Or.inr rfl) (Or.inl rfl)) (λ_ _ _ _=>dQ) (λ_ _ _ _=>eQ (k:=1) (N':=Gc) false rfl (eP B.av (ao (bu (qv 0)) aj bV)) (λ_ _ _ _=>bA (i:=2) (show 2<=2 by decide) RY rfl (Or.inl rfl) (Or.inr rfl)) (λ_ _ _ _=>dQ) (λ_ _ _ _=>EC rfl B.qu Yz (ao (bu (qv 1)) (ao (bu (qv 2)) aj bV) bV)))))
abbrev R1:aH:=aE (aY 7 (cf (aW 0 (e2 j4 (aa 4) (aa 2))) (e2 j4 (aa 6) (aa 2))))
 (iu (kb 5 (ae (e2 bG (e2 j3 (aa 7) (aa 2)) (cf (aW 1 (e2 g9 (aa 4) (aa 2))) (e2 g9 (aa 6) (aa 2)))) af)))
abbrev R3:aH:=aE (aY 5 (cF af))
 (aE (dy (bW (ae (e2 j3 (bX 0) (aa 2)) af)) (ax 6) R1)
 (iu (kb 3 (ae (aa 5) af))))
def R4:aH:=aE (aY 2 (bX 1))
 (aE (aY 3 (cF af))
 (aE (dy (bW (ae (e2 j3 (bX 0) (aa 2)) af)) (ax 4) R3)
 (aS (aa 3))))
def nK:=bU 8 (R4)
theorem sj:ah [dl,ii,db,jp,"_law_here",io,"_law_there","_law_first"] [dl,ii] (bh (top 50)):=cH (by decide +kernel)
theorem R5(B:Bt mg)(a:At K mg "_law_couples" (top 50) [dl,ii]):aw P w K mg base 1 "_law_couples" 2 (nK):=
 aw.cx a sj λ_ _ _ _ _ _ _ hr=>
  aN (bP (i:=2) sj.nd (dh B.aF (ql 1 rfl rfl)))
  (aN (bP (i:=3) sj.nd (eh aj))
  (aN (fQ Qv rfl (eP B.av (ao (l9 (dh B.aF (ql 0 rfl rfl)) (aq 2 rfl rfl)) aj ff)) (bA (i:=4) (show 0<=4 by decide) sj.nd rfl (Or.inl rfl)) (aN (bP (i:=5) sj.nd (eh aj))
  (aN (fQ Qv rfl (eP B.av (ao (l9 (dh B.aF (ql 0 rfl rfl)) (aq 2 rfl rfl)) aj ff)) (bA (i:=6) (show 0<=6 by decide) sj.nd rfl (Or.inl rfl)) (aN (bP (i:=7) sj.nd (fY (cO (ql 0 rfl rfl) (tH (aq 4 rfl rfl) (aq 2 rfl rfl))) (tH (aq 6 rfl rfl) (aq 2 rfl rfl))))
  (aL (kJ (nz (ql 5 rfl rfl) (ao (cS (l9 (aq 7 rfl rfl) (aq 2 rfl rfl)) (fY (cO (ql 1 rfl rfl) (l_ (aq 4 rfl rfl) (aq 2 rfl rfl))) (l_ (aq 6 rfl rfl) (aq 2 rfl rfl)))) aj ff))))))
  (aL (kJ (nz (ql 3 rfl rfl) (aG 5 rfl rfl aj)))))))
  (aL (bj (aq 3 rfl rfl)))))
abbrev R6:aH:=iu (kb 3 (ae (AM (fU (bM (e2 pW (eC (.int 0)) (fZ (ae (aa 2) (ae (aa 4) af))))) (bM (e2 eZ (aa 2) (aa 4)))) (eB yf (ae (aa 2) (ae (aa 4) af))) (e2 bG (aa 0) (eC (.int 1)))) af))
abbrev R_:aH:=aE (aY 3 (cF af))
 (aE (dy (bW (ae (e2 bG (aa 0) (eC (.int 2))) af)) (ax 4) R6)
 (iu (kb 1 (ae (aa 3) af))))
def Sa:aH:=aE (aY 1 (cF af))
 (aE (dy (bW (ae (e2 bG (aa 0) (eC (.int 2))) af)) (ax 2) R_)
 (aS (aa 1)))
def pb:=bU 5 (Sa)
theorem v8:ah [db,jp,dl,io,ii] [db] (bh (top 51)):=cH (by decide +kernel)
theorem Sb(B:Bt mg)(a:At K mg "_law_side_by_side" (top 51) [db]):aw P w K mg base 1 "_law_side_by_side" 1 (pb):=
 aw.cx a v8 λ_ _ _ _ _ _ _ hr=>
  aN (bP (i:=1) v8.nd (eh aj))
  (aN (fQ Qv rfl (eP B.av (ao (cS (aq 0 rfl rfl) aU) aj ff)) (bA (i:=2) (show 0<=2 by decide) v8.nd rfl (Or.inl rfl)) (aN (bP (i:=3) v8.nd (eh aj))
  (aN (fQ Qv rfl (eP B.av (ao (cS (aq 0 rfl rfl) aU) aj ff)) (bA (i:=4) (show 0<=4 by decide) v8.nd rfl (Or.inl rfl)) (aL (kJ (nz (ql 3 rfl rfl) (ao (Nk (lD (j5 (NQ hr aU (ma (aG 2 rfl rfl (aG 4 rfl rfl aj)))) (la (oF hr (aq 2 rfl rfl) (aq 4 rfl rfl))))) (EC rfl B.qu Yz (aG 2 rfl rfl (aG 4 rfl rfl aj))) (cS (aq 0 rfl rfl) aU)) aj N8)))))
  (aL (kJ (nz (ql 1 rfl rfl) (aG 3 rfl rfl aj)))))))
  (aL (bj (aq 1 rfl rfl))))
def Ge:aH:=aE (aY 2 (ay dS 3 (ae (aa 0) (ae (aa 1) (ae (eC (.int 9)) af)))))
 (aE (cj (bM (e2 jB (aa 2) (eC (.int 3)))) (aS (ay jK 1 (ae (e2 bG (eC (.int 1)) (ay dS 3 (ae (aa 0) (ae (e2 bG (aa 1) (eC (.int 1))) (ae (eC (.int 5)) af))))) af))) cz)
 (aE (cj (bM (e2 jB (aa 2) (eC (.int 5)))) (aS (ay nK 2 (ae (ay jK 1 (ae (eC (.int 2)) af)) (ae (ay jK 1 (ae (cf (cF (ae (eC (.int 2)) (ae (eC (.int 3)) (ae (eC (.int 4)) af)))) (ay dS 3 (ae (aa 0) (ae (e2 bG (aa 1) (eC (.int 1))) (ae (eC (.int 3)) af))))) af)) af)))) cz)
 (aE (cj (bM (e2 jB (aa 2) (eC (.int 7)))) (aS (ay pb 1 (ae (ay dS 3 (ae (aa 0) (ae (e2 bG (aa 1) (eC (.int 1))) (ae (eC (.int 5)) af)))) af))) cz)
 (aE (cj (bM (e2 eZ (aa 2) (eC (.int 7)))) (aS (ay nK 2 (ae (ay jK 1 (ae (eC (.int 2)) af)) (ae (ay nK 2 (ae (ay jK 1 (ae (eC (.int 2)) af)) (ae (ay jK 1 (ae (eC (.int 2)) af)) af))) af)))) cz)
 (aE (aY 3 (cF (ae (cF (ae (eC (.int 0)) (ae (eC (.int 1)) (ae (eC (.int 2)) (ae (eC (.int 3)) (ae (eC (.int 4)) af)))))) (ae (cF (ae (eC (.int 1)) (ae (eC (.int 1)) (ae (eC (.int 2)) (ae (eC (.int 4)) (ae (eC (.int 4)) af)))))) (ae (cF (ae (eC (.int 2)) (ae (eC (.int 2)) (ae (eC (.int 2)) (ae (eC (.int 4)) (ae (eC (.int 4)) af)))))) (ae (cF (ae (eC (.int 3)) (ae (eC (.int 4)) (ae (eC (.int 4)) (ae (eC (.int 3)) (ae (eC (.int 4)) af)))))) (ae (cF (ae (eC (.int 4)) (ae (eC (.int 4)) (ae (eC (.int 4)) (ae (eC (.int 4)) (ae (eC (.int 4)) af)))))) af)))))))
 (aS (aa 3)))))))
def v_:=bU 4 (Ge)
theorem B6:ah [bd,bv,"_law_kind",ln] [bd,bv] (bh (top 52)):=cH (by decide +kernel)
theorem Sd(B:Bt mg)(gC:aw P w K mg base 2 "_law_pick" 3 dS)(c8:aw P w K mg base 1 "_law_chain" 1 jK)(B7:aw P w K mg base 1 "_law_couples" 2 nK)(Se:aw P w K mg base 1 "_law_side_by_side" 1 pb)(a:At K mg "_law_base" (top 52) [bd,bv]):aw P w K mg base 3 "_law_base" 2 (v_):=
 aw.cx a B6 λ_ _ _ _ _ _ _ hr=>
  aN (bP (i:=2) B6.nd (aQ gC hr (aG 0 rfl rfl (aG 1 rfl rfl (cP aj)))))
  (aN (dH (tI (aq 2 rfl rfl) aU) (aL (bj (aQ c8 hr (ao (cS aU (aQ gC hr (aG 0 rfl rfl (ao (cS (aq 1 rfl rfl) aU) (cP aj) ff)))) aj ff)))) dG)
  (aN (dH (tI (aq 2 rfl rfl) aU) (aL (bj (aQ B7 hr (ao (aQ c8 hr (cP aj)) (ao (aQ c8 hr (ao (fY (eh (cP (cP (cP aj)))) (aQ gC hr (aG 0 rfl rfl (ao (cS (aq 1 rfl rfl) aU) (cP aj) ff)))) aj g_)) aj b7) b7)))) dG)
  (aN (dH (tI (aq 2 rfl rfl) aU) (aL (bj (aQ Se hr (ao (aQ gC hr (aG 0 rfl rfl (ao (cS (aq 1 rfl rfl) aU) (cP aj) ff))) aj b7)))) dG)
  (aN (dH (oF hr (aq 2 rfl rfl) aU) (aL (bj (aQ B7 hr (ao (aQ c8 hr (cP aj)) (ao (aQ B7 hr (ao (aQ c8 hr (cP aj)) (ao (aQ c8 hr (cP aj)) aj b7) b7)) aj b7) b7)))) dG)
  (aN (bP (i:=3) B6.nd (eh (ao (eh (cP (cP (cP (cP (cP aj)))))) (ao (eh (cP (cP (cP (cP (cP aj)))))) (ao (eh (cP (cP (cP (cP (cP aj)))))) (ao (eh (cP (cP (cP (cP (cP aj)))))) (ao (eh (cP (cP (cP (cP (cP aj)))))) aj pY) pY) pY) pY) pY)))
  (aL (bj (aq 3 rfl rfl))))))))
abbrev Sf:aH:=vo 5 (rN 4 (rM 6)) (rN 4 (rM 7)) (aW 4 (cf (aW 2 (aa 6)) (aa 7)))
abbrev Sg:aH:=dy (bW (ae (bX 2) af)) (ax 7) (Sf)
def Gf:aH:=aE (aY 2 (ay v_ 2 (ae (aa 0) (ae (aa 1) af))))
 (aE (aY 3 (pX (ae (bX 2) af)))
 (aE (aY 4 (cA 1 (bW (ae (bX 2) af)) (ax 8) bE (vj 3 (ae (ay dS 3 (ae (aa 0) (ae (e2 bG (e2 bG (aa 1) (eC (.int 2))) (aa 8)) (ae (bX 3) af)))) af)) false))
 (aE (aY 5 (cA 1 (bH (aa 2)) (ax 8) bE (vm (cF (ae (eC (.int 0)) af)) (bX 2)) true))
 (aE (dy (bW (ae (bX 2) af)) (ax 6) Sg)
 (aS (fV (ae (cA 1 (bH (aa 5)) (ax 8) bE (fV (ae (aa 8) af)) false) af)))))))
def wa:=bU 8 (Gf)
theorem sk:ah [bd,bv,kw,"_law_left","_law_name",jp,dl,ii] [bd,bv] (bh (top 53)):=cH (by decide +kernel)
abbrev Gg:List Str:=[bd,bv,kw,"_law_left","_law_name",jp,dl,ii,li]
theorem Si:(Gg).Nodup:=by decide +kernel
abbrev B8:List Str:=[bd,bv,kw,"_law_left","_law_name",jp,dl,ii,io]
theorem Gh:(B8).Nodup:=by decide +kernel
theorem Sj(B:Bt mg)(c0:aw P w K mg base 3 "_law_base" 2 v_)(gC:aw P w K mg base 2 "_law_pick" 3 dS)(a:At K mg "_law_ladder" (top 53) [bd,bv]):aw P w K mg base 4 "_law_ladder" 2 (wa):=
 aw.cx a sk λ_ _ _ _ _ _ _ hr=>
  aN (bP (i:=2) sk.nd (aQ c0 hr (ao (bu (qv 0)) (ao (bu (qv 1)) aj bV) bV)))
  (aN (bP (i:=3) sk.nd (AW rfl B.eJ Zf B.av (ao (dh B.aF (qv 2)) aj b7)))
  (aN (yb (i:=4) (k:=1) (N':=Gg) false sk.nd rfl rfl (eP B.av (ao (dh B.aF (qv 2)) aj b7)) (λ_ _ _ _=>bA (i:=8) (show 8<=8 by decide) Si rfl (Or.inl rfl) (Or.inr rfl)) (λ_ _ _ _=>dQ) (λ_ _ _ _=>NZ (qv 3) (ao (aQ gC hr (ao (bu (qv 0)) (ao (cS (cS (bu (qv 1)) aU) (bu (qv 8))) (ao (dh B.aF (qv 3)) aj b7) ff) bV)) aj b7)))
  (aN (yb (i:=5) (k:=1) (N':=B8) true sk.nd rfl rfl (eI (bu (qv 2))) (λ_ _ _ _=>bA (i:=8) (show 8<=8 by decide) Gh rfl (Or.inl rfl) (Or.inr rfl)) (λ_ _ _ _=>dQ) (λ_ _ _ _=>N3 (eh (cP aj)) (dh B.aF (qv 2))))
  (aN (fQ Qv rfl (eP B.av (ao (dh B.aF (qv 2)) aj b7)) (bA (i:=6) (show 0<=6 by decide) sk.nd rfl (Or.inl rfl)) (aL (fQ Qv rfl (eP B.av (ao (dh B.aF (qv 2)) aj b7)) (bA (i:=7) (show 0<=7 by decide) sk.nd rfl (Or.inl rfl)) (aL (N6 (ql 5 rfl rfl) (EO (ql 4 rfl rfl) (EN (ql 6 rfl rfl))) (EO (ql 4 rfl rfl) (EN (ql 7 rfl rfl))) (cO (ql 4 rfl rfl) (fY (cO (qv 2) (aq 6 rfl rfl)) (aq 7 rfl rfl))))))))
  (aL (bj (ka B.aC Qj (ao (eQ (k:=1) (N':=B8) false rfl (eI (aq 5 rfl rfl)) (λ_ _ _ _=>bA (i:=8) (show 8<=8 by decide) Gh rfl (Or.inl rfl) (Or.inr rfl)) (λ_ _ _ _=>dQ) (λ_ _ _ _=>ka B.aC Qj (ao (bu (qv 8)) aj bV))) aj jr))))))))
def Gi:aH:=aS (cf (cA 1 (bW (ae (bX 0) af)) (ax 1) (bM (e2 eZ (mm (ae (aW 0 (aa 1)) af)) (pX (ae (bX 0) af)))) (aa 1) false) (eC (.int 0)))
def sr:=bU 1 (Gi)
theorem Sk:ah [ap] [ap] (bh (top 54)):=cH (by decide +kernel)
abbrev Gj:List Str:=[ap,cr]
theorem Sl:(Gj).Nodup:=by decide +kernel
theorem Sn(B:Bt mg)(a:At K mg "_law_low" (top 54) [ap]):aw P w K mg base 1 "_law_low" 1 (sr):=
 aw.cx a Sk λ_ _ _ _ _ _ _ hr=>
  aL (bj (fY (eQ (k:=1) (N':=Gj) false rfl (eP B.av (ao (dh B.aF (qv 0)) aj b7)) (λ_ _ _ _=>bA (i:=1) (show 1<=1 by decide) Sl rfl (Or.inl rfl) (Or.inr rfl)) (λ_ _ _ _=>AU (oF hr (yg B.eJ Zf (ao (cO (qv 0) (bu (qv 1))) aj g_)) (AW rfl B.eJ Zf B.av (ao (dh B.aF (qv 0)) aj b7)))) (λ_ _ _ _=>bu (qv 1))) aU))
abbrev So:aH:=aY 2 (cf (aW 0 (aa 2)) (aa 3))
def Gk:aH:=aE (aY 2 (ay sr 1 (ae (aa 0) af)))
 (aE (dy (bH (aa 1)) (ax 3) So)
 (aS (aa 2)))
def t7:=bU 4 (Gk)
theorem yO:ah [ap,"_law_worths","_law_here",cr] [ap,"_law_worths"] (bh (top 55)):=cH (by decide +kernel)
theorem Sr(B:Bt mg)(B9:aw P w K mg base 1 "_law_low" 1 sr)(a:At K mg "_law_join" (top 55) [ap,"_law_worths"]):aw P w K mg base 2 "_law_join" 2 (t7):=
 aw.cx a yO λ_ _ _ _ _ _ _ hr=>
  aN (bP (i:=2) yO.nd (aQ B9 hr (aG 0 rfl rfl aj)))
  (aN (fQ Qv rfl (eI (aq 1 rfl rfl)) (bA (i:=3) (show 0<=3 by decide) yO.nd rfl (Or.inl rfl)) (aL (bP (i:=2) yO.nd (fY (cO (ql 0 rfl rfl) (aq 2 rfl rfl)) (aq 3 rfl rfl)))))
  (aL (bj (aq 2 rfl rfl))))
def Gm:aH:=aS (cA 1 (bW (ae (bX 0) af)) (ax 2) (bM (e2 eZ (cf (aW 0 (aa 2)) (aa 1)) (aa 1))) (aa 2) false)
def su:=bU 2 (Gm)
theorem Ss:ah [ap,cr] [ap,cr] (bh (top 56)):=cH (by decide +kernel)
abbrev Gn:List Str:=[ap,cr,dl]
theorem Su:(Gn).Nodup:=by decide +kernel
theorem Sv(B:Bt mg)(a:At K mg "_law_under" (top 56) [ap,cr]):aw P w K mg base 1 "_law_under" 2 (su):=
 aw.cx a Ss λ_ _ _ _ _ _ _ hr=>
  aL (bj (eQ (k:=1) (N':=Gn) false rfl (eP B.av (ao (dh B.aF (qv 0)) aj b7)) (λ_ _ _ _=>bA (i:=2) (show 2<=2 by decide) Su rfl (Or.inl rfl) (Or.inr rfl)) (λ_ _ _ _=>AU (oF hr (fY (cO (qv 0) (bu (qv 2))) (bu (qv 1))) (bu (qv 1)))) (λ_ _ _ _=>bu (qv 2))))
abbrev Gp:aH:=iu (kb 6 (ae (ay t7 2 (ae (aa 2) (ae (cA 1 (bH (ay su 2 (ae (aa 2) (ae (aa 5) af)))) (ax 7) bE (aW 4 (aa 7)) false) af))) af))
abbrev Gq:aH:=iu (kb 4 (ae (cf (cF (ae (aa 3) (ae (aa 5) (ae (ay dS 3 (ae (aa 0) (ae (e2 bG (aa 1) (aa 5)) (ae (bX 2) af)))) af)))) (ay dS 3 (ae (aa 0) (ae (e2 bG (e2 bG (aa 1) (eC (.int 8))) (aa 5)) (ae (eC (.int 3)) af))))) af))
def Gr:aH:=aE (aY 3 (ay sr 1 (ae (aa 2) af)))
 (aE (aY 4 (cF af))
 (aE (dy (bW (ae (bX 2) af)) (ax 5) Gq)
 (aE (aY 6 (cF af))
 (aE (dy (bW (ae (bX 2) af)) (ax 5) Gp)
 (aS (fV (ae (aa 6) af)))))))
def sv:=bU 7 (Gr)
theorem t8:ah [bd,bv,ap,"_law_low_here","_law_drawn",cr,jp] [bd,bv,ap] (bh (top 57)):=cH (by decide +kernel)
abbrev Gs:List Str:=[bd,bv,ap,"_law_low_here","_law_drawn",cr,jp,dl]
theorem Sw:(Gs).Nodup:=by decide +kernel
theorem Sx(B:Bt mg)(B9:aw P w K mg base 1 "_law_low" 1 sr)(gC:aw P w K mg base 2 "_law_pick" 3 dS)(Sy:aw P w K mg base 2 "_law_join" 2 t7)(Sz:aw P w K mg base 1 "_law_under" 2 su)(a:At K mg "_law_rule" (top 57) [bd,bv,ap]):aw P w K mg base 3 "_law_rule" 3 (sv):=
 aw.cx a t8 λ_ _ _ _ _ _ _ hr=>
  aN (bP (i:=3) t8.nd (aQ B9 hr (aG 2 rfl rfl aj)))
  (aN (bP (i:=4) t8.nd (eh aj))
  (aN (fQ Qv rfl (eP B.av (ao (dh B.aF (ql 2 rfl rfl)) aj b7)) (bA (i:=5) (show 0<=5 by decide) t8.nd rfl (Or.inl rfl)) (aL (kJ (nz (qv 4) (ao (fY (eh (aG 3 rfl rfl (aG 5 rfl rfl (ao (aQ gC hr (aG 0 rfl rfl (ao (cS (aq 1 rfl rfl) (aq 5 rfl rfl)) (ao (dh B.aF (ql 2 rfl rfl)) aj b7) ff))) aj b7)))) (aQ gC hr (aG 0 rfl rfl (ao (cS (cS (aq 1 rfl rfl) aU) (aq 5 rfl rfl)) (cP aj) ff)))) aj g_)))))
  (aN (bP (i:=6) t8.nd (eh aj))
  (aN (fQ Qv rfl (eP B.av (ao (dh B.aF (ql 2 rfl rfl)) aj b7)) (bA (i:=5) (show 0<=5 by decide) t8.nd rfl (Or.inl rfl)) (aL (kJ (nz (ql 6 rfl rfl) (ao (aQ Sy hr (aG 2 rfl rfl (ao (eQ (k:=1) (N':=Gs) false rfl (eI (aQ Sz hr (aG 2 rfl rfl (aG 5 rfl rfl aj)))) (λ_ _ _ _=>bA (i:=7) (show 7<=7 by decide) Sw rfl (Or.inl rfl) (Or.inr rfl)) (λ_ _ _ _=>dQ) (λ_ _ _ _=>cO (qv 4) (bu (qv 7)))) aj jr))) aj b7)))))
  (aL (bj (ka B.aC Qj (aG 6 rfl rfl aj))))))))
abbrev SA:aH:=aE (aY 4 (cf (aW 0 (aW 1 (aa 2))) (aW 1 (aa 3))))
 (cj (bM (e2 dE (aW 1 (cf (aW 0 (aa 2)) (aa 3))) (aa 4))) (aS (eC (.bl false))) cz)
abbrev SD:aH:=dy (bW (ae (aa 2) af)) (ax 3) (SA)
def SF:aH:=aE (dy (bW (ae (bX 0) af)) (ax 2) SD)
 (aS (eC (.bl true)))
def B_:=bU 5 (SF)
theorem yP:ah [ap,dL,dl,ii,"_law_due"] [ap,dL] (bh (top 58)):=cH (by decide +kernel)
theorem SG(B:Bt mg)(a:At K mg "_law_spreads" (top 58) [ap,dL]):aw P w K mg base 1 "_law_spreads" 2 (B_):=
 aw.cx a yP λ_ _ _ _ _ _ _ hr=>
  aN (fQ Qv rfl (eP B.av (ao (dh B.aF (ql 0 rfl rfl)) aj b7)) (bA (i:=2) (show 0<=2 by decide) yP.nd rfl (Or.inl rfl)) (aL (fQ Qv rfl (eP B.av (aG 2 rfl rfl aj)) (bA (i:=3) (show 0<=3 by decide) yP.nd rfl (Or.inl rfl)) (aN (bP (i:=4) yP.nd (fY (cO (ql 0 rfl rfl) (cO (ql 1 rfl rfl) (aq 2 rfl rfl))) (cO (ql 1 rfl rfl) (aq 3 rfl rfl))))
  (aL (dH (ml hr (cO (ql 1 rfl rfl) (fY (cO (ql 0 rfl rfl) (aq 2 rfl rfl)) (aq 3 rfl rfl))) (aq 4 rfl rfl)) (aL (bj fz)) dG))))))
  (aL (bj fz))
def SH:aH:=aE (aY 3 (ay sv 3 (ae (aa 0) (ae (aa 1) (ae (aa 2) af)))))
 (aE (cj (dm (ay B_ 2 (ae (aa 2) (ae (aa 3) af)))) (aS (aa 3)) cz)
 (aE (aY 4 (ay dS 3 (ae (aa 0) (ae (e2 bG (aa 1) (eC (.int 17))) (ae (bX 2) af)))))
 (aE (aY 5 (cF (ae (fV (ae (pX (ae (bX 2) af)) af)) (ae (Bg (fZ (ae (aa 4) af)) (bX 2)) af))))
 (aE (iu (kb 5 (ae (fV (ae (cA 1 (bW (ae (bX 2) af)) (ax 6) bE (cf (aW 2 (aa 6)) (aa 4)) false) af)) af)))
 (aS (aW 5 (ay dS 3 (ae (aa 0) (ae (e2 bG (aa 1) (eC (.int 16))) (ae (eC (.int 3)) af))))))))))
def Ca:=bU 6 (SH)
theorem yQ:ah [bd,bv,ap,dL,cr,"_law_some"] [bd,bv,ap] (bh (top 59)):=cH (by decide +kernel)
abbrev Gu:List Str:=[bd,bv,ap,dL,cr,"_law_some",dl]
theorem SI:(Gu).Nodup:=by decide +kernel
theorem SJ(B:Bt mg)(Cb:aw P w K mg base 3 "_law_rule" 3 sv)(SK:aw P w K mg base 1 "_law_spreads" 2 B_)(gC:aw P w K mg base 2 "_law_pick" 3 dS)(a:At K mg "_law_spread_rule" (top 59) [bd,bv,ap]):aw P w K mg base 4 "_law_spread_rule" 3 (Ca):=
 aw.cx a yQ λ_ _ _ _ _ _ _ hr=>
  aN (bP (i:=3) yQ.nd (aQ Cb hr (aG 0 rfl rfl (aG 1 rfl rfl (ao (bu (qv 2)) aj bV)))))
  (aN (dH (f9 (aQ SK hr (ao (bu (qv 2)) (aG 3 rfl rfl aj) bV))) (aL (bj (aq 3 rfl rfl))) dG)
  (aN (bP (i:=4) yQ.nd (aQ gC hr (aG 0 rfl rfl (ao (cS (aq 1 rfl rfl) aU) (ao (dh B.aF (qv 2)) aj b7) ff))))
  (aN (bP (i:=5) yQ.nd (eh (ao (ka B.aC Qj (ao (AW rfl B.eJ Zf B.av (ao (dh B.aF (qv 2)) aj b7)) aj b7)) (ao (OL (ma (ao (bu (qv 4)) aj bV)) (dh B.aF (qv 2))) aj ff) b7)))
  (aN (kJ (nz (ql 5 rfl rfl) (ao (ka B.aC Qj (ao (eQ (k:=1) (N':=Gu) false rfl (eP B.av (ao (dh B.aF (qv 2)) aj b7)) (λ_ _ _ _=>bA (i:=6) (show 6<=6 by decide) SI rfl (Or.inl rfl) (Or.inr rfl)) (λ_ _ _ _=>dQ) (λ_ _ _ _=>fY (cO (qv 2) (bu (qv 6))) (bu (qv 4)))) aj jr)) aj b7)))
  (aL (bj (cO (ql 5 rfl rfl) (aQ gC hr (aG 0 rfl rfl (ao (cS (aq 1 rfl rfl) aU) (cP aj) ff))))))))))
abbrev yR:aH:=aE (aY 10 (ay dS 3 (ae (aa 0) (ae (e2 bG (e2 bG (aa 1) (eC (.int 3))) (e2 j3 (eC (.int 2)) (aa 6))) (ae (bX 2) af)))))
 (iu (kb 9 (ae (fZ (ae (ay dS 3 (ae (aa 0) (ae (e2 bG (e2 bG (aa 1) (eC (.int 4))) (e2 j3 (eC (.int 2)) (aa 6))) (ae (aa 4) af)))) (ae (aa 10) af))) af)))
abbrev yS:aH:=aE (aY 7 (e2 bG (e2 bG (aa 1) (eC (.int 10))) (e2 j3 (eC (.int 22)) (aa 6))))
 (aE (aY 8 (ay sv 3 (ae (aa 0) (ae (e2 bG (aa 7) (eC (.int 2))) (ae (aa 2) af)))))
 (aE (cj (dm (aa 3)) (aY 8 (ay Ca 3 (ae (aa 0) (ae (e2 bG (aa 7) (eC (.int 2))) (ae (aa 2) af))))) cz)
 (iu (kb 5 (ae (fZ (ae (ay dS 3 (ae (aa 0) (ae (aa 7) (ae (aa 4) af)))) (ae (ay dS 3 (ae (aa 0) (ae (e2 bG (aa 7) (eC (.int 1))) (ae (aa 4) af)))) (ae (aa 8) af)))) af)))))
def Gv:aH:=aE (aY 4 (e2 bG (eC (.int 1)) (ay dS 3 (ae (aa 0) (ae (aa 1) (ae (eC (.int 5)) af))))))
 (aE (aY 5 (cF af))
 (aE (dy (bW (ae (ay dS 3 (ae (aa 0) (ae (e2 bG (aa 1) (eC (.int 1))) (ae (eC (.int 8)) af)))) af)) (ax 6) yS)
 (aE (aY 9 (cF af))
 (aE (dy (bW (ae (ay dS 3 (ae (aa 0) (ae (e2 bG (aa 1) (eC (.int 2))) (ae (eC (.int 4)) af)))) af)) (ax 6) yR)
 (aS (fZ (ae (aa 4) (ae (fV (ae (aa 5) af)) (ae (fV (ae (aa 9) af)) af)))))))))
def wb:=bU 11 (Gv)
theorem nN:ah [bd,bv,ap,"_law_spread","_law_places","_law_ways",li,kw,dL,"_law_begins",cr] [bd,bv,ap,"_law_spread"] (bh (top 60)):=cH (by decide +kernel)
theorem SM(B:Bt mg)(gC:aw P w K mg base 2 "_law_pick" 3 dS)(Cb:aw P w K mg base 3 "_law_rule" 3 sv)(SN:aw P w K mg base 4 "_law_spread_rule" 3 Ca)(a:At K mg "_law_chart" (top 60) [bd,bv,ap,"_law_spread"]):aw P w K mg base 5 "_law_chart" 4 (wb):=
 aw.cx a nN λ_ _ _ _ _ _ _ hr=>
  aN (bP (i:=4) nN.nd (cS aU (aQ gC hr (aG 0 rfl rfl (aG 1 rfl rfl (cP aj))))))
  (aN (bP (i:=5) nN.nd (eh aj))
  (aN (fQ Qv rfl (eP B.av (ao (aQ gC hr (aG 0 rfl rfl (ao (cS (aq 1 rfl rfl) aU) (cP aj) ff))) aj b7)) (bA (i:=6) (show 0<=6 by decide) nN.nd rfl (Or.inl rfl)) (aN (bP (i:=7) nN.nd (cS (cS (aq 1 rfl rfl) aU) (l9 aU (aq 6 rfl rfl))))
  (aN (bP (i:=8) nN.nd (aQ Cb hr (aG 0 rfl rfl (ao (cS (aq 7 rfl rfl) aU) (aG 2 rfl rfl aj) ff))))
  (aN (dH (f9 (aq 3 rfl rfl)) (aL (bP (i:=8) nN.nd (aQ SN hr (aG 0 rfl rfl (ao (cS (aq 7 rfl rfl) aU) (aG 2 rfl rfl aj) ff))))) dG)
  (aL (kJ (nz (ql 5 rfl rfl) (ao (ma (ao (aQ gC hr (aG 0 rfl rfl (aG 7 rfl rfl (aG 4 rfl rfl aj)))) (ao (aQ gC hr (aG 0 rfl rfl (ao (cS (aq 7 rfl rfl) aU) (aG 4 rfl rfl aj) ff))) (aG 8 rfl rfl aj) b7) b7)) aj ER))))))))
  (aN (bP (i:=9) nN.nd (eh aj))
  (aN (fQ Qv rfl (eP B.av (ao (aQ gC hr (aG 0 rfl rfl (ao (cS (aq 1 rfl rfl) aU) (cP aj) ff))) aj b7)) (bA (i:=6) (show 0<=6 by decide) nN.nd rfl (Or.inl rfl)) (aN (bP (i:=10) nN.nd (aQ gC hr (aG 0 rfl rfl (ao (cS (cS (aq 1 rfl rfl) aU) (l9 aU (aq 6 rfl rfl))) (ao (dh B.aF (ql 2 rfl rfl)) aj b7) ff))))
  (aL (kJ (nz (ql 9 rfl rfl) (ao (ma (ao (aQ gC hr (aG 0 rfl rfl (ao (cS (cS (aq 1 rfl rfl) aU) (l9 aU (aq 6 rfl rfl))) (aG 4 rfl rfl aj) ff))) (aG 10 rfl rfl aj) b7)) aj ER))))))
  (aL (bj (ma (aG 4 rfl rfl (ao (ka B.aC Qj (aG 5 rfl rfl aj)) (ao (ka B.aC Qj (aG 9 rfl rfl aj)) aj b7) b7)))))))))
abbrev Cd:aH:=aY 3 (e2 hJ (e2 hJ (aa 3) (qo (eC (.str " ")) (cA 1 (bH (aa 4)) (ax 5) bE (eB kP (ae (aa 5) af)) false))) (eC (.str "\n")))
def Gw:aH:=aE (aY 2 (kO (kO (cF (ae (cF (ae (eC (.str "ladder")) af)) af)) (cA 1 (bH (aa 0)) (ax 5) bE (mm (ae (aa 5) af)) false)) (cF (ae (cF (ae (eC (.str "places")) (ae (aW 1 (eC (.int 0))) af))) af))))
 (aE (iu (rT 2 (cA 3 (bH (aW 1 (eC (.int 1)))) (kN (dz (ax 5) (dz (ax 6) (dz (ax 7) jC)))) bE (kO (cF (ae (aa 5) (ae (aa 6) af))) (mm (ae (aa 7) af))) false)))
 (aE (iu (kb 2 (ae (cF (ae (eC (.str "begins")) af)) af)))
 (aE (iu (rT 2 (cA 1 (bH (aW 1 (eC (.int 2)))) (ax 5) bE (mm (ae (aa 5) af)) false)))
 (aE (aY 3 (eC (.str "")))
 (aE (dy (bH (aa 2)) (ax 4) Cd)
 (aS (aa 3)))))))
def qw:=bU 5 (Gw)
theorem wc:ah [ap,ca,ln,bn,io] [ap,ca] (bh (top 62)):=cH (by decide +kernel)
abbrev Gx:List Str:=[ap,ca,ln,bn,"#4",io]
theorem SO:(Gx).Nodup:=by decide +kernel
abbrev Gy:List Str:=[ap,ca,ln,bn,io,"_law_start","_law_goal",dL]
theorem Ce:(Gy).Nodup:=by decide +kernel
abbrev Gz:List Str:=[ap,ca,ln,bn,io,"_law_begin"]
theorem SQ:(Gz).Nodup:=by decide +kernel
abbrev GA:List Str:=[ap,ca,ln,bn,io,"_law_word"]
theorem SR:(GA).Nodup:=by decide +kernel
theorem SS(B:Bt mg)(a:At K mg "_law_text" (top 62) [ap,ca]):aw P w K mg base 1 "_law_text" 2 (qw):=
 aw.cx a wc λ_ _ _ _ _ _ _ hr=>
  aN (bP (i:=2) wc.nd (qc (qc (eh (ao (eh (ao fm aj gf)) aj pY)) (eQ (k:=1) (N':=Gx) false rfl (eI (aq 0 rfl rfl)) (λ_ _ _ _=>bA (i:=5) (show 5<=5 by decide) SO rfl (Or.inl rfl) (Or.inr rfl)) (λ_ _ _ _=>dQ) (λ_ _ _ _=>yg B.eJ Zf (ao (bu (qv 5)) aj bV)))) (eh (ao (eh (ao fm (ao (cO (ql 1 rfl rfl) aU) aj g_) gf)) aj pY))))
  (aN (kJ (Bi (ql 2 rfl rfl) (eQ (k:=3) (N':=Gy) false rfl (eI (cO (ql 1 rfl rfl) aU)) (λ_ _ _ _=>vt (n:=3) rfl (lj (bA (i:=5) (show 5<=5 by decide) Ce rfl (Or.inl rfl) (Or.inr rfl)) (lj (bA (i:=6) (show 5<=6 by decide) Ce rfl (Or.inl rfl) (Or.inr rfl)) (lj (bA (i:=7) (show 5<=7 by decide) Ce rfl (Or.inl rfl) (Or.inr rfl)) vq))) E1) (λ_ _ _ _=>dQ) (λ_ _ _ _=>qc (eh (ao (bu (qv 5)) (ao (bu (qv 6)) aj bV) bV)) (yg B.eJ Zf (ao (bu (qv 7)) aj bV))))))
  (aN (kJ (nz (ql 2 rfl rfl) (ao (eh (ao fm aj gf)) aj pY)))
  (aN (kJ (Bi (ql 2 rfl rfl) (eQ (k:=1) (N':=Gz) false rfl (eI (cO (ql 1 rfl rfl) aU)) (λ_ _ _ _=>bA (i:=5) (show 5<=5 by decide) SQ rfl (Or.inl rfl) (Or.inr rfl)) (λ_ _ _ _=>dQ) (λ_ _ _ _=>yg B.eJ Zf (ao (bu (qv 5)) aj bV)))))
  (aN (bP (i:=3) wc.nd fm)
  (aN (fQ Qv rfl (eI (aq 2 rfl rfl)) (bA (i:=4) (show 0<=4 by decide) wc.nd rfl (Or.inl rfl)) (aL (bP (i:=3) wc.nd (kg (kg (aq 3 rfl rfl) (BI fm (eQ (k:=1) (N':=GA) false rfl (eI (aq 4 rfl rfl)) (λ_ _ _ _=>bA (i:=5) (show 5<=5 by decide) SR rfl (Or.inl rfl) (Or.inr rfl)) (λ_ _ _ _=>dQ) (λ_ _ _ _=>yD B.ko ZX (ao (bu (qv 5)) aj bV))))) fm))))
  (aL (bj (aq 3 rfl rfl))))))))
def GB:aH:=aS (qo (eC (.str " ")) (cA 1 (bH (aa 0)) (ax 1) bE (eB kP (ae (aa 1) af)) false))
def nO:=bU 1 (GB)
theorem SU:ah [ms] [ms] (bh (top 40)):=cH (by decide +kernel)
abbrev GC:List Str:=[ms,"number"]
theorem SV:(GC).Nodup:=by decide +kernel
theorem SW(B:Bt mg)(a:At K mg "line_of" (top 40) [ms]):aw P w K mg base 1 "line_of" 1 (nO):=
 aw.cx a SU λ_ _ _ _ _ _ _ hr=>
  aL (bj (BI fm (eQ (k:=1) (N':=GC) false rfl (eI (aq 0 rfl rfl)) (λ_ _ _ _=>bA (i:=1) (show 1<=1 by decide) SV rfl (Or.inl rfl) (Or.inr rfl)) (λ_ _ _ _=>dQ) (λ_ _ _ _=>yD B.ko ZX (ao (bu (qv 1)) aj bV)))))
def GD:aH:=aE (aY 2 (aW 1 (eC (.int 0))))
 (aE (aY 3 (kO (kO (cF (ae (eC (.str "ladder")) af)) (cA 1 (bH (aa 0)) (ax 4) bE (ay nO 1 (ae (aa 4) af)) false)) (cF (ae (se "places " (aa 2)) af))))
 (aE (aY 3 (kO (aa 3) (cA 3 (bH (aW 1 (eC (.int 1)))) (kN (dz (ax 4) (dz (ax 5) (dz (ax 6) jC)))) bE (ay nO 1 (ae (p7 (fZ (ae (aa 4) (ae (aa 5) af))) (aa 6)) af)) false)))
 (aE (aY 3 (kO (kO (aa 3) (cF (ae (eC (.str "begins")) af))) (cA 1 (bH (aW 1 (eC (.int 2)))) (ax 4) bE (ay nO 1 (ae (aa 4) af)) false)))
 (aS (qo (eC (.str "")) (cA 1 (bH (aa 3)) (ax 4) bE (e2 hJ (aa 4) (eC (.str "\n"))) false))))))
def jL:=bU 4 (GD)
theorem we:ah [be,ol,ce,le] [be,ol] (bh (top 39)):=cH (by decide +kernel)
abbrev GF:List Str:=[be,ol,ce,le,"row"]
theorem SX:(GF).Nodup:=by decide +kernel
abbrev GG:List Str:=[be,ol,ce,le,"start","goal","rule"]
theorem Cf:(GG).Nodup:=by decide +kernel
abbrev GH:List Str:=[be,ol,ce,le,"begin"]
theorem SY:(GH).Nodup:=by decide +kernel
abbrev GI:List Str:=[be,ol,ce,le,"line"]
theorem S0:(GI).Nodup:=by decide +kernel
theorem S1(B:Bt mg)(Cg:aw P w K mg base 1 "line_of" 1 nO)(a:At K mg "written" (top 39) [be,ol]):aw P w K mg base 2 "written" 2 (jL):=
 aw.cx a we λ_ _ _ _ _ _ _ hr=>
  aN (bP (i:=2) we.nd (cO (ql 1 rfl rfl) aU))
  (aN (bP (i:=3) we.nd (qc (qc (eh (ao fm aj gf)) (eQ (k:=1) (N':=GF) false rfl (eI (aq 0 rfl rfl)) (λ_ _ _ _=>bA (i:=4) (show 4<=4 by decide) SX rfl (Or.inl rfl) (Or.inr rfl)) (λ_ _ _ _=>dQ) (λ_ _ _ _=>aQ Cg hr (ao (bu (qv 4)) aj bV)))) (eh (ao (FE (aq 2 rfl rfl)) aj Rq))))
  (aN (bP (i:=3) we.nd (qc (aq 3 rfl rfl) (eQ (k:=3) (N':=GG) false rfl (eI (cO (ql 1 rfl rfl) aU)) (λ_ _ _ _=>vt (n:=3) rfl (lj (bA (i:=4) (show 4<=4 by decide) Cf rfl (Or.inl rfl) (Or.inr rfl)) (lj (bA (i:=5) (show 4<=5 by decide) Cf rfl (Or.inl rfl) (Or.inr rfl)) (lj (bA (i:=6) (show 4<=6 by decide) Cf rfl (Or.inl rfl) (Or.inr rfl)) vq))) E1) (λ_ _ _ _=>dQ) (λ_ _ _ _=>aQ Cg hr (ao (EY (ma (ao (bu (qv 4)) (ao (bu (qv 5)) aj bV) bV)) (bu (qv 6))) aj ff)))))
  (aN (bP (i:=3) we.nd (qc (qc (aq 3 rfl rfl) (eh (ao fm aj gf))) (eQ (k:=1) (N':=GH) false rfl (eI (cO (ql 1 rfl rfl) aU)) (λ_ _ _ _=>bA (i:=4) (show 4<=4 by decide) SY rfl (Or.inl rfl) (Or.inr rfl)) (λ_ _ _ _=>dQ) (λ_ _ _ _=>aQ Cg hr (ao (bu (qv 4)) aj bV)))))
  (aL (bj (BI fm (eQ (k:=1) (N':=GI) false rfl (eI (aq 3 rfl rfl)) (λ_ _ _ _=>bA (i:=4) (show 4<=4 by decide) S0 rfl (Or.inl rfl) (Or.inr rfl)) (λ_ _ _ _=>dQ) (λ_ _ _ _=>kg (bu (qv 4)) fm))))))))
abbrev t_:aH:=cj (dm (yE BH (aa 3) (ae (aa 1) af))) (aS (aa 2)) (cz)
def GJ:aH:=aE (dy (tM (ae (aa 0) af)) (kN (dz (ax 2) (dz (ax 3) jC))) t_)
 (tL)
def mM:=bU 4 (GJ)
theorem ua:ah [le,on,"number","line"] [le,on] (bh (top 42)):=cH (by decide +kernel)
theorem S2(B:Bt mg)(a:At K mg "line_beginning" (top 42) [le,on]):aw P w K mg base 1 "line_beginning" 2 (mM):=
 aw.cx a ua λ_ _ _ _ _ _ _ hr=>
  aN (fQ Qv rfl (E6 B.fJ (aG 0 rfl rfl aj)) (vt (n:=2) rfl (lj (bA (i:=2) (show 0<=2 by decide) ua.nd rfl (Or.inl rfl)) (lj (bA (i:=3) (show 0<=3 by decide) ua.nd rfl (Or.inl rfl)) vq)) Bd) (aL (dH (f9 (Fz (aq 3 rfl rfl) (aG 1 rfl rfl aj))) (aL (bj (aq 2 rfl rfl))) dG)))
  (aL Bj)
def S3:cY:=jG (dy (tM (ae (aa 0) af)) (kN (dz (ax 2) (dz (ax 3) jC))) t_) (yH "NoText" (se "there is no line " (aa 1)))
def ub:List D->Option Str:=fnX 4 S3
theorem S4(B:Bt mg)(T:Xt K mg)(a:At K mg "line_beginning" (top 42) [le,on]):gR P w K mg base 1 "line_beginning" 2 ub:=
 gR.cx (k:=0) a ua λ_ _ _ _ _ _ _ hr=>
  oV (fQ PassesOwn.leaving rfl (E6 B.fJ (aG 0 rfl rfl aj)) (vt (n:=2) rfl (lj (bA (i:=2) (show 0<=2 by decide) ua.nd rfl (Or.inl rfl)) (lj (bA (i:=3) (show 0<=3 by decide) ua.nd rfl (Or.inl rfl)) vq)) Bd) (aL (dH (f9 (Fz (aq 3 rfl rfl) (aG 1 rfl rfl aj))) (aL (bj (aq 2 rfl rfl))) dG))) (lz (Rr hr T.gj (FE (aq 1 rfl rfl))))
def GK:aH:=aE (aY 1 (cA 1 (bW (ae (eC (.int 16)) af)) (ax 2) bE (eB kP (ae (aa 2) af)) false))
 (aE (cj (bM (e2 oE (aa 0) (aa 1))) tL cz)
 (aS (yv (aa 1) (ae (aa 0) af))))
def jM:=bU 2 (GK)
theorem yT:ah [on,"words"] [on] (bh (top 44)):=cH (by decide +kernel)
abbrev Ci:List Str:=[on,"words","number"]
theorem GL:(Ci).Nodup:=by decide +kernel
theorem S5(B:Bt mg)(a:At K mg "number_of" (top 44) [on]):aw P w K mg base 1 "number_of" 1 (jM):=
 aw.cx a yT λ_ _ _ _ _ _ _ hr=>
  aN (yb (i:=1) (k:=1) (N':=Ci) false yT.nd rfl rfl (eP B.av (ao (tK B.cV) aj bV)) (λ_ _ _ _=>bA (i:=2) (show 2<=2 by decide) GL rfl (Or.inl rfl) (Or.inr rfl)) (λ_ _ _ _=>dQ) (λ_ _ _ _=>yD B.ko ZX (ao (bu (qv 2)) aj bV)))
  (aN (dH (EB hr (aq 0 rfl rfl) (aq 1 rfl rfl)) (aL Bj) dG)
  (aL (bj (Py hr (aq 1 rfl rfl) (aG 0 rfl rfl aj)))))
def yU:cY:=jG (aY 1 (cA 1 (bW (ae (eC (.int 16)) af)) (ax 2) bE (eB kP (ae (aa 2) af)) false)) (oU (bM (e2 oE (aa 0) (aa 1))) (yy "NoText") yx)
def nQ:List D->Option Str:=fnX 2 yU
theorem S6(B:Bt mg)(T:Xt K mg)(a:At K mg "number_of" (top 44) [on]):gR P w K mg base 1 "number_of" 1 nQ:=
 gR.cx (k:=0) a yT λ_ _ _ _ _ _ _ hr=>
  oV (yb (i:=1) (k:=1) (N':=Ci) false yT.nd rfl rfl (eP B.av (ao (tK B.cV) aj bV)) (λ_ _ _ _=>bA (i:=2) (show 2<=2 by decide) GL rfl (Or.inl rfl) (Or.inr rfl)) (λ_ _ _ _=>dQ) (λ_ _ _ _=>yD B.ko ZX (ao (bu (qv 2)) aj bV))) (lz (Fj (EB hr (aq 0 rfl rfl) (aq 1 rfl rfl)) (lz (Fm hr T.gj)) Fi))
def GN:aH:=aS (fV (ae (cA 1 (bH (nI (aa 0) (ae (eC (.str " ")) af))) (ax 1) bE (ay jM 1 (ae (aa 1) af)) false) af))
def gD:=bU 1 (GN)
theorem GO:ah ["line"] ["line"] (bh (top 43)):=cH (by decide +kernel)
abbrev Cj:List Str:=["line",on]
theorem GP:(Cj).Nodup:=by decide +kernel
theorem S7(B:Bt mg)(sx:aw P w K mg base 1 "number_of" 1 jM)(a:At K mg "numbers_of" (top 43) ["line"]):aw P w K mg base 2 "numbers_of" 1 (gD):=
 aw.cx a GO λ_ _ _ _ _ _ _ hr=>
  aL (bj (ka B.aC Qj (ao (eQ (k:=1) (N':=Cj) false rfl (eI (yF (aq 0 rfl rfl) (ao fm aj gf))) (λ_ _ _ _=>bA (i:=1) (show 1<=1 by decide) GP rfl (Or.inl rfl) (Or.inr rfl)) (λ_ _ _ _=>dQ) (λ_ _ _ _=>aQ sx hr (ao (bu (qv 1)) aj bV))) aj jr)))
def S8:cY:=oY 1 (bH (nI (aa 0) (ae (eC (.str " ")) af))) (ax 1) bE (ay jM 1 (ae (aa 1) af)) (iM nQ 1 (ae (aa 1) af))
def kT:List D->Option Str:=fnX 1 S8
theorem S9(B:Bt mg)(T:Xt K mg)(sx:aw P w K mg base 1 "number_of" 1 jM)(Ck:gR P w K mg base 1 "number_of" 1 nQ)(a:At K mg "numbers_of" (top 43) ["line"]):gR P w K mg base 2 "numbers_of" 1 kT:=
 gR.cx (k:=1) a GO λ_ _ _ _ _ _ _ hr=>
  lz (PC (yC B.aC Qj (yA (N':=Cj) ⟨rfl,by decide +kernel,rfl,rfl,rfl⟩ (eI (yF (aq 0 rfl rfl) (ao fm aj gf))) (λ_ _ _ _=>bA (i:=1) (show 1<=1 by decide) GP rfl (Or.inl rfl) (Or.inr rfl)) (λ_ _ _ _=>dQ) (λ_ _ _ _=>aQ sx hr (ao (bu (qv 1)) aj bV)) (λ_ _ _ _=>yB Ck hr (by decide) (ao (bu (qv 1)) aj bV)))))
def GQ:aH:=aS (p7 (tJ (aa 0) gA (cu (eC (.int 2)))) (fZ (ae (tJ (aa 0) (cu (eC (.int 2))) gA) af)))
def nR:=bU 1 (GQ)
theorem S_:ah [ms] [ms] (bh (top 45)):=cH (by decide +kernel)
theorem Ta(B:Bt mg)(a:At K mg "way_of" (top 45) [ms]):aw P w K mg base 1 "way_of" 1 (nR):=
 aw.cx a S_ λ_ _ _ _ _ _ _ hr=>
  aL (bj (EY (EZ (aq 0 rfl rfl) ke (eA aU)) (ma (ao (EZ (aq 0 rfl rfl) (eA aU) ke) aj g_))))
abbrev Tb:aH:=cj (bM (e2 dE (cf (aW 0 (cf (aW 0 (aa 2)) (aa 3))) (aa 4)) (cf (aW 0 (aa 2)) (cf (aW 0 (aa 3)) (aa 4))))) (aS (eC (.bl false))) (cz)
abbrev Tc:aH:=dy (bW (ae (aa 1) af)) (ax 4) (Tb)
abbrev Td:aH:=dy (bW (ae (aa 1) af)) (ax 3) (Tc)
def GR:aH:=aE (aY 1 (bX 0))
 (aE (dy (bW (ae (aa 1) af)) (ax 2) Td)
 (aS (eC (.bl true))))
def sy:=bU 5 (GR)
theorem wg:ah [im,lv,"x","y","z"] [im] (bh (top 18)):=cH (by decide +kernel)
theorem Te(B:Bt mg)(a:At K mg "joins_are_from_either_end" (top 18) [im]):aw P w K mg base 1 "joins_are_from_either_end" 1 (sy):=
 aw.cx a wg λ_ _ _ _ _ _ _ hr=>
  aN (bP (i:=1) wg.nd (dh B.aF (ql 0 rfl rfl)))
  (aN (fQ Qv rfl (eP B.av (aG 1 rfl rfl aj)) (bA (i:=2) (show 0<=2 by decide) wg.nd rfl (Or.inl rfl)) (aL (fQ Qv rfl (eP B.av (aG 1 rfl rfl aj)) (bA (i:=3) (show 0<=3 by decide) wg.nd rfl (Or.inl rfl)) (aL (fQ Qv rfl (eP B.av (aG 1 rfl rfl aj)) (bA (i:=4) (show 0<=4 by decide) wg.nd rfl (Or.inl rfl)) (aL (dH (ml hr (fY (cO (ql 0 rfl rfl) (fY (cO (ql 0 rfl rfl) (aq 2 rfl rfl)) (aq 3 rfl rfl))) (aq 4 rfl rfl)) (fY (cO (ql 0 rfl rfl) (aq 2 rfl rfl)) (fY (cO (ql 0 rfl rfl) (aq 3 rfl rfl)) (aq 4 rfl rfl)))) (aL (bj fz)) dG)))))))
  (aL (bj fz)))
def GS:aH:=aS (EJ (ae (aa 0) af))
def wj:=bU 1 (GS)
theorem Tf:ah [lv] [lv] (bh (top 19)):=cH (by decide +kernel)
theorem Tg(B:Bt mg)(a:At K mg "row_of_least" (top 19) [lv]):aw P w K mg base 1 "row_of_least" 1 (wj):=
 aw.cx a Tf λ_ _ _ _ _ _ _ hr=>
  aL (bj (NY rfl B.aC Qj B.av (aG 0 rfl rfl aj)))
def GU:aH:=aS (e2 pW (ay wj 1 (ae (bX 0) af)) (aa 0))
def sA:=bU 1 (GU)
theorem Th:ah [im] [im] (bh (top 20)):=cH (by decide +kernel)
theorem Ti(B:Bt mg)(Tj:aw P w K mg base 1 "row_of_least" 1 wj)(a:At K mg "has_least" (top 20) [im]):aw P w K mg base 2 "has_least" 1 (sA):=
 aw.cx a Th λ_ _ _ _ _ _ _ hr=>
  aL (bj (NR hr (aQ Tj hr (ao (dh B.aF (ql 0 rfl rfl)) aj b7)) (aq 0 rfl rfl)))
def GV:aH:=aS (eB kc (ae (cA 1 (bW (ae (bX 0) af)) (ax 1) bE (e2 eZ (cf (aW 0 (aa 1)) (aa 1)) (aa 1)) false) af))
def sC:=bU 1 (GV)
theorem Tn:ah [im] [im] (bh (top 16)):=cH (by decide +kernel)
abbrev GW:List Str:=[im,"x"]
theorem To:(GW).Nodup:=by decide +kernel
theorem Tp(B:Bt mg)(a:At K mg "joins_with_itself_stay" (top 16) [im]):aw P w K mg base 1 "joins_with_itself_stay" 1 (sC):=
 aw.cx a Tn λ_ _ _ _ _ _ _ hr=>
  aL (bj (vw rfl B.i8 (ao (eQ (k:=1) (N':=GW) false rfl (eP B.av (ao (dh B.aF (qv 0)) aj b7)) (λ_ _ _ _=>bA (i:=1) (show 1<=1 by decide) To rfl (Or.inl rfl) (Or.inr rfl)) (λ_ _ _ _=>dQ) (λ_ _ _ _=>yd hr (fY (cO (qv 0) (bu (qv 1))) (bu (qv 1))) (bu (qv 1)))) aj jr)))
abbrev Tq:aH:=cj (bM (e2 dE (cf (aW 0 (aa 1)) (aa 2)) (cf (aW 0 (aa 2)) (aa 1)))) (aS (eC (.bl false))) (cz)
abbrev Tr:aH:=dy (bW (ae (aa 1) af)) (ax 2) (Tq)
def GX:aH:=aE (dy (bW (ae (bX 0) af)) (ax 1) Tr)
 (aS (eC (.bl true)))
def sD:=bU 3 (GX)
theorem Cm:ah [im,"x","y"] [im] (bh (top 17)):=cH (by decide +kernel)
theorem Ts(B:Bt mg)(a:At K mg "joins_are_either_way" (top 17) [im]):aw P w K mg base 1 "joins_are_either_way" 1 (sD):=
 aw.cx a Cm λ_ _ _ _ _ _ _ hr=>
  aN (fQ Qv rfl (eP B.av (ao (dh B.aF (ql 0 rfl rfl)) aj b7)) (bA (i:=1) (show 0<=1 by decide) Cm.nd rfl (Or.inl rfl)) (aL (fQ Qv rfl (eP B.av (aG 1 rfl rfl aj)) (bA (i:=2) (show 0<=2 by decide) Cm.nd rfl (Or.inl rfl)) (aL (dH (ml hr (fY (cO (ql 0 rfl rfl) (aq 1 rfl rfl)) (aq 2 rfl rfl)) (fY (cO (ql 0 rfl rfl) (aq 2 rfl rfl)) (aq 1 rfl rfl))) (aL (bj fz)) dG)))))
  (aL (bj fz))
def GY:aH:=aS (gz (mq .int (aa 0)) (Bc (mq .bool (aa 0))))
def sE:=bU 1 (GY)
theorem Tt:ah [bi] [bi] (bh (top 10)):=cH (by decide +kernel)
theorem Tu(B:Bt mg)(a:At K mg "is_whole" (top 10) [bi]):aw P w K mg base 1 "is_whole" 1 (sE):=
 aw.cx a Tt λ_ _ _ _ _ _ _ hr=>
  aL (bj (kM (oM .int B.au B.v5 PyProof.Rows.boot_int (aq 0 rfl rfl)) (mn (N7 (oM .bool B.au B.sf PyProof.Rows.boot_bool (aq 0 rfl rfl))))))
def GZ:aH:=aS (gz (ay sE 1 (ae (aa 0) af)) (nB ny jB (eC (.int 0)) (aa 0) (aa 1)))
def lE:=bU 2 (GZ)
theorem Tv:ah [bi,lv] [bi,lv] (bh (top 11)):=cH (by decide +kernel)
theorem Tw(B:Bt mg)(Cn:aw P w K mg base 1 "is_whole" 1 sE)(a:At K mg "is_number_of" (top 11) [bi,lv]):aw P w K mg base 2 "is_number_of" 2 (lE):=
 aw.cx a Tv λ_ _ _ _ _ _ _ hr=>
  aL (bj (kM (aQ Cn hr (aG 0 rfl rfl aj)) (mn (Oo aU (aq 0 rfl rfl) (aq 1 rfl rfl)))))
def Co:aH:=aE (cj (fU (dP (dm (mq .tuple (aa 0)))) (bM (e2 dE (bX 0) (aa 1)))) (aS (eC (.bl false))) cz)
 (aS (eB kc (ae (cA 1 (bH (aa 0)) (ax 3) bE (ay lE 2 (ae (aa 3) (ae (aa 2) af))) false) af)))
def lF:=bU 3 (Co)
theorem Tx:ah [bi,"length",lv] [bi,"length",lv] (bh (top 12)):=cH (by decide +kernel)
abbrev G0:List Str:=[bi,"length",lv,"part"]
theorem Tz:(G0).Nodup:=by decide +kernel
theorem TC(B:Bt mg)(sF:aw P w K mg base 2 "is_number_of" 2 lE)(a:At K mg "is_row_of" (top 12) [bi,"length",lv]):aw P w K mg base 3 "is_row_of" 3 (lF):=
 aw.cx a Tx λ_ _ _ _ _ _ _ hr=>
  aN (dH (lD (j5 (ir (f9 (oM .tuple B.au B.aC Qj (aq 0 rfl rfl)))) (la (ml hr (dh B.aF (ql 0 rfl rfl)) (aq 1 rfl rfl))))) (aL (bj fz)) dG)
  (aL (bj (vw rfl B.i8 (ao (eQ (k:=1) (N':=G0) false rfl (eI (aq 0 rfl rfl)) (λ_ _ _ _=>bA (i:=3) (show 3<=3 by decide) Tz rfl (Or.inl rfl) (Or.inr rfl)) (λ_ _ _ _=>dQ) (λ_ _ _ _=>aQ sF hr (ao (bu (qv 3)) (ao (bu (qv 2)) aj bV) bV))) aj jr))))
def yV:aH:=aE (cj (fU (dP (dm (mq .tuple (aa 0)))) (dP (bM (nB ny ny (eC (.int 1)) (bX 0) (eC (.int 16)))))) (aS (eC (.bl false))) cz)
 (aE (aY 1 (bX 0))
 (aE (cj (dP (dm (eB kc (ae (cA 1 (bH (aa 0)) (ax 2) bE (ay lF 3 (ae (aa 2) (ae (aa 1) (ae (aa 1) af)))) false) af)))) (aS (eC (.bl false))) cz)
 (aE (cj (fU (dP (dm (ay sC 1 (ae (aa 0) af)))) (dP (dm (ay sD 1 (ae (aa 0) af))))) (aS (eC (.bl false))) cz)
 (aS (gz (ay sy 1 (ae (aa 0) af)) (ay sA 1 (ae (aa 0) af)))))))
def gE:=bU 2 (yV)
theorem G1:ah [bi,lv] [bi] (bh (top 15)):=cH (by decide +kernel)
abbrev G2:List Str:=[bi,lv,"row"]
theorem TF:(G2).Nodup:=by decide +kernel
theorem TH(B:Bt mg)(Cp:aw P w K mg base 3 "is_row_of" 3 lF)(TJ:aw P w K mg base 1 "joins_with_itself_stay" 1 sC)(TK:aw P w K mg base 1 "joins_are_either_way" 1 sD)(TL:aw P w K mg base 1 "joins_are_from_either_end" 1 sy)(TM:aw P w K mg base 2 "has_least" 1 sA)(a:At K mg "is_ladder" (top 15) [bi]):aw P w K mg base 4 "is_ladder" 1 (gE):=
 aw.cx a G1 λ_ _ _ _ _ _ _ hr=>
  aN (dH (lD (j5 (ir (f9 (oM .tuple B.au B.aC Qj (aq 0 rfl rfl)))) (la (ir (ON aU (dh B.aF (ql 0 rfl rfl)) (tK B.cV)))))) (aL (bj fz)) dG)
  (aN (bP (i:=1) G1.nd (dh B.aF (ql 0 rfl rfl)))
  (aN (dH (ir (f9 (vw rfl B.i8 (ao (eQ (k:=1) (N':=G2) false rfl (eI (aq 0 rfl rfl)) (λ_ _ _ _=>bA (i:=2) (show 2<=2 by decide) TF rfl (Or.inl rfl) (Or.inr rfl)) (λ_ _ _ _=>dQ) (λ_ _ _ _=>aQ Cp hr (ao (bu (qv 2)) (ao (bu (qv 1)) (ao (bu (qv 1)) aj bV) bV) bV))) aj jr)))) (aL (bj fz)) dG)
  (aN (dH (lD (j5 (ir (f9 (aQ TJ hr (aG 0 rfl rfl aj)))) (la (ir (f9 (aQ TK hr (aG 0 rfl rfl aj))))))) (aL (bj fz)) dG)
  (aL (bj (kM (aQ TL hr (aG 0 rfl rfl aj)) (mn (aQ TM hr (aG 0 rfl rfl aj)))))))))
def G3:aH:=aS (gz (ay sE 1 (ae (aa 0) af)) (nB ny ny (eC (.int 1)) (aa 0) (eC (.int 8))))
def wk:=bU 1 (G3)
theorem TN:ah [bi] [bi] (bh (top 32)):=cH (by decide +kernel)
theorem TQ(B:Bt mg)(Cn:aw P w K mg base 1 "is_whole" 1 sE)(a:At K mg "is_many_places" (top 32) [bi]):aw P w K mg base 2 "is_many_places" 1 (wk):=
 aw.cx a TN λ_ _ _ _ _ _ _ hr=>
  aL (bj (kM (aQ Cn hr (aG 0 rfl rfl aj)) (mn (Oq aU (aq 0 rfl rfl) (tK B.gU)))))
def G4:aH:=aE (cj (fU (dP (dm (mq .tuple (aa 1)))) (bM (e2 dE (bX 1) (eC (.int 3))))) (aS (eC (.bl false))) cz)
 (aS (gz (ay lE 2 (ae (aW 1 (eC (.int 0))) (ae (aa 0) af))) (ay lE 2 (ae (aW 1 (eC (.int 1))) (ae (aa 0) af)))))
def uc:=bU 2 (G4)
theorem TR:ah [ce,bi] [ce,bi] (bh (top 35)):=cH (by decide +kernel)
theorem TU(B:Bt mg)(sF:aw P w K mg base 2 "is_number_of" 2 lE)(a:At K mg "goes_between" (top 35) [ce,bi]):aw P w K mg base 3 "goes_between" 2 (uc):=
 aw.cx a TR λ_ _ _ _ _ _ _ hr=>
  aN (dH (lD (j5 (ir (f9 (oM .tuple B.au B.aC Qj (aq 1 rfl rfl)))) (la (ml hr (dh B.aF (ql 1 rfl rfl)) aU)))) (aL (bj fz)) dG)
  (aL (bj (kM (aQ sF hr (ao (cO (ql 1 rfl rfl) aU) (aG 0 rfl rfl aj) g_)) (mn (aQ sF hr (ao (cO (ql 1 rfl rfl) aU) (aG 0 rfl rfl aj) g_))))))
def G5:aH:=aS (ay lF 3 (ae (aa 1) (ae (bX 0) (ae (bX 0) af))))
def wm:=bU 2 (G5)
theorem TV:ah [be,bi] [be,bi] (bh (top 24)):=cH (by decide +kernel)
theorem TX(B:Bt mg)(Cp:aw P w K mg base 3 "is_row_of" 3 lF)(a:At K mg "is_rule" (top 24) [be,bi]):aw P w K mg base 4 "is_rule" 2 (wm):=
 aw.cx a TV λ_ _ _ _ _ _ _ hr=>
  aL (bj (aQ Cp hr (aG 1 rfl rfl (ao (dh B.aF (ql 0 rfl rfl)) (ao (dh B.aF (ql 0 rfl rfl)) aj b7) b7))))
def G6:aH:=aS (e2 eZ (cf (aW 0 (aa 1)) (aa 2)) (aa 2))
def pd:=bU 3 (G6)
theorem TY:ah [be,"one","other"] [be,"one","other"] (bh (top 21)):=cH (by decide +kernel)
theorem TZ(B:Bt mg)(a:At K mg "is_below" (top 21) [be,"one","other"]):aw P w K mg base 1 "is_below" 3 (pd):=
 aw.cx a TY λ_ _ _ _ _ _ _ hr=>
  aL (bj (yd hr (fY (cO (ql 0 rfl rfl) (aq 1 rfl rfl)) (aq 2 rfl rfl)) (aq 2 rfl rfl)))
def G8:aH:=aS (cA 1 (bW (ae (bX 0) af)) (ax 2) (dm (ay pd 3 (ae (aa 0) (ae (aa 2) (ae (aa 1) af))))) (aa 2) false)
def qx:=bU 2 (G8)
theorem T1:ah [be,"worth"] [be,"worth"] (bh (top 22)):=cH (by decide +kernel)
abbrev G9:List Str:=[be,"worth","x"]
theorem T2:(G9).Nodup:=by decide +kernel
theorem T3(B:Bt mg)(Cq:aw P w K mg base 1 "is_below" 3 pd)(a:At K mg "below" (top 22) [be,"worth"]):aw P w K mg base 2 "below" 2 (qx):=
 aw.cx a T1 λ_ _ _ _ _ _ _ hr=>
  aL (bj (eQ (k:=1) (N':=G9) false rfl (eP B.av (ao (dh B.aF (qv 0)) aj b7)) (λ_ _ _ _=>bA (i:=2) (show 2<=2 by decide) T2 rfl (Or.inl rfl) (Or.inr rfl)) (λ_ _ _ _=>AU (f9 (aQ Cq hr (ao (bu (qv 0)) (ao (bu (qv 2)) (ao (bu (qv 1)) aj bV) bV) bV)))) (λ_ _ _ _=>bu (qv 2))))
abbrev T4:aH:=cj (dP (dm (ay pd 3 (ae (aa 0) (ae (aW 1 (aa 3)) (ae (aW 1 (aa 2)) af)))))) (aS (eC (.bl false))) (cz)
abbrev T7:aH:=dy (bH (ay qx 2 (ae (aa 0) (ae (aa 2) af)))) (ax 3) (T4)
def G_:aH:=aE (dy (bW (ae (bX 0) af)) (ax 2) T7)
 (aS (eC (.bl true)))
def wo:=bU 4 (G_)
theorem Cr:ah [be,"rule","y","x"] [be,"rule"] (bh (top 25)):=cH (by decide +kernel)
theorem T8(B:Bt mg)(T9:aw P w K mg base 2 "below" 2 qx)(Cq:aw P w K mg base 1 "is_below" 3 pd)(a:At K mg "rises" (top 25) [be,"rule"]):aw P w K mg base 3 "rises" 2 (wo):=
 aw.cx a Cr λ_ _ _ _ _ _ _ hr=>
  aN (fQ Qv rfl (eP B.av (ao (dh B.aF (ql 0 rfl rfl)) aj b7)) (bA (i:=2) (show 0<=2 by decide) Cr.nd rfl (Or.inl rfl)) (aL (fQ Qv rfl (eI (aQ T9 hr (aG 0 rfl rfl (aG 2 rfl rfl aj)))) (bA (i:=3) (show 0<=3 by decide) Cr.nd rfl (Or.inl rfl)) (aL (dH (ir (f9 (aQ Cq hr (aG 0 rfl rfl (ao (cO (ql 1 rfl rfl) (aq 3 rfl rfl)) (ao (cO (ql 1 rfl rfl) (aq 2 rfl rfl)) aj g_) g_))))) (aL (bj fz)) dG)))))
  (aL (bj fz))
def Ha:aH:=aS (gz (ay wm 2 (ae (aa 0) (ae (aa 1) af))) (ay wo 2 (ae (aa 0) (ae (aa 1) af))))
def wq:=bU 2 (Ha)
theorem T_:ah [be,bi] [be,bi] (bh (top 26)):=cH (by decide +kernel)
theorem Ua(B:Bt mg)(Ub:aw P w K mg base 4 "is_rule" 2 wm)(Uc:aw P w K mg base 3 "rises" 2 wo)(a:At K mg "is_rising_rule" (top 26) [be,bi]):aw P w K mg base 5 "is_rising_rule" 2 (wq):=
 aw.cx a T_ λ_ _ _ _ _ _ _ hr=>
  aL (bj (kM (aQ Ub hr (aG 0 rfl rfl (aG 1 rfl rfl aj))) (mn (aQ Uc hr (aG 0 rfl rfl (aG 1 rfl rfl aj))))))
def Hb:aH:=aS (gz (ay uc 2 (ae (aa 1) (ae (aa 2) af))) (ay wq 2 (ae (aa 0) (ae (aW 2 (eC (.int 2))) af))))
def wu:=bU 3 (Hb)
theorem Ud:ah [be,ce,bi] [be,ce,bi] (bh (top 34)):=cH (by decide +kernel)
theorem Ue(B:Bt mg)(Ug:aw P w K mg base 3 "goes_between" 2 uc)(Uh:aw P w K mg base 5 "is_rising_rule" 2 wq)(a:At K mg "is_way" (top 34) [be,ce,bi]):aw P w K mg base 6 "is_way" 3 (wu):=
 aw.cx a Ud λ_ _ _ _ _ _ _ hr=>
  aL (bj (kM (aQ Ug hr (aG 1 rfl rfl (aG 2 rfl rfl aj))) (mn (aQ Uh hr (aG 0 rfl rfl (ao (cO (ql 2 rfl rfl) aU) aj g_))))))
def Hc:aH:=aE (cj (fU (dP (dm (mq .tuple (aa 2)))) (bM (e2 xZ (bX 2) (eC (.int 60))))) (aS (eC (.bl false))) cz)
 (aS (eB kc (ae (cA 1 (bH (aa 2)) (ax 3) bE (ay wu 3 (ae (aa 0) (ae (aa 1) (ae (aa 3) af)))) false) af)))
def wx:=bU 3 (Hc)
theorem Ui:ah [be,ce,bi] [be,ce,bi] (bh (top 33)):=cH (by decide +kernel)
abbrev Hd:List Str:=[be,ce,bi,"way"]
theorem Uj:(Hd).Nodup:=by decide +kernel
theorem Uk(B:Bt mg)(Ul:aw P w K mg base 6 "is_way" 3 wu)(a:At K mg "are_ways" (top 33) [be,ce,bi]):aw P w K mg base 7 "are_ways" 3 (wx):=
 aw.cx a Ui λ_ _ _ _ _ _ _ hr=>
  aN (dH (lD (j5 (ir (f9 (oM .tuple B.au B.aC Qj (aq 2 rfl rfl)))) (la (Ej (dh B.aF (ql 2 rfl rfl)) (tK B.i_))))) (aL (bj fz)) dG)
  (aL (bj (vw rfl B.i8 (ao (eQ (k:=1) (N':=Hd) false rfl (eI (aq 2 rfl rfl)) (λ_ _ _ _=>bA (i:=3) (show 3<=3 by decide) Uj rfl (Or.inl rfl) (Or.inr rfl)) (λ_ _ _ _=>dQ) (λ_ _ _ _=>aQ Ul hr (ao (bu (qv 0)) (ao (bu (qv 1)) (ao (bu (qv 3)) aj bV) bV) bV))) aj jr))))
def He:aH:=aE (cj (fU (dP (dm (mq .tuple (aa 2)))) (bM (e2 dE (bX 2) (eC (.int 2))))) (aS (eC (.bl false))) cz)
 (aS (gz (ay lE 2 (ae (aW 2 (eC (.int 0))) (ae (aa 1) af))) (ay lE 2 (ae (aW 2 (eC (.int 1))) (ae (bX 0) af)))))
def wy:=bU 3 (He)
theorem Um:ah [be,ce,bi] [be,ce,bi] (bh (top 37)):=cH (by decide +kernel)
theorem Uo(B:Bt mg)(sF:aw P w K mg base 2 "is_number_of" 2 lE)(a:At K mg "is_begin" (top 37) [be,ce,bi]):aw P w K mg base 3 "is_begin" 3 (wy):=
 aw.cx a Um λ_ _ _ _ _ _ _ hr=>
  aN (dH (lD (j5 (ir (f9 (oM .tuple B.au B.aC Qj (aq 2 rfl rfl)))) (la (ml hr (dh B.aF (ql 2 rfl rfl)) aU)))) (aL (bj fz)) dG)
  (aL (bj (kM (aQ sF hr (ao (cO (ql 2 rfl rfl) aU) (aG 1 rfl rfl aj) g_)) (mn (aQ sF hr (ao (cO (ql 2 rfl rfl) aU) (ao (dh B.aF (ql 0 rfl rfl)) aj b7) g_))))))
def Hf:aH:=aE (cj (fU (dP (dm (mq .tuple (aa 2)))) (bM (e2 xZ (bX 2) (eC (.int 60))))) (aS (eC (.bl false))) cz)
 (aS (eB kc (ae (cA 1 (bH (aa 2)) (ax 3) bE (ay wy 3 (ae (aa 0) (ae (aa 1) (ae (aa 3) af)))) false) af)))
def wz:=bU 3 (Hf)
theorem Up:ah [be,ce,bi] [be,ce,bi] (bh (top 36)):=cH (by decide +kernel)
abbrev Hg:List Str:=[be,ce,bi,"begin"]
theorem Uq:(Hg).Nodup:=by decide +kernel
theorem Ur(B:Bt mg)(Us:aw P w K mg base 3 "is_begin" 3 wy)(a:At K mg "are_begins" (top 36) [be,ce,bi]):aw P w K mg base 4 "are_begins" 3 (wz):=
 aw.cx a Up λ_ _ _ _ _ _ _ hr=>
  aN (dH (lD (j5 (ir (f9 (oM .tuple B.au B.aC Qj (aq 2 rfl rfl)))) (la (Ej (dh B.aF (ql 2 rfl rfl)) (tK B.gT))))) (aL (bj fz)) dG)
  (aL (bj (vw rfl B.i8 (ao (eQ (k:=1) (N':=Hg) false rfl (eI (aq 2 rfl rfl)) (λ_ _ _ _=>bA (i:=3) (show 3<=3 by decide) Uq rfl (Or.inl rfl) (Or.inr rfl)) (λ_ _ _ _=>dQ) (λ_ _ _ _=>aQ Us hr (ao (bu (qv 0)) (ao (bu (qv 1)) (ao (bu (qv 3)) aj bV) bV) bV))) aj jr))))
def Hh:aH:=aE (cj (fU (dP (dm (mq .tuple (aa 1)))) (bM (e2 dE (bX 1) (eC (.int 3))))) (aS (eC (.bl false))) cz)
 (aE (cj (dP (dm (ay wk 1 (ae (aW 1 (eC (.int 0))) af)))) (aS (eC (.bl false))) cz)
 (aS (gz (ay wx 3 (ae (aa 0) (ae (aW 1 (eC (.int 0))) (ae (aW 1 (eC (.int 1))) af)))) (ay wz 3 (ae (aa 0) (ae (aW 1 (eC (.int 0))) (ae (aW 1 (eC (.int 2))) af)))))))
def iQ:=bU 2 (Hh)
theorem Ut:ah [be,bi] [be,bi] (bh (top 31)):=cH (by decide +kernel)
theorem Uu(B:Bt mg)(Uv:aw P w K mg base 2 "is_many_places" 1 wk)(Uw:aw P w K mg base 7 "are_ways" 3 wx)(Ux:aw P w K mg base 4 "are_begins" 3 wz)(a:At K mg "is_chart" (top 31) [be,bi]):aw P w K mg base 8 "is_chart" 2 (iQ):=
 aw.cx a Ut λ_ _ _ _ _ _ _ hr=>
  aN (dH (lD (j5 (ir (f9 (oM .tuple B.au B.aC Qj (aq 1 rfl rfl)))) (la (ml hr (dh B.aF (ql 1 rfl rfl)) aU)))) (aL (bj fz)) dG)
  (aN (dH (ir (f9 (aQ Uv hr (ao (cO (ql 1 rfl rfl) aU) aj g_)))) (aL (bj fz)) dG)
  (aL (bj (kM (aQ Uw hr (aG 0 rfl rfl (ao (cO (ql 1 rfl rfl) aU) (ao (cO (ql 1 rfl rfl) aU) aj g_) g_))) (mn (aQ Ux hr (aG 0 rfl rfl (ao (cO (ql 1 rfl rfl) aU) (ao (cO (ql 1 rfl rfl) aU) aj g_) g_))))))))
def Hi:aH:=aE (aY 1 (nI (aa 0) (ae (eC (.str "\n")) af)))
 (aE (aY 2 (ay mM 2 (ae (aa 1) (ae (eC (.str "places")) af))))
 (aE (aY 3 (ay mM 2 (ae (aa 1) (ae (eC (.str "begins")) af))))
 (aE (aY 4 (fV (ae (cA 1 (bH (js (aa 1) (cu (eC (.int 1))) (cu (aa 2)))) (ax 8) bE (ay gD 1 (ae (aa 8) af)) false) af)))
 (aE (aY 5 (fV (ae (cA 1 (bH (js (aa 1) (cu (e2 bG (aa 2) (eC (.int 1)))) (cu (aa 3)))) (ax 8) bE (ay nR 1 (ae (ay gD 1 (ae (aa 8) af)) af)) false) af)))
 (aE (aY 6 (fV (ae (cA 1 (bH (js (aa 1) (cu (e2 bG (aa 3) (eC (.int 1)))) (cu (rQ (eC (.int 1)))))) (ax 8) bE (ay gD 1 (ae (aa 8) af)) false) af)))
 (aE (aY 7 (fZ (ae (ay jM 1 (ae (cf (o7 (aW 1 (aa 2)) (ae (eC (.str " ")) af)) (eC (.int 2))) af)) (ae (aa 5) (ae (aa 6) af)))))
 (aE (cj (fU (dP (dm (ay gE 1 (ae (aa 4) af)))) (fU (dP (dm (ay iQ 2 (ae (aa 4) (ae (aa 7) af))))) (bM (e2 dE (ay jL 2 (ae (aa 4) (ae (aa 7) af))) (aa 0))))) tL cz)
 (aS (fZ (ae (aa 4) (ae (aa 7) af)))))))))))
def mO:=bU 8 (Hi)
theorem jt:ah ["text",le,"places_at","begins_at",be,"ways","begins",ol] ["text"] (bh (top 41)):=cH (by decide +kernel)
abbrev nS:List Str:=["text",le,"places_at","begins_at",be,"ways","begins",ol,"line"]
theorem pe:(nS).Nodup:=by decide +kernel
theorem Uy(B:Bt mg)(wA:aw P w K mg base 1 "line_beginning" 2 mM)(nT:aw P w K mg base 2 "numbers_of" 1 gD)(wB:aw P w K mg base 1 "way_of" 1 nR)(sx:aw P w K mg base 1 "number_of" 1 jM)(wC:aw P w K mg base 4 "is_ladder" 1 gE)(wD:aw P w K mg base 8 "is_chart" 2 iQ)(wF:aw P w K mg base 2 "written" 2 jL)(a:At K mg "read" (top 41) ["text"]):aw P w K mg base 9 "read" 1 (mO):=
 aw.cx a jt λ_ _ _ _ _ _ _ hr=>
  aN (bP (i:=1) jt.nd (yF (aq 0 rfl rfl) (ao fm aj gf)))
  (aN (bP (i:=2) jt.nd (aQ wA hr (aG 1 rfl rfl (ao fm aj gf))))
  (aN (bP (i:=3) jt.nd (aQ wA hr (aG 1 rfl rfl (ao fm aj gf))))
  (aN (bP (i:=4) jt.nd (ka B.aC Qj (ao (eQ (k:=1) (N':=nS) false rfl (eI (oS (aq 1 rfl rfl) (eA aU) (eA (aq 2 rfl rfl)))) (λ_ _ _ _=>bA (i:=8) (show 8<=8 by decide) pe rfl (Or.inl rfl) (Or.inr rfl)) (λ_ _ _ _=>dQ) (λ_ _ _ _=>aQ nT hr (ao (bu (qv 8)) aj bV))) aj jr)))
  (aN (bP (i:=5) jt.nd (ka B.aC Qj (ao (eQ (k:=1) (N':=nS) false rfl (eI (oS (aq 1 rfl rfl) (eA (cS (aq 2 rfl rfl) aU)) (eA (aq 3 rfl rfl)))) (λ_ _ _ _=>bA (i:=8) (show 8<=8 by decide) pe rfl (Or.inl rfl) (Or.inr rfl)) (λ_ _ _ _=>dQ) (λ_ _ _ _=>aQ wB hr (ao (aQ nT hr (ao (bu (qv 8)) aj bV)) aj b7))) aj jr)))
  (aN (bP (i:=6) jt.nd (ka B.aC Qj (ao (eQ (k:=1) (N':=nS) false rfl (eI (oS (aq 1 rfl rfl) (eA (cS (aq 3 rfl rfl) aU)) (eA (Bf aU)))) (λ_ _ _ _=>bA (i:=8) (show 8<=8 by decide) pe rfl (Or.inl rfl) (Or.inr rfl)) (λ_ _ _ _=>dQ) (λ_ _ _ _=>aQ nT hr (ao (bu (qv 8)) aj bV))) aj jr)))
  (aN (bP (i:=7) jt.nd (ma (ao (aQ sx hr (ao (fY (BK (cO (ql 1 rfl rfl) (aq 2 rfl rfl)) (ao fm aj gf)) aU) aj g_)) (aG 5 rfl rfl (aG 6 rfl rfl aj)) b7)))
  (aN (dH (lD (j5 (ir (f9 (aQ wC hr (aG 4 rfl rfl aj)))) (j5 (ir (f9 (aQ wD hr (aG 4 rfl rfl (aG 7 rfl rfl aj))))) (la (ml hr (aQ wF hr (aG 4 rfl rfl (aG 7 rfl rfl aj))) (aq 0 rfl rfl)))))) (aL Bj) dG)
  (aL (bj (ma (aG 4 rfl rfl (aG 7 rfl rfl aj))))))))))))
def Cs:cY:=jG (aY 1 (nI (aa 0) (ae (eC (.str "\n")) af))) (ly (iM ub 2 (ae (aa 1) (ae (eC (.str "places")) af))) (jG (aY 2 (ay mM 2 (ae (aa 1) (ae (eC (.str "places")) af)))) (ly (iM ub 2 (ae (aa 1) (ae (eC (.str "begins")) af))) (jG (aY 3 (ay mM 2 (ae (aa 1) (ae (eC (.str "begins")) af)))) (ly (oY 1 (bH (js (aa 1) (cu (eC (.int 1))) (cu (aa 2)))) (ax 8) bE (ay gD 1 (ae (aa 8) af)) (iM kT 1 (ae (aa 8) af))) (jG (aY 4 (fV (ae (cA 1 (bH (js (aa 1) (cu (eC (.int 1))) (cu (aa 2)))) (ax 8) bE (ay gD 1 (ae (aa 8) af)) false) af))) (ly (oY 1 (bH (js (aa 1) (cu (e2 bG (aa 2) (eC (.int 1)))) (cu (aa 3)))) (ax 8) bE (ay nR 1 (ae (ay gD 1 (ae (aa 8) af)) af)) (iM kT 1 (ae (aa 8) af))) (jG (aY 5 (fV (ae (cA 1 (bH (js (aa 1) (cu (e2 bG (aa 2) (eC (.int 1)))) (cu (aa 3)))) (ax 8) bE (ay nR 1 (ae (ay gD 1 (ae (aa 8) af)) af)) false) af))) (ly (oY 1 (bH (js (aa 1) (cu (e2 bG (aa 3) (eC (.int 1)))) (cu (rQ (eC (.int 1)))))) (ax 8) bE (ay gD 1 (ae (aa 8) af)) (iM kT 1 (ae (aa 8) af))) (jG (aY 6 (fV (ae (cA 1 (bH (js (aa 1) (cu (e2 bG (aa 3) (eC (.int 1)))) (cu (rQ (eC (.int 1)))))) (ax 8) bE (ay gD 1 (ae (aa 8) af)) false) af))) (ly (iM nQ 1 (ae (cf (o7 (aW 1 (aa 2)) (ae (eC (.str " ")) af)) (eC (.int 2))) af)) (jG (aY 7 (fZ (ae (ay jM 1 (ae (cf (o7 (aW 1 (aa 2)) (ae (eC (.str " ")) af)) (eC (.int 2))) af)) (ae (aa 5) (ae (aa 6) af))))) (oU (fU (dP (dm (ay gE 1 (ae (aa 4) af)))) (fU (dP (dm (ay iQ 2 (ae (aa 4) (ae (aa 7) af))))) (bM (e2 dE (ay jL 2 (ae (aa 4) (ae (aa 7) af))) (aa 0))))) (yy "NoText") yx)))))))))))))
def lG:List D->Option Str:=fnX 8 Cs
theorem Uz(B:Bt mg)(T:Xt K mg)(nT:aw P w K mg base 2 "numbers_of" 1 gD)(wB:aw P w K mg base 1 "way_of" 1 nR)(wC:aw P w K mg base 4 "is_ladder" 1 gE)(wD:aw P w K mg base 8 "is_chart" 2 iQ)(wF:aw P w K mg base 2 "written" 2 jL)(sx:aw P w K mg base 1 "number_of" 1 jM)(wA:aw P w K mg base 1 "line_beginning" 2 mM)(Hj:gR P w K mg base 1 "line_beginning" 2 ub)(Ct:gR P w K mg base 2 "numbers_of" 1 kT)(Ck:gR P w K mg base 1 "number_of" 1 nQ)(a:At K mg "read" (top 41) ["text"]):gR P w K mg base 9 "read" 1 lG:=
 gR.cx (k:=8) a jt λ_ _ _ _ _ _ _ hr=>
  oV (bP (i:=1) jt.nd (yF (aq 0 rfl rfl) (ao fm aj gf))) (tV (lz (tW (Bz Hj hr (by decide) (aG 1 rfl rfl (ao fm aj gf))))) (oV (bP (i:=2) jt.nd (aQ wA hr (aG 1 rfl rfl (ao fm aj gf)))) (tV (lz (tW (Bz Hj hr (by decide) (aG 1 rfl rfl (ao fm aj gf))))) (oV (bP (i:=3) jt.nd (aQ wA hr (aG 1 rfl rfl (ao fm aj gf)))) (tV (lz (tW (yC B.aC Qj (yA (N':=nS) ⟨rfl,by decide +kernel,rfl,rfl,rfl⟩ (eI (oS (aq 1 rfl rfl) (eA aU) (eA (aq 2 rfl rfl)))) (λ_ _ _ _=>bA (i:=8) (show 8<=8 by decide) pe rfl (Or.inl rfl) (Or.inr rfl)) (λ_ _ _ _=>dQ) (λ_ _ _ _=>aQ nT hr (ao (bu (qv 8)) aj bV)) (λ_ _ _ _=>yB Ct hr (by decide) (ao (bu (qv 8)) aj bV)))))) (oV (bP (i:=4) jt.nd (ka B.aC Qj (ao (eQ (k:=1) (N':=nS) false rfl (eI (oS (aq 1 rfl rfl) (eA aU) (eA (aq 2 rfl rfl)))) (λ_ _ _ _=>bA (i:=8) (show 8<=8 by decide) pe rfl (Or.inl rfl) (Or.inr rfl)) (λ_ _ _ _=>dQ) (λ_ _ _ _=>aQ nT hr (ao (bu (qv 8)) aj bV))) aj jr))) (tV (lz (tW (yC B.aC Qj (yA (N':=nS) ⟨rfl,by decide +kernel,rfl,rfl,rfl⟩ (eI (oS (aq 1 rfl rfl) (eA (cS (aq 2 rfl rfl) aU)) (eA (aq 3 rfl rfl)))) (λ_ _ _ _=>bA (i:=8) (show 8<=8 by decide) pe rfl (Or.inl rfl) (Or.inr rfl)) (λ_ _ _ _=>dQ) (λ_ _ _ _=>aQ wB hr (ao (aQ nT hr (ao (bu (qv 8)) aj bV)) aj b7)) (λ_ _ _ _=>PH wB hr (by decide) (FG (yB Ct hr (by decide) (ao (bu (qv 8)) aj bV)))))))) (oV (bP (i:=5) jt.nd (ka B.aC Qj (ao (eQ (k:=1) (N':=nS) false rfl (eI (oS (aq 1 rfl rfl) (eA (cS (aq 2 rfl rfl) aU)) (eA (aq 3 rfl rfl)))) (λ_ _ _ _=>bA (i:=8) (show 8<=8 by decide) pe rfl (Or.inl rfl) (Or.inr rfl)) (λ_ _ _ _=>dQ) (λ_ _ _ _=>aQ wB hr (ao (aQ nT hr (ao (bu (qv 8)) aj bV)) aj b7))) aj jr))) (tV (lz (tW (yC B.aC Qj (yA (N':=nS) ⟨rfl,by decide +kernel,rfl,rfl,rfl⟩ (eI (oS (aq 1 rfl rfl) (eA (cS (aq 3 rfl rfl) aU)) (eA (Bf aU)))) (λ_ _ _ _=>bA (i:=8) (show 8<=8 by decide) pe rfl (Or.inl rfl) (Or.inr rfl)) (λ_ _ _ _=>dQ) (λ_ _ _ _=>aQ nT hr (ao (bu (qv 8)) aj bV)) (λ_ _ _ _=>yB Ct hr (by decide) (ao (bu (qv 8)) aj bV)))))) (oV (bP (i:=6) jt.nd (ka B.aC Qj (ao (eQ (k:=1) (N':=nS) false rfl (eI (oS (aq 1 rfl rfl) (eA (cS (aq 3 rfl rfl) aU)) (eA (Bf aU)))) (λ_ _ _ _=>bA (i:=8) (show 8<=8 by decide) pe rfl (Or.inl rfl) (Or.inr rfl)) (λ_ _ _ _=>dQ) (λ_ _ _ _=>aQ nT hr (ao (bu (qv 8)) aj bV))) aj jr))) (tV (lz (tW (PF (FG (Bz Ck hr (by decide) (ao (fY (BK (cO (ql 1 rfl rfl) (aq 2 rfl rfl)) (ao fm aj gf)) aU) aj g_)))))) (oV (bP (i:=7) jt.nd (ma (ao (aQ sx hr (ao (fY (BK (cO (ql 1 rfl rfl) (aq 2 rfl rfl)) (ao fm aj gf)) aU) aj g_)) (aG 5 rfl rfl (aG 6 rfl rfl aj)) b7))) (lz (Fj (lD (j5 (ir (f9 (aQ wC hr (aG 4 rfl rfl aj)))) (j5 (ir (f9 (aQ wD hr (aG 4 rfl rfl (aG 7 rfl rfl aj))))) (la (ml hr (aQ wF hr (aG 4 rfl rfl (aG 7 rfl rfl aj))) (aq 0 rfl rfl)))))) (lz (Fm hr T.gj)) Fi))))))))))))))
def Hk:aH:=aE (aY 1 (eC .aO))
 (aE (aY 2 (eC .aO))
 (aE (vP [ge] (aY 2 (ay mO 1 (ae (aa 0) af))) (rZ lG 1 (ae (aa 0) af)) 3 1)
 (aE (cj (bM (e2 yu (aa 1) (eC .aO))) (aE (vC (aa 2) (kN (dz (ax 4) (dz (ax 5) jC))))
 (aS (gz (e2 rP (ay gE 1 (ae (aa 4) af)) (eC (.bl true))) (gz (e2 rP (ay iQ 2 (ae (aa 4) (ae (aa 5) af))) (eC (.bl true))) (e2 eZ (ay qw 2 (ae (aa 4) (ae (aa 5) af))) (aa 0)))))) cz)
 (aE (aY 6 (cF (ae (oP [ge] "NoHouse" (aa 1)) (ae (oP [ge] "NoMap" (aa 1)) (ae (oP [ge] "NoPlace" (aa 1)) (ae (oP [ge] "NoRule" (aa 1)) af))))))
 (aE (iu (rT 6 (cF (ae (oP [ge] "NoStep" (aa 1)) (ae (oP [ge] "TooGreat" (aa 1)) af)))))
 (aS (gz (oP [ge] "NoText" (aa 1)) (gz (Bv (aa 1)) (e2 eZ (Bx (aa 6) (ae (eC (.bl true)) af)) (eC (.int 0)))))))))))
def ud:=bU 7 (Hk)
theorem qy:ah [bn,"_law_kept","_law_answer","e",ap,ca,"_law_kinds"] [bn] (bh (top 63)):=cH (by decide +kernel)
theorem UA(B:Bt mg)(T:Xt K mg)(Cu:aw P w K mg base 9 "read" 1 mO)(wC:aw P w K mg base 4 "is_ladder" 1 gE)(wD:aw P w K mg base 8 "is_chart" 2 iQ)(Cv:aw P w K mg base 1 "_law_text" 2 qw)(UB:gR P w K mg base 9 "read" 1 lG)(a:At K mg "_law_holds" (top 63) [bn]):aw P w K mg base 10 "_law_holds" 1 (ud):=
 aw.cx a qy λ_ _ _ _ _ _ _ hr=>
  aN (bP (i:=1) qy.nd AG)
  (aN (bP (i:=2) qy.nd AG)
  (aN (PV (ie:=3) (ik:=1) T.u (aL (bP (i:=2) qy.nd (aQ Cu hr (aG 0 rfl rfl aj)))) (PL (PM UB hr (by decide) (aG 0 rfl rfl aj))) qy.nd rfl rfl)
  (aN (dH (Pl (aq 1 rfl rfl) AG) (aN (OE (aq 2 rfl rfl) (vt (n:=2) rfl (lj (bA (i:=4) (show 0<=4 by decide) qy.nd rfl (Or.inl rfl)) (lj (bA (i:=5) (show 0<=5 by decide) qy.nd rfl (Or.inl rfl)) vq)) Bd))
  (aL (bj (kM (EW (aQ wC hr (aG 4 rfl rfl aj)) fz) (kM (EW (aQ wD hr (aG 4 rfl rfl (aG 5 rfl rfl aj))) fz) (mn (yd hr (aQ Cv hr (aG 4 rfl rfl (aG 5 rfl rfl aj))) (aq 0 rfl rfl)))))))) dG)
  (aN (bP (i:=6) qy.nd (eh (ao (rX T.kR B.au (aq 1 rfl rfl)) (ao (rX T.o_ B.au (aq 1 rfl rfl)) (ao (rX T.kS B.au (aq 1 rfl rfl)) (ao (rX T.mJ B.au (aq 1 rfl rfl)) aj b7) b7) b7) b7)))
  (aN (kJ (Bi (ql 6 rfl rfl) (eh (ao (rX T.mK B.au (aq 1 rfl rfl)) (ao (rX T.jJ B.au (aq 1 rfl rfl)) aj b7) b7))))
  (aL (bj (kM (rX T.mL B.au (aq 1 rfl rfl)) (kM (Pj B.au B.iA (aq 1 rfl rfl)) (mn (yd hr (Px hr (aq 6 rfl rfl) (ao fz aj gf)) aU)))))))))))
def Cw:aH:=aE (aY 3 (e2 g9 (aa 1) (e2 bG (eB oZ (ae (aa 0) af)) (eC (.int 1)))))
 (aE (aY 4 (vU 2 (e2 g9 (e2 j4 (aa 1) (eC (.int 1000))) (eB oZ (ae (aa 2) af)))))
 (aE (aY 5 (e2 bG (e2 bG (aa 3) (eC (.int 1))) (e2 g9 (e2 j4 (aa 1) (eC (.int 7))) (eC (.int 9)))))
 (aE (aY 6 (e2 g9 (e2 j4 (aa 1) (eC (.int 100000))) (eC (.int 8))))
 (aE (cj (bM (e2 jB (aa 6) (eC (.int 2)))) (aS (e2 hJ (e2 hJ (gS (aa 0) gA (cu (aa 3))) (aa 4)) (gS (aa 0) (cu (aa 3)) gA))) cz)
 (aE (cj (bM (e2 eZ (aa 6) (eC (.int 2)))) (aS (e2 hJ (gS (aa 0) gA (cu (aa 3))) (gS (aa 0) (cu (e2 bG (aa 3) (eC (.int 1)))) gA))) cz)
 (aE (cj (bM (e2 jB (aa 6) (eC (.int 5)))) (aS (e2 hJ (e2 hJ (gS (aa 0) gA (cu (aa 3))) (aa 4)) (gS (aa 0) (cu (e2 bG (aa 3) (eC (.int 1)))) gA))) cz)
 (aE (cj (bM (e2 eZ (aa 6) (eC (.int 5)))) (aS (e2 hJ (gS (aa 0) gA (cu (aa 3))) (gS (aa 0) (cu (aa 5)) gA))) cz)
 (aE (cj (bM (e2 eZ (aa 6) (eC (.int 6)))) (aS (e2 hJ (gS (aa 0) gA (cu (aa 5))) (gS (aa 0) (cu (aa 3)) gA))) cz)
 (aS (cf (cF (ae (e2 hJ (aa 0) (eC (.str " "))) (ae (e2 hJ (eC (.str " ")) (aa 0)) (ae (e2 hJ (gS (aa 0) (cu (aa 3)) gA) (gS (aa 0) gA (cu (aa 3)))) (ae (eC (.str "")) (ae (e2 hJ (aa 0) (aa 0)) af)))))) (e2 g9 (aa 1) (eC (.int 5)))))))))))))
def wG:=bU 7 (Cw)
theorem wH:ah [bn,lc,"_law_signs",bv,"_law_sign","_law_on","_law_way"] [bn,lc,"_law_signs"] (bh (top 61)):=cH (by decide +kernel)
theorem UC(B:Bt mg)(a:At K mg "_law_spoilt" (top 61) [bn,lc,"_law_signs"]):aw P w K mg base 1 "_law_spoilt" 3 (wG):=
 aw.cx a wH λ_ _ _ _ _ _ _ hr=>
  aN (bP (i:=3) wH.nd (l_ (aq 1 rfl rfl) (cS (Fy B.aF (aG 0 rfl rfl aj)) aU)))
  (aN (bP (i:=4) wH.nd (Rj (ql 2 rfl rfl) (l_ (tH (aq 1 rfl rfl) aU) (Fy B.aF (aG 2 rfl rfl aj)))))
  (aN (bP (i:=5) wH.nd (cS (cS (aq 3 rfl rfl) aU) (l_ (tH (aq 1 rfl rfl) aU) aU)))
  (aN (bP (i:=6) wH.nd (l_ (tH (aq 1 rfl rfl) aU) aU))
  (aN (dH (tI (aq 6 rfl rfl) aU) (aL (bj (kg (kg (lC (aq 0 rfl rfl) ke (eA (aq 3 rfl rfl))) (aq 4 rfl rfl)) (lC (aq 0 rfl rfl) (eA (aq 3 rfl rfl)) ke)))) dG)
  (aN (dH (oF hr (aq 6 rfl rfl) aU) (aL (bj (kg (lC (aq 0 rfl rfl) ke (eA (aq 3 rfl rfl))) (lC (aq 0 rfl rfl) (eA (cS (aq 3 rfl rfl) aU)) ke)))) dG)
  (aN (dH (tI (aq 6 rfl rfl) aU) (aL (bj (kg (kg (lC (aq 0 rfl rfl) ke (eA (aq 3 rfl rfl))) (aq 4 rfl rfl)) (lC (aq 0 rfl rfl) (eA (cS (aq 3 rfl rfl) aU)) ke)))) dG)
  (aN (dH (oF hr (aq 6 rfl rfl) aU) (aL (bj (kg (lC (aq 0 rfl rfl) ke (eA (aq 3 rfl rfl))) (lC (aq 0 rfl rfl) (eA (aq 5 rfl rfl)) ke)))) dG)
  (aN (dH (oF hr (aq 6 rfl rfl) aU) (aL (bj (kg (lC (aq 0 rfl rfl) ke (eA (aq 5 rfl rfl))) (lC (aq 0 rfl rfl) (eA (aq 3 rfl rfl)) ke)))) dG)
  (aL (bj (fY (eh (ao (kg (aq 0 rfl rfl) fm) (ao (kg fm (aq 0 rfl rfl)) (ao (kg (lC (aq 0 rfl rfl) (eA (aq 3 rfl rfl)) ke) (lC (aq 0 rfl rfl) ke (eA (aq 3 rfl rfl)))) (ao fm (ao (kg (aq 0 rfl rfl) (aq 0 rfl rfl)) aj ff) gf) ff) ff) ff)) (l_ (aq 1 rfl rfl) aU))))))))))))
abbrev Hl:aH:=cj (dP (dm (ay ud 1 (ae (ay wG 3 (ae (aa 3) (ae (ay dS 3 (ae (aa 0) (ae (e2 bG (eC (.int 200)) (aa 4)) (ae (e2 Bh (eC (.int 10)) (eC (.int 9))) af)))) (ae (eC (.str " 0123456789\nplacesbeginladder")) af)))) af)))) (aS (eC (.bl false))) (cz)
def Hm:aH:=aE (aY 1 (ay wa 2 (ae (aa 0) (ae (eC (.int 0)) af))))
 (aE (aY 2 (ay wb 4 (ae (aa 0) (ae (eC (.int 20)) (ae (aa 1) (ae (eC (.bl false)) af))))))
 (aE (aY 3 (ay qw 2 (ae (aa 1) (ae (aa 2) af))))
 (aE (cj (fU (bM (e2 dE (ay jL 2 (ae (aa 1) (ae (aa 2) af))) (aa 3))) (bM (e2 dE (ay mO 1 (ae (aa 3) af)) (fZ (ae (aa 1) (ae (aa 2) af)))))) (aS (eC (.bl false))) cz)
 (aE (dy (bW (ae (eC (.int 3)) af)) (ax 4) Hl)
 (aS (eC (.bl true)))))))
def sG:=bU 5 (Hm)
theorem wI:ah [bd,ap,ca,bn,li] [bd] (bh (top 64)):=cH (by decide +kernel)
theorem UD(B:Bt mg)(UE:aw P w K mg base 4 "_law_ladder" 2 wa)(UG:aw P w K mg base 5 "_law_chart" 4 wb)(Cv:aw P w K mg base 1 "_law_text" 2 qw)(wF:aw P w K mg base 2 "written" 2 jL)(Cu:aw P w K mg base 9 "read" 1 mO)(UH:aw P w K mg base 10 "_law_holds" 1 ud)(UI:aw P w K mg base 1 "_law_spoilt" 3 wG)(gC:aw P w K mg base 2 "_law_pick" 3 dS)(a:At K mg "_law_once" (top 64) [bd]):aw P w K mg base 11 "_law_once" 1 (sG):=
 aw.cx a wI λ_ _ _ _ _ _ _ hr=>
  aN (bP (i:=1) wI.nd (aQ UE hr (aG 0 rfl rfl (cP aj))))
  (aN (bP (i:=2) wI.nd (aQ UG hr (aG 0 rfl rfl (cP (aG 1 rfl rfl (ao fz aj gf))))))
  (aN (bP (i:=3) wI.nd (aQ Cv hr (aG 1 rfl rfl (aG 2 rfl rfl aj))))
  (aN (dH (lD (j5 (ml hr (aQ wF hr (aG 1 rfl rfl (aG 2 rfl rfl aj))) (aq 3 rfl rfl)) (la (ml hr (aQ Cu hr (aG 3 rfl rfl aj)) (ma (aG 1 rfl rfl (aG 2 rfl rfl aj))))))) (aL (bj fz)) dG)
  (aN (fQ Qv rfl (eP B.av (cP aj)) (bA (i:=4) (show 0<=4 by decide) wI.nd rfl (Or.inl rfl)) (aL (dH (ir (f9 (aQ UH hr (ao (aQ UI hr (aG 3 rfl rfl (ao (aQ gC hr (aG 0 rfl rfl (ao (cS aU (aq 4 rfl rfl)) (ao (OO aU aU) aj ff) ff))) (ao fm aj gf) b7))) aj b7)))) (aL (bj fz)) dG)))
  (aL (bj fz))))))
abbrev wJ:aH:=aE (cj (dP (dm (ay sG 1 (ae (cA 1 (bH (aa 0)) (ax 2) bE (e2 bG (aa 2) (e2 j3 (eC (.int 7919)) (aa 1))) false) af)))) (aS (eC (.bl false))) cz)
 (cj (bM (e2 eZ (aa 0) (cF af))) Ek cz)
def Hn:aH:=aE (dy (bW (ae (eC (.int 4)) af)) (ax 1) wJ)
 (aS (eC (.bl true)))
def ue:=bU 2 (Hn)
theorem Ho:ah [bd,"_law_turn"] [bd] (bh (top 65)):=cH (by decide +kernel)
abbrev Hq:List Str:=[bd,"_law_turn",lc]
theorem UJ:(Hq).Nodup:=by decide +kernel
theorem UK(B:Bt mg)(UL:aw P w K mg base 11 "_law_once" 1 sG){f:Addr}{fd:FuncData}(F:lT K "law" "law" (top 65) f fd):eG P w K mg base jl 12 f fd [bd] (kH K 1 ue):=
 Ru (k:=11) F Ho λ_ _ _ _ _ _ _ hr=>
  aN (fQ Qv rfl (eP B.av (cP aj)) (bA (i:=1) (show 0<=1 by decide) Ho.nd rfl (Or.inr rfl)) (aN (dH (ir (f9 (aQ UL hr (ao (eQ (k:=1) (N':=Hq) false rfl (eI (aq 0 rfl rfl)) (λ_ _ _ _=>bA (i:=2) (show 2<=2 by decide) UJ rfl (Or.inl rfl) (Or.inr rfl)) (λ_ _ _ _=>dQ) (λ_ _ _ _=>cS (bu (qv 2)) (l9 aU (bu (qv 1))))) aj jr)))) (aL (bj fz)) dG)
  (aL (dH (oF hr (aq 0 rfl rfl) (eh aj)) (aL Nm) dG))))
  (aL (bj fz))
end
abbrev fT (ns:List Int):D:=.lst (ns.map D.int)
abbrev n0 (l:List Int):OD:=some (fT l,0)
def yW (ns:List Int)(k:Int):Int:=if k<ns.length then ns.getD k.toNat 0 else if ns=[]then 0 else ns.getD (k % ns.length).toNat 0*31+k
theorem Hr{ns:List Int}(h0:0<=k)(h:k<ns.length):L2.dC (ns.map D.int) k=some (.int (ns.getD k.toNat 0)):=by
 obtain⟨m,rfl⟩:∃ m:Nat,k=Int.ofNat m:=⟨k.toNat,by show k=(k.toNat:Int);omega⟩;have hk:m<ns.length:=by have:(m:Int)<ns.length:=h;omega
 apply BN;rw[QO,Qz hk];simp[hk]
theorem UM(ns:List Int):Sh 1 (fT ns):=.lst λd m=>by obtain⟨x,_,rfl⟩:=Qm.mp m;exact .int _
theorem Cy(ns:List Int):eZ (fT ns) (.lst [])=some (.bl (decide (ns=[]))):=by unfold eZ;rw[Qk ⟨(UM ns).ok,(BS []).ok⟩];cases ns<;>rfl
theorem UN(ns:List Int)(k:Int)(h0:0<=k):v7 [fT ns,.int k]=some (.int (yW ns k),9):=by
 unfold v7 F_ yW;by_cases h:k<ns.length
 .simp[h,Hr h0 h,e8,eX]
 .by_cases hn:ns=[]
  .subst hn;have h':¬ k<0:=by omega
   simp[h',e8,Cy]
  .have hp:(0:Int)<ns.length:=by have:=JH.mpr hn;omega
   have h1:=Yy k (Int.ne_of_gt hp);have h2:=JX k hp;have h3:=Hr h1 h2;have lY:=JH.mpr hn;simp[h,e8,eX,Cy,hn,lY,h3]
def qz (ns:List Int)(k:Int):Int:=(yW ns k+6151*(k+1))*40692 % 2147483399
def kq (ns:List Int)(k m:Int):Int:=(qz ns k*qz ns k+qz ns k / 31) % 2147483629 % m
theorem uf(ns:List Int)(k m:Int)(h0:0<=k)(hm:0<m):dS [fT ns,.int k,.int m]=some (.int (kq ns k m),9):=by
 have d0:0<=qz ns k:=Yy _ (by decide);have d1:qz ns k<2147483399:=JX _ (by decide);have g1:-18446744073709551616<qz ns k:=by omega
 have g2:qz ns k<18446744073709551616:=by omega
 have hd:(yW ns k+6151*(k+1))*40692 % 2147483399=qz ns k:=rfl;unfold dS Ga kq;simp[UN ns k h0,hm,hd,g1,g2]
theorem sH(ns:List Int)(k:Int){m:Int}(hm:0<m):0<=kq ns k m:=Yy _ (Int.ne_of_gt hm)
theorem ug(ns:List Int)(k:Int){m:Int}(hm:0<m):kq ns k m<m:=JX _ hm
def tf (rows:List (List Nat))(i j:Nat):Nat:=(rows.getD i []).getD j 0
def eS (rows:List (List Nat)):D:=b8 rows.length (tf rows)
def ch (n:Nat):List (List Nat):=(range n).map λi=>(range n).map λj=>max i j
def cp (a b:List (List Nat)):List (List Nat):=(range (a.length*b.length)).map λi=>(range (a.length*b.length)).map λj=>tf a (i / b.length) (j / b.length)*b.length+tf b (i % b.length) (j % b.length)
def sb (n:Nat):List (List Nat):=(range (n+2)).map λi=>(range (n+2)).map λj=>if i=0\/j=0\/i=j then max i j else n+1
def n5:List (List Nat):=[[0,1,2,3,4],[1,1,2,4,4],[2,2,2,4,4],[3,4,4,3,4],[4,4,4,4,4]]
def pf:List (List (List Nat)):=[ch 1,ch 2,ch 3,ch 4,ch 5,cp (ch 2) (ch 2),cp (ch 2) (ch 3),cp (ch 2) (ch 4),sb 0,sb 1,sb 2,sb 3,sb 4,cp (ch 2) (cp (ch 2) (ch 2)),n5]
theorem UO:jK [.int 1]=some (eS (ch 1),1):=by rfl
theorem uh:jK [.int 2]=some (eS (ch 2),1):=by rfl
theorem Hs:jK [.int 3]=some (eS (ch 3),1):=by rfl
theorem Ht:jK [.int 4]=some (eS (ch 4),1):=by rfl
theorem UP:jK [.int 5]=some (eS (ch 5),1):=by rfl
theorem UQ:pb [.int 0]=some (eS (sb 0),0):=by rfl
theorem UR:pb [.int 1]=some (eS (sb 1),0):=by rfl
theorem US:pb [.int 2]=some (eS (sb 2),0):=by rfl
theorem UT:pb [.int 3]=some (eS (sb 3),0):=by rfl
theorem UU:pb [.int 4]=some (eS (sb 4),0):=by rfl
theorem Hu:nK [eS (ch 2),eS (ch 2)]=some (eS (cp (ch 2) (ch 2)),0):=by rfl
theorem UW:nK [eS (ch 2),eS (ch 3)]=some (eS (cp (ch 2) (ch 3)),0):=by rfl
theorem UX:nK [eS (ch 2),eS (ch 4)]=some (eS (cp (ch 2) (ch 4)),0):=by rfl
theorem UY:nK [eS (ch 2),eS (cp (ch 2) (ch 2))]=some (eS (cp (ch 2) (cp (ch 2) (ch 2))),0):=by rfl
theorem UZ(ns:List Int)(t:Int)(h0:0<=t):∃ rows∈pf,∃ q,v_ [fT ns,.int t]=some (eS rows,q):=by
 have k0:=sH ns t (m:=9) (by decide);have k1:=ug ns t (m:=9) (by decide);have p0:=sH ns (t+1) (m:=5) (by decide);have p1:=ug ns (t+1) (m:=5) (by decide);have r0:=sH ns (t+1) (m:=3) (by decide);have r1:=ug ns (t+1) (m:=3) (by decide);have e9:=uf ns t 9 h0 (by decide);have e5:=uf ns (t+1) 5 (by omega) (by decide);have e3:=uf ns (t+1) 3 (by omega) (by decide);have mem:∀ i:Nat,i<15->pf.getD i []∈pf:=λi hi=>by rw[Zc,Qz (show i<pf.length from hi)];exact Ze _
 have hc:∀ p:Int,0<=p->p<5->∃ rows∈pf,jK [.int (1+p)]=some (eS rows,1):=λp a b=>by
  have:p=0\/p=1\/p=2\/p=3\/p=4:=by omega
  rcases this with rfl|rfl|rfl|rfl|rfl
  .exact⟨_,mem 0 (by decide),UO⟩
  .exact⟨_,mem 1 (by decide),uh⟩
  .exact⟨_,mem 2 (by decide),Hs⟩
  .exact⟨_,mem 3 (by decide),Ht⟩
  .exact⟨_,mem 4 (by decide),UP⟩
 have hs:∀ p:Int,0<=p->p<5->∃ rows∈pf,pb [.int p]=some (eS rows,0):=λp a b=>by
  have:p=0\/p=1\/p=2\/p=3\/p=4:=by omega
  rcases this with rfl|rfl|rfl|rfl|rfl
  .exact⟨_,mem 8 (by decide),UQ⟩
  .exact⟨_,mem 9 (by decide),UR⟩
  .exact⟨_,mem 10 (by decide),US⟩
  .exact⟨_,mem 11 (by decide),UT⟩
  .exact⟨_,mem 12 (by decide),UU⟩
 have hp:∀ r:Int,0<=r->r<3->∃ x mP rows,eX (.lst [.int 2,.int 3,.int 4]) r=some (.int x)/\jK [.int x]=some (eS mP,1)/\rows∈pf/\nK [eS (ch 2),eS mP]=some (eS rows,0):=λr a b=>by
  have:r=0\/r=1\/r=2:=by omega
  rcases this with rfl|rfl|rfl
  .exact⟨2,_,_,rfl,uh,mem 5 (by decide),Hu⟩
  .exact⟨3,_,_,rfl,Hs,mem 6 (by decide),UW⟩
  .exact⟨4,_,_,rfl,Ht,mem 7 (by decide),UX⟩
 unfold v_ Ge;generalize kq ns t 9=k at *
 generalize kq ns (t+1) 5=p at *
 generalize kq ns (t+1) 3=r at *
 have lt:∀ c:Int,bM (e2 jB (aa 2) (eC (.int c))) [n0 ns,some (.int t,9),some (.int k,9),none]=some (decide (k<c),[n0 ns,some (.int t,9),some (.int k,9),none]):=λc=>kn (dR (q:=9) (q':=9) rfl rfl rfl);have f:∀ {c:Int} {x:aH},¬ k<c->cj (bM (e2 jB (aa 2) (eC (.int c)))) x cz [n0 ns,some (.int t,9),some (.int k,9),none]=some (.nx [n0 ns,some (.int t,9),some (.int k,9),none]):=λ{c x} h=>(o9 ((lt c).trans (by rw[Zd h]))).trans rfl;have s2:∀ {k:Int},dS [fT ns,.int t,.int 9]=some (.int k,9)->aY 2 (ay dS 3 (ae (aa 0) (ae (aa 1) (ae (eC (.int 9)) af)))) [n0 ns,some (.int t,9),none,none]=some (.nx [n0 ns,some (.int t,9),some (.int k,9),none]):=λe=>fI (bY (ds:=[fT ns,.int t,.int 9]) rfl rfl e) rfl;have tt:∀ {c:Int},k<c->bM (e2 jB (aa 2) (eC (.int c))) [n0 ns,some (.int t,9),some (.int k,9),none]=some (true,[n0 ns,some (.int t,9),some (.int k,9),none]):=λ{c} h=>(lt c).trans (by rw[Qt h]);by_cases h3:k<3
 .obtain⟨rows,hm,e⟩:=hc p p0 p1;exact⟨rows,hm,1,dJ ((aZ (s2 e9)).trans (kh ((qp (tt h3)).trans (fR (bY (ds:=[.int (1+p)]) (cB (dR (q:=9) rfl (bY (ds:=[fT ns,.int (t+1),.int 5]) rfl rfl e5) rfl)) rfl e)))))⟩
 by_cases h5:k<5
 .obtain⟨x,mP,rows,ea,e1,hm,rO⟩:=hp r r0 r1;have ei:cf (cF (ae (eC (.int 2)) (ae (eC (.int 3)) (ae (eC (.int 4)) af)))) (ay dS 3 (ae (aa 0) (ae (e2 bG (aa 1) (eC (.int 1))) (ae (eC (.int 3)) af)))) [n0 ns,some (.int t,9),some (.int k,9),none]=some (.int x,9,[n0 ns,some (.int t,9),some (.int k,9),none]):=by have ek:=bY (F:=dS) (n:=3) (g:=ae (aa 0) (ae (e2 bG (aa 1) (eC (.int 1))) (ae (eC (.int 3)) af))) (ρ:=[n0 ns,some (.int t,9),some (.int k,9),none]) (ds:=[fT ns,.int (t+1),.int 3]) rfl rfl e3;unfold cf;rw[show cF (ae (eC (.int 2)) (ae (eC (.int 3)) (ae (eC (.int 4)) af))) [n0 ns,some (.int t,9),some (.int k,9),none]=some (.lst [.int 2,.int 3,.int 4],1,[n0 ns,some (.int t,9),some (.int k,9),none])from rfl];simp only[ek,ea];rfl
  exact⟨rows,hm,0,dJ ((aZ (s2 e9)).trans ((aZ (f h3)).trans (kh ((qp (tt h5)).trans (fR (bY (eE (bY (ds:=[.int 2]) rfl rfl uh) (cB (bY (cB ei) rfl e1))) rfl rO))))))⟩
 by_cases h7:k<7
 .obtain⟨rows,hm,e⟩:=hs p p0 p1;exact⟨rows,hm,0,dJ ((aZ (s2 e9)).trans ((aZ (f h3)).trans ((aZ (f h5)).trans (kh ((qp (tt h7)).trans (fR (bY (cB (bY (ds:=[fT ns,.int (t+1),.int 5]) rfl rfl e5)) rfl e)))))))⟩
 have:k=7\/k=8:=by omega
 rcases this with rfl|rfl
 .exact⟨_,mem 13 (by decide),0,dJ ((aZ (s2 e9)).trans ((aZ (f h3)).trans ((aZ (f h5)).trans ((aZ (f h7)).trans (kh ((qp ((kn (dR (q:=9) (q':=9) rfl rfl (vX 7 7))).trans rfl)).trans (fR (bY (eE (bY (ds:=[.int 2]) rfl rfl uh) (cB (bY (eE (bY (ds:=[.int 2]) rfl rfl uh) (cB (bY (ds:=[.int 2]) rfl rfl uh))) rfl Hu))) rfl UY))))))))⟩
 .exact⟨_,mem 14 (by decide),0,dJ ((aZ (s2 e9)).trans ((aZ (f h3)).trans ((aZ (f h5)).trans ((aZ (f h7)).trans ((aZ ((o9 ((kn (dR (q:=9) (q':=9) rfl rfl (vX 8 7))).trans rfl)).trans rfl)).trans rfl)))))⟩
theorem U0:∀ rows∈pf,B0 rows.length (tf rows)=true:=by decide +kernel
def pk (ns:List Int)(t:Int)(k m:Nat):Nat:=(kq ns (t+2+Int.ofNat k) (Int.ofNat m)).toNat
theorem Cz(ns:List Int)(t:Int)(k m:Nat)(h:0<m):pk ns t k m<m:=by have h1:=sH ns (t+2+Int.ofNat k) (m:=Int.ofNat m) (by show(0:Int)<m;omega);have h2:=ug ns (t+2+Int.ofNat k) (m:=Int.ofNat m) (by show(0:Int)<m;omega);have h3:(Int.ofNat m)=(m:Int):=rfl;unfold pk;omega
theorem U1(ns:List Int)(t:Int)(k m:Nat)(h:0<m):kq ns (t+2+Int.ofNat k) (Int.ofNat m)=Int.ofNat (pk ns t k m):=by have h1:=sH ns (t+2+Int.ofNat k) (m:=Int.ofNat m) (by show(0:Int)<m;omega);unfold pk;show _=((kq ns (t+2+Int.ofNat k) (Int.ofNat m)).toNat:Int);omega
section
variable (ns:List Int)(t:Int)(n:Nat)(B:Nat->Nat->Nat)(q:Nat)
theorem U2(h0:0<=t)(hn:n<=16):iK 1 (ax 8) bE (vj 3 (ae (ay dS 3 (ae (aa 0) (ae (e2 bG (e2 bG (aa 1) (eC (.int 2))) (aa 8)) (ae (bX 3) af)))) af)) false (cq n)
  [n0 ns,some (.int t,9),some (b8 n B,q),some (.lst (cq n),1),none,none,none,none] =
  some (aI ((range n).map (drawn (pk ns t) n)),[n0 ns,some (.int t,9),some (b8 n B,q),some (.lst [],1),none,none,none,none]):=by
 have hp:=Cz ns t;have h:=o8 (k:=1) (pt:=ax 8) (tt:=bE) (te:=vj 3 (ae (ay dS 3 (ae (aa 0) (ae (e2 bG (e2 bG (aa 1) (eC (.int 2))) (aa 8)) (ae (bX 3) af)))) af)) (deep:=false) (cq n)
  (λk=>[n0 ns,some (.int t,9),some (b8 n B,q),uL (dA (pk ns t) n k),none,none,none,none]) (λ_=>true) (λk=>(iD (drawn (pk ns t) n k))) (λk hk=>?_)
 .rw[dX]at h;have hl:dA (pk ns t) n n=[]:=Zx.mp (by rw[vY hp n (Qf n)];omega);rw[hl]at h;have e1:(range n).filter (λ_=>true)=range n:=by simp
  rw[e1]at h;simp only[aI,QG,Zn];exact h
 .rw[dX]at hk;have hl:=vY hp k (ZG hk);have Hv:0<(dA (pk ns t) n k).length:=by rw[hl];omega
  have e:=U1 ns t k _ Hv;have hj:=Cz ns t k _ Hv;have Hw:=uf ns (t+2+Int.ofNat k) (Int.ofNat (dA (pk ns t) n k).length) (by show 0<=t+2+(k:Int);omega) (by show(0:Int)<((dA (pk ns t) n k).length:Int);omega);have hs:seqIndex? (Int.ofNat (pk ns t k (dA (pk ns t) n k).length)) (aI (dA (pk ns t) n k)).length=some (pk ns t k (dA (pk ns t) n k).length):=(zX (yJ (by rw[gh];exact hj))).1;have hg:(aI (dA (pk ns t) n k))[pk ns t k (dA (pk ns t) n k).length]? = some (iD (drawn (pk ns t) n k)):=by rw[yI];unfold drawn;rw[Zc,Qz hj];rfl
  have hb:pk ns t k (dA (pk ns t) n k).length<=16:=by omega
  have he:(aI (dA (pk ns t) n k)).eraseIdx (pk ns t k (dA (pk ns t) n k).length)=aI (dA (pk ns t) n (k+1)):=by rw[dA,FR]
  refine⟨[n0 ns,some (.int t,9),some (b8 n B,q),uL (dA (pk ns t) n k),none,none,none,none,i9 k],_,by simp[cq],rfl,?_⟩;rw[Qk rfl];refine⟨9,[n0 ns,some (.int t,9),some (b8 n B,q),uL (dA (pk ns t) n (k+1)),none,none,none,none,i9 k],?_,by simp,by simp⟩;have b1:(-1000:Int)<=Int.ofNat (pk ns t k (dA (pk ns t) n k).length):=by show(-1000:Int)<=(pk ns t k (dA (pk ns t) n k).length:Int);omega
  have b2:Int.ofNat (pk ns t k (dA (pk ns t) n k).length)<=1000:=by show(pk ns t k (dA (pk ns t) n k).length:Int)<=1000;omega
  have uG:e8 (.lst (aI (dA (pk ns t) n k)))=some (dA (pk ns t) n k).length:=by simp[e8,gh]
  rw[e]at Hw;simp[-ofNat_eq_natCast,uG,Hw,hs,hg,he,b1,b2]
theorem U3(hn:n<=16)(x:OD):iK 1 (ax 8) bE (vm (cF (ae (eC (.int 0)) af)) (bX 2)) true ((range n).map λi=>bF n B i)
  [n0 ns,some (.int t,9),some (b8 n B,0),some (.lst [],1),x,none,none,none] =
  some ((range n).map λi=>bF n (λ_ _=>0) i,[n0 ns,some (.int t,9),some (b8 n B,0),some (.lst [],1),x,none,none,none]):=by
 have h:=o8 (k:=1) (pt:=ax 8) (tt:=bE) (te:=vm (cF (ae (eC (.int 0)) af)) (bX 2)) (deep:=true) ((range n).map λi=>bF n B i)
  (λ_=>[n0 ns,some (.int t,9),some (b8 n B,0),some (.lst [],1),x,none,none,none]) (λ_=>true) (λi=>bF n (λ_ _=>0) i) (λk hk=>?_)
 .rw[Qa,Q1,show(range n).filter (λ_=>true)=range n by simp]at h;exact h
 .refine⟨[n0 ns,some (.int t,9),some (b8 n B,0),some (.lst [],1),x,none,none,none,some (bF n B k,0)],_,by simp[bF],rfl,?_⟩;rw[Qk rfl];refine⟨1,[n0 ns,some (.int t,9),some (b8 n B,0),some (.lst [],1),x,none,none,none,some (bF n B k,0)],?_,by simp,by simp⟩;have z:bF n (λ_ _=>0) k=D.lst (replicate n [D.int 0]).flatten:=(RC n).symm;have b1:(-1000:Int)<=n:=by omega
  have b2:(n:Int)<=1000:=by omega
  have b3:n<=1000:=by omega
  rw[z];simp[vW,b1,b2,b3]
def gF (π ι:Nat->Nat)(i j a b:Nat):Nat:=if ι a<i\/(ι a=i/\ι b<j)then π (B (ι a) (ι b))else 0
abbrev sI:aH:=vo 5 (rN 4 (rM 6)) (rN 4 (rM 7)) (aW 4 (cf (aW 2 (aa 6)) (aa 7)))
section
variable {n B}{π ι:Nat->Nat}(cl:∀ i j,i<n->j<n->B i j<n)(h1:∀ i,i<n->π i<n)(h2:∀ i,i<n->ι i<n)(h3:∀ i,i<n->ι (π i)=i)(h4:∀ i,i<n->π (ι i)=i)
include cl h1 h2 h3 h4
theorem U4{f:Nat->Nat->Nat}(hi:i<n)(hj:j<n){y:OD} :
  sI [n0 ns,some (.int t,9),some (b8 n B,0),some (.lst [],1),uL ((range n).map π),some (b8 n f,2),i9 i,i9 j] =
  some (.nx [n0 ns,some (.int t,9),some (b8 n B,0),some (.lst [],1),uL ((range n).map π),some (b8 n (λa b=>if a=π i/\b=π j then π (B i j)else f a b),2),i9 i,i9 j]):=by
 have a1:=Rx (f:=B) hi;have a2:=Ry (f:=B) (i:=i) hj;have a3:eX (.lst (aI ((range n).map π))) (Int.ofNat (B i j))=some (iD (π (B i j))):=t6 (cl i j hi hj);have a4:eX (.lst (aI ((range n).map π))) (Int.ofNat i)=some (iD (π i)):=t6 hi;have a5:eX (.lst (aI ((range n).map π))) (Int.ofNat j)=some (iD (π j)):=t6 hj;have a6:iU ((range n).map λa=>bF n f a).length (Int.ofNat (π i))=some (π i):=yJ (by simpa using h1 i hi);have a7:((range n).map λa=>bF n f a)[π i]? = some (.lst (aI ((range n).map λb=>f (π i) b))):=by rw[QO,Zp (h1 i hi)];rfl
 have a8:iU (aI ((range n).map λb=>f (π i) b)).length (Int.ofNat (π j))=some (π j):=yJ (by simpa [gh]using h1 j hj);have a9:=Rz (n:=n) (f:=f) (a:=π i) (b:=π j) (v:=π (B i j));rw[<- a9];show sI [n0 ns,some (.int t,9),some (b8 n B,0),some (.lst [],1),uL ((range n).map π),some (.lst ((range n).map λa=>bF n f a),2),i9 i,i9 j]=_;unfold sI;simp only[vo,aW,cf,aa,rN,rM,List.getElem?_cons_succ,List.getElem?_cons_zero,D.cI,ZZ,a1,a2,a3,a4,a5,a6,a7,a8,ne_eq,not_true_eq_false,false_and,and_false,JQ,ZP,reduceCtorEq,Nat.not_lt_zero,Qx,bq,List.set_cons_succ,List.set_cons_zero]
abbrev kr (f:Nat->Nat->Nat)(x y:OD):aV:=[n0 ns,some (.int t,9),some (b8 n B,0),some (.lst [],1),uL ((range n).map π),some (b8 n f,2),x,y]
omit cl h1 h2 h3 h4
theorem qA(h:i<(cq n).length):(cq n)[i]=(iD i):=by simp[cq]
include cl h1 h2 h3 h4
theorem U5(hi:i<n)(hj:j<n):b8 n (λa b=>if a=π i/\b=π j then π (B i j)else gF B π ι i j a b)=b8 n (gF B π ι i (j+1)):=by
 refine yK λa b ha hb=>?_;unfold gF;by_cases h:a=π i/\b=π j
 .obtain⟨rfl,rfl⟩:=h;rw[Qk ⟨rfl,rfl⟩,h3 i hi,h3 j hj,Qk (.inr ⟨rfl,Zt _⟩)]
 .rw[Qw h];have:¬ (ι a=i/\ι b=j):=λ⟨e1,e2⟩=>h ⟨by rw[<- e1,h4 a ha],by rw[<- e2,h4 b hb]⟩;by_cases c:ι a<i\/ι a=i/\ι b<j
  .rw[Qk c,Qk (by omega)]
  .rw[Qw c,Qw (by omega)]
theorem U6:b8 n (gF B π ι i n)=b8 n (gF B π ι (i+1) 0):=by
 refine yK λa b ha hb=>?_;have:=h2 b hb;unfold gF;by_cases c:ι a<i\/ι a=i/\ι b<n
 .rw[Qk c,Qk (by omega)]
 .rw[Qw c,Qw (by omega)]
theorem U7(hn:n<=16)(hi:i<n)(y:OD):∃ y',fq (ax 7) sI (cq n) (kr ns t (n:=n) (B:=B) (π:=π) (gF B π ι i 0) ((i9 i)) y) =
  some (.nx (kr ns t (n:=n) (B:=B) (π:=π) (gF B π ι (i+1) 0) ((i9 i)) y')):=by
 obtain⟨aB,e,y',rfl⟩:=nJ (pt:=ax 7) (body:=sI) (cq n) (λj ρ=>∃ y,ρ=kr ns t (n:=n) (B:=B) (π:=π) (gF B π ι i j) ((i9 i)) y) (kr ns t (n:=n) (B:=B) (π:=π) (gF B π ι i 0) ((i9 i)) y) (λj hj ρ ak=>by obtain⟨y,hy⟩:=ak;subst hy;rw[dX]at hj;refine⟨kr ns t (n:=n) (B:=B) (π:=π) (gF B π ι i j) ((i9 i)) ((i9 j)),_,by rw[qA];simp,.inl (U4 ns t cl h1 h2 h3 h4 hi hj (y:=none)),?_⟩;rw[U5 cl h1 h2 h3 h4 hi hj];exact⟨_,rfl⟩) ⟨y,rfl⟩
 refine⟨y',?_⟩;rw[e,dX];show some (Out.nx [_,_,_,_,_,some (b8 n (gF B π ι i n),2),_,_])=_;rw[U6 cl h1 h2 h3 h4]
theorem U8(hn:n<=16)(x y:OD):∃ x' y',fq (ax 6) (dy (bW (ae (bX 2) af)) (ax 7) sI) (cq n) (kr ns t (n:=n) (B:=B) (π:=π) (λ_ _=>0) x y) =
  some (.nx (kr ns t (n:=n) (B:=B) (π:=π) (λa b=>π (B (ι a) (ι b))) x' y')):=by
 have z:b8 n (λ_ _=>0)=b8 n (gF B π ι 0 0):=yK λa b _ _=>by unfold gF;rw[Qw (by omega)]
 have z':b8 n (gF B π ι n 0)=b8 n (λa b=>π (B (ι a) (ι b))):=yK λa b ha _=>by unfold gF;rw[Qk (.inl (h2 a ha))]
 obtain⟨aB,e,x',y',rfl⟩:=nJ (pt:=ax 6) (body:=dy (bW (ae (bX 2) af)) (ax 7) sI) (cq n) (λi ρ=>∃ x y,ρ=kr ns t (n:=n) (B:=B) (π:=π) (gF B π ι i 0) x y) (kr ns t (n:=n) (B:=B) (π:=π) (gF B π ι 0 0) x y) (λi hi ρ ak=>by
  obtain⟨x,y,hy⟩:=ak;subst hy;rw[dX]at hi;obtain⟨y',iB⟩:=U7 ns t cl h1 h2 h3 h4 hn hi y;refine⟨kr ns t (n:=n) (B:=B) (π:=π) (gF B π ι i 0) ((i9 i)) y,_,by rw[qA];simp,.inl (show _=some (Out.nx (kr ns t (n:=n) (B:=B) (π:=π) (gF B π ι (i+1) 0) ((i9 i)) y'))from ?_),⟨_,_,rfl⟩⟩;have b1:(-1000:Int)<=Int.ofNat n:=by show(-1000:Int)<=n;omega
  have b2:Int.ofNat n<=1000:=by show(n:Int)<=1000;omega
  have e:bW (ae (bX 2) af) (kr ns t (n:=n) (B:=B) (π:=π) (gF B π ι i 0) ((i9 i)) y)=some (cq n,kr ns t (n:=n) (B:=B) (π:=π) (gF B π ι i 0) ((i9 i)) y):=by simp[-ofNat_eq_natCast,vW,b1,b2];rfl
  unfold dy;rw[e];exact iB) ⟨x,y,rfl⟩
 refine⟨x',y',?_⟩;show fq _ _ _ [_,_,_,_,_,some (b8 n (λ_ _=>0),2),_,_]=some (.nx [_,_,_,_,_,some (b8 n (λa b=>π (B (ι a) (ι b))),2),_,_]);rw[z,<- z'];rw[dX]at e;exact e
end
end
theorem U9{n:Nat}{f:Nat->Nat->Nat}{a b c d e:OD}{x y:OD}:iK 1 (ax 8) bE (fV (ae (aa 8) af)) false ((range n).map λi=>bF n f i) [a,b,c,d,e,some (b8 n f,0),x,y] =
  some ((range n).map λi=>kQ n f i,[a,b,c,d,e,some (b8 n f,0),x,y]):=by
 have h:=o8 (k:=1) (pt:=ax 8) (tt:=bE) (te:=fV (ae (aa 8) af)) (deep:=false) ((range n).map λi=>bF n f i)
  (λ_=>[a,b,c,d,e,some (b8 n f,0),x,y]) (λ_=>true) (λi=>kQ n f i) (λk hk=>?_)
 .rw[Qa,Q1,show(range n).filter (λ_=>true)=range n by simp]at h;exact h
 .refine⟨[a,b,c,d,e,some (b8 n f,0),x,y,some (bF n f k,0)],_,by simp[bF],rfl,?_⟩;rw[Qk rfl];exact⟨9,[a,b,c,d,e,some (b8 n f,0),x,y,some (bF n f k,0)],by simp[bF,kQ],by simp,by simp⟩
theorem ku{n:Nat}(hn:n<=1000){q:Nat}(h:ρ[i]? = some (some (d,q)))(hl:e8 d=some n):bW (ae (bX i) af) ρ=some (cq n,ρ):=by
 have b1:(-1000:Int)<=Int.ofNat n:=by show(-1000:Int)<=n;omega
 have b2:Int.ofNat n<=1000:=by show(n:Int)<=1000;omega
 simp only[bW,ae,bX,af,h,hl];rw[Qk ⟨b1,b2⟩];rfl
theorem U_:∀ rows∈pf,rows.length<=8:=by decide +kernel
theorem Va(ns:List Int)(t:Int)(h0:0<=t):∃ n f,cC n f/\n<=8/\wa [fT ns,.int t]=(t9 n f):=by
 obtain⟨rows,hm,q,hb⟩:=UZ ns t h0;have L:=RG (U0 rows hm);have h8:=U_ rows hm;unfold eS at hb;revert hb L h8;generalize rows.length=n;generalize tf rows=B;intro hb L h8;have hp:=Cz ns t;have hn:n<=1000:=Qq L.hi (by decide);refine⟨n,λa b=>drawn (pk ns t) n (B (km (pk ns t) n a) (km (pk ns t) n b)),L.RH (λi hi=>FV hp hi) (λi hi=>FW hp hi) (λi hi=>FY hp hi) (λi hi=>FX hp hi),h8,?_⟩;unfold wa Gf;refine dJ ?_;have s0:jo 8 [fT ns,.int t]=[n0 ns,some (.int t,9),none,none,none,none,none,none]:=rfl;rw[s0];refine(aZ (ac:=[n0 ns,some (.int t,9),some (b8 n B,q),none,none,none,none,none]) ?_).trans ?_
 .simp[hb]
 refine(aZ (ac:=[n0 ns,some (.int t,9),some (b8 n B,q),some (.lst (cq n),1),none,none,none,none]) ?_).trans ?_
 .exact fI (FH (ku hn rfl vW)) rfl
 refine(aZ (ac:=[n0 ns,some (.int t,9),some (b8 n B,q),some (.lst [],1),uL ((range n).map (drawn (pk ns t) n)),none,none,none]) ?_).trans ?_
 .exact fI (iO (ku hn rfl vW) (U2 ns t n B q h0 L.hi)) rfl
 refine(aZ (ac:=[n0 ns,some (.int t,9),some (b8 n B,0),some (.lst [],1),uL ((range n).map (drawn (pk ns t) n)),some (b8 n (λ_ _=>0),2),none,none]) ?_).trans ?_
 .have e:bH (aa 2) [n0 ns,some (.int t,9),some (b8 n B,q),some (.lst [],1),uL ((range n).map (drawn (pk ns t) n)),none,none,none]=some ((range n).map λi=>bF n B i,[n0 ns,some (.int t,9),some (b8 n B,0),some (.lst [],1),uL ((range n).map (drawn (pk ns t) n)),none,none,none]):=by
   by_cases hq:q=0
   .subst hq;simp[b8,hn]
   .simp[b8,hn,hq]
  exact fI (iO e (U3 ns t n B L.hi _)) rfl
 obtain⟨x',y',hf⟩:=U8 ns t (n:=n) (B:=B) (π:=drawn (pk ns t) n) (ι:=km (pk ns t) n) L.cl (λi hi=>FV hp hi) (λi hi=>FW hp hi) (λi hi=>FY hp hi) (λi hi=>FX hp hi) L.hi none none;refine(aZ ((fS (ku hn rfl vW)).trans hf)).trans ?_;refine fR (ac:=[n0 ns,some (.int t,9),some (b8 n B,0),some (.lst [],1),uL ((range n).map (drawn (pk ns t) n)),some (b8 n (λa b=>drawn (pk ns t) n (B (km (pk ns t) n a) (km (pk ns t) n b))),0),x',y']) ?_;have e:bH (aa 5) (kr ns t (n:=n) (B:=B) (π:=drawn (pk ns t) n) (λa b=>drawn (pk ns t) n (B (km (pk ns t) n a) (km (pk ns t) n b))) x' y')=some ((range n).map λi=>bF n (λa b=>drawn (pk ns t) n (B (km (pk ns t) n a) (km (pk ns t) n b))) i,[n0 ns,some (.int t,9),some (b8 n B,0),some (.lst [],1),uL ((range n).map (drawn (pk ns t) n)),some (b8 n (λa b=>drawn (pk ns t) n (B (km (pk ns t) n a) (km (pk ns t) n b))),0),x',y']):=by simp[b8,hn]
 have e2:=iO (k:=1) (pt:=ax 8) (tt:=bE) (te:=fV (ae (aa 8) af)) (deep:=false) e U9;exact t5 (cB e2)
theorem Vb{x:D×Nat}(h:ρ[i]? = some (some x)):ρ.set i (some x)=ρ:=by
 apply Za;intro k;by_cases hk:i=k
 .subst hk;rw[h,QB (Qs.mp h).1]
 .rw[QF hk]
theorem mQ{q:Nat}(h:ρ[i]? = some (some (.lst ds,q))):aa i ρ=some (.lst ds,0,ρ.set i (some (.lst ds,0))):=by
 unfold aa;rw[h];by_cases hq:q=0
 .subst hq;rw[Vb h];rfl
 .simp[hq]
theorem qB{g h:cy}(e:g ρ=some (false,ac)):fU g h ρ=h ac:=by unfold fU;rw[e];rfl
theorem wL{g:cy}{b:Bool}(e:g ρ=some (b,ac)):dP g ρ=some (!b,ac):=by unfold dP;rw[e]
theorem ui{f:aA}{b:Bool}{q:Nat}(h:f ρ=some (.bl b,q,ac)):dm f ρ=some (b,ac):=by unfold dm;rw[h];cases b<;>rfl
theorem Vc{q n:Nat}(h:ρ[i]? = some (some (d,q)))(hl:e8 d=some n):bX i ρ=some ((iD n),9,ρ):=by unfold bX;rw[h];simp only[hl]
theorem CA{q:Nat}(h:ρ[i]? = some (some (d,q)))(hd:d.cI=false):aa i ρ=some (d,9,ρ):=by unfold aa;rw[h];simp[hd]
theorem Vd{q:Nat}{x:D}(hb:b ρ=some (.int k,q',ρ))(h:ρ[i]? = some (some (x,q)))(ha:eX x k=some d)(hd:d.cI=false):aW i b ρ=some (d,9,ρ):=by unfold aW;rw[h];simp only[hb,h,ha,hd,bq];simp
theorem Ve{x:D}{a:aA}{q:Nat}(h:a ρ=some (x,q,ac))(hb:b ac=some (.int k,q',ad))(ha:eX x k=some d)(hx:x.cI=false)(hd:d.cI=false):cf a b ρ=some (d,9,ad):=by unfold cf;rw[h];simp only[hb,ha,hd,hx,bq];simp
theorem Vf{f:aA}{x y:D}{q:Nat}(h:f ρ=some (.tup [x,y],q,ac))(e:(ac.set i (some (x,bq x))).set j (some (y,bq y))=ad)(hi:i<ac.length)(hj:j<ac.length):vC f (kN (dz (ax i) (dz (ax j) jC))) ρ=some (.nx ad):=by subst e;unfold vC;rw[h];simp[hi,hj]
theorem Hx(ns:List Int){c:Int}(hc:0<=c){n:Nat}(hn:0<n):∃ v,v<n/\dS [fT ns,.int c,iD n]=(i9 v):=by
 have wM:(0:Int)<Int.ofNat n:=by show(0:Int)<(n:Int);omega
 have h1:=sH ns c wM;have h2:=ug ns c wM;have h3:Int.ofNat n=(n:Int):=rfl;obtain⟨v,hv⟩:=Int.eq_ofNat_of_zero_le h1;refine⟨v,by rw[hv,h3]at h2;omega,?_⟩;rw[uf ns c _ hc wM,hv];rfl
section
variable {n:Nat}{f:Nat->Nat->Nat}
theorem CB{x w:Nat}(hx:x<n)(hw:w<n):pd [bN n f,iD x,iD w]=(b9 (decide (f x w=w))):=by unfold pd G6;simp[-ofNat_eq_natCast,jI hx,ki hw,BZ]
theorem Vg(hn:n<=1000){w:Nat}(hw:w<n):qx [bN n f,iD w]=(uL ((range n).filter λx=>decide (f x w=w))):=by
 unfold qx G8;refine dJ (fR (iO (deep:=false) (ad:=[t9 n f,i9 w]) (ku hn rfl i3) ?_));refine yM (i:=2) (ρ:=[t9 n f,i9 w]) (deep:=false) rfl (λx=>decide (f x w=w)) (λx=>(iD x)) (λ_=>9) (λj hj=>?_) (λj hj _=>?_)
 .simp[-ofNat_eq_natCast,CB hj hw]
 .simp[-ofNat_eq_natCast]
theorem Vh(hn:n<=1000){w:Nat}(hw:w<n):su [bN n f,iD w]=(uL ((range n).filter λx=>decide (f x w=w))):=by
 unfold su Gm;refine dJ (fR (iO (deep:=false) (ad:=[t9 n f,i9 w]) (ku hn rfl i3) ?_));refine yM (i:=2) (ρ:=[t9 n f,i9 w]) (deep:=false) rfl (λx=>decide (f x w=w)) (λx=>(iD x)) (λ_=>9) (λj hj=>?_) (λj hj _=>?_)
 .simp[-ofNat_eq_natCast,jI hj,ki hw,BZ]
 .simp[-ofNat_eq_natCast]
variable (L:cC n f){z:Nat}(hz:z<n)(bz:∀ j,j<n->f z j=j)
include L hz bz
theorem Vi{w:Nat}(hw:w<n):decide ((range n).map (λj=>f w j)=range n)=decide (w=z):=by rw[Ju,RJ];exact⟨λh=>L.mD hz bz hw h,λh=>by subst h;exact bz⟩
theorem Hy(hn:n<=1000):sr [bN n f]=(i9 z):=by
 unfold sr Gi;refine dJ (fR (ac:=[t9 n f]) ?_);have hc:cA 1 (bW (ae (bX 0) af)) (ax 1) (bM (e2 eZ (mm (ae (aW 0 (aa 1)) af)) (pX (ae (bX 0) af)))) (aa 1) false (jo 1 [bN n f])=some (.lst (aI [z]),1,[t9 n f]):=by
  refine(iO (deep:=false) (ad:=[t9 n f]) (ku hn rfl i3) (yM rfl (λx=>decide (x=z)) (λx=>(iD x)) (λ_=>9) (λj hj=>?_) (λj hj _=>?_))).trans ?_
  .have e1:mm (ae (aW 0 (aa 1)) af) ([t9 n f]++[i9 j])=some (.lst (aI ((range n).map λk=>f j k)),1,[t9 n f,i9 j]):=by simp[-ofNat_eq_natCast,jI hj,kQ]
   have rO:pX (ae (bX 0) af) [t9 n f,i9 j]=some (.lst (aI (range n)),1,[t9 n f,i9 j]):=FH (ku hn rfl i3);unfold bM e2;rw[e1];simp only[rO,RF,Vi L hz bz hj];rfl
  .simp[-ofNat_eq_natCast]
  .rw[FZ,Qk hz];rfl
 unfold cf;rw[hc];simp[-ofNat_eq_natCast,eX,aI,L2.dC,iU]
theorem Vj(hn:n<=1000){l:List Nat}(hl:l.length<=1000)(hm:∀ x∈l,x<n):t7 [bN n f,.lst (aI l)]=(i9 (l.foldl f z)):=by
 unfold t7 Gk;refine dJ ?_;refine(aZ (ac:=[t9 n f,some (.lst (aI l),0),i9 z,none]) ?_).trans ?_
 .simp[-ofNat_eq_natCast,Hy L hz bz hn]
 obtain⟨aB,e,y,rfl⟩:=nJ (pt:=ax 3) (body:=aY 2 (cf (aW 0 (aa 2)) (aa 3))) (aI l) (λi ρ=>∃ y,ρ=[t9 n f,some (.lst (aI l),0),i9 ((l.take i).foldl f z),y]) [t9 n f,some (.lst (aI l),0),i9 z,none] (λi hi ρ ak=>by
  obtain⟨y,hy⟩:=ak;subst hy;have fG:i<l.length:=by rw[gh]at hi;exact hi
  have hg:(aI l)[i]=.int (Int.ofNat l[i]):=by simp[aI]
  have hx:l[i]<n:=hm _ (Ze fG);have ha:(l.take i).foldl f z<n:=L.fold_lt hz λx m=>hm x (JA m);refine⟨[t9 n f,some (.lst (aI l),0),i9 ((l.take i).foldl f z),some (.int (Int.ofNat l[i]),9)],[t9 n f,some (.lst (aI l),0),i9 ((l.take (i+1)).foldl f z),some (.int (Int.ofNat l[i]),9)],?_,.inl ?_,⟨_,rfl⟩⟩
  .rw[hg];simp
  .rw[List.take_succ_eq_append_getElem fG,List.foldl_append];simp[-ofNat_eq_natCast,jI ha,ki hx]) ⟨none,rfl⟩
 rw[gh,Yg]at e;refine(aZ ((fS (ds:=aI l) (ac:=[t9 n f,some (.lst (aI l),0),i9 z,none]) ?_).trans e)).trans ?_
 .simp[gh,hl]
 .simp[-ofNat_eq_natCast]
end
section
variable {n:Nat}{f:Nat->Nat->Nat}
def nU (n:Nat)(f:Nat->Nat->Nat)(r:Nat->Nat):Bool:=(range n).all λy=>(cC.low n f y).all λx=>decide (f (r x) (r y)=r y)
theorem CC:nU n f r=true ↔ ∀ y x,y<n->x<n->f x y=y->f (r x) (r y)=r y:=by unfold nU;rw[L3.range_all];simp only[QU,cC.dt,Zl];exact⟨λh y x hy hx e=>h y hy x ⟨hx,e⟩,λh y hy x e=>h y x hy e.1 e.2⟩
theorem Vk(hn:n<=1000)(hr:∀ i,i<n->r i<n):wo [bN n f,iP n r]=(b9 (nU n f r)):=by
 unfold wo G_;refine dJ ?_;have hs:jo 4 [bN n f,iP n r]=[t9 n f,r9 n r,none,none]:=rfl;rw[hs];obtain⟨h1,h2⟩:=qr (pt:=ax 2) (body:=dy (bH (ay qx 2 (ae (aa 0) (ae (aa 2) af)))) (ax 3) (cj (dP (dm (ay pd 3 (ae (aa 0) (ae (aW 1 (aa 3)) (ae (aW 1 (aa 2)) af)))))) (aS (eC (.bl false))) cz)) (d:=.bl false) (q:=9) (cq n) (λρ=>∃ x y,ρ=[t9 n f,r9 n r,x,y]) (λy=>(cC.low n f y).all λx=>decide (f (r x) (r y)=r y)) [t9 n f,r9 n r,none,none] (λy hy ρ ⟨a,b,e⟩=>by
  subst e;have iB:y<n:=by rw[dX]at hy;exact hy
  refine⟨[t9 n f,r9 n r,i9 y,b],by rw[show(cq n)[y]=(iD y)by simp[cq]];simp,?_⟩;have hl:(aI (cC.low n f y)).length<=1000:=by rw[gh];have:=YA (λx=>decide (f x y=y)) (range n);rw[Q1]at this;exact Qq this hn
  have hi:bH (ay qx 2 (ae (aa 0) (ae (aa 2) af))) [t9 n f,r9 n r,i9 y,b]=some (aI (cC.low n f y),[t9 n f,r9 n r,i9 y,b]):=by have hb:qx [bN n f,iD y]=(uL (cC.low n f y)):=Vg hn iB;simp[-ofNat_eq_natCast,hb,hl]
  obtain⟨i1,i2⟩:=qr (pt:=ax 3) (body:=cj (dP (dm (ay pd 3 (ae (aa 0) (ae (aW 1 (aa 3)) (ae (aW 1 (aa 2)) af)))))) (aS (eC (.bl false))) cz) (d:=.bl false) (q:=9) (aI (cC.low n f y)) (λρ=>∃ b,ρ=[t9 n f,r9 n r,i9 y,b]) (λi=>decide (f (r ((cC.low n f y).getD i 0)) (r y)=r y)) [t9 n f,r9 n r,i9 y,b] (λi fG ρ ⟨b,e⟩=>by
   subst e;have hm:=B1 (l:=cC.low n f y) (i:=i) (by rw[gh]at fG;exact fG);have hx:=(cC.dt.mp hm).1;rw[F7 fG];refine⟨[t9 n f,r9 n r,i9 y,i9 ((cC.low n f y).getD i 0)],by simp,λok=>⟨[t9 n f,r9 n r,i9 y,i9 ((cC.low n f y).getD i 0)],?_,⟨_,rfl⟩⟩,λno=>?_⟩
   .have wN:=Zv ok;simp[-ofNat_eq_natCast,-List.getD_eq_getElem?_getD,yN hx,yN iB,CB (f:=f) (hr _ hx) (hr _ iB),wN]
   .have wO:=JY no;simp[-ofNat_eq_natCast,-List.getD_eq_getElem?_getD,yN hx,yN iB,CB (f:=f) (hr _ hx) (hr _ iB),wO]) ⟨b,rfl⟩
  rw[gh,F5 (λx=>decide (f (r x) (r y)=r y))]at i1 i2;refine⟨λok=>?_,λno=>(fS hi).trans (i2 no)⟩;obtain⟨ad,e,b',rfl⟩:=i1 ok;exact⟨_,(fS hi).trans e,_,_,rfl⟩) ⟨none,none,rfl⟩
 rw[dX]at h1 h2;cases h:nU n f r with
 | true=>
  obtain⟨aB,e,x,y,rfl⟩:=h1 h;exact(aZ ((fS (ku hn rfl i3)).trans e)).trans rfl
 | false=>exact kh ((fS (ku hn rfl i3)).trans (h2 h))
end
theorem Vl{g:aA}{q:Nat}(h:g ρ=some (.lst ds,q,ac))(hl:ds.length<=1000):bH g ρ=some (ds,ac):=by unfold bH;rw[h];exact Qk hl
theorem Vm{a:aA}{q:Nat}(ha:a ρ=some (.lst ds,q,ac))(hb:b ac=some (.int k,q',ad))(h:eX (.lst ds) k=some d):cf a b ρ=some (d,bq d,ad):=by unfold cf;rw[ha];simp only[hb,h]
theorem Hz(l:List Nat)(x:Nat):aI l++[iD x]=aI (l++[x]):=by unfold aI;rw[Q6];rfl
theorem Vn(h:g ρ=some (ds,ac))(hl:ds.length<=1000):cF g ρ=some (.lst ds,1,ac):=by unfold cF;rw[h];exact Qk hl
abbrev R7 (ns:List Int)(t:Int)(n:Nat)(f:Nat->Nat->Nat)(z:Nat)(a b c:OD):aV:=[n0 ns,some (.int t,9),t9 n f,i9 z,a,b,c]
section
variable {n:Nat}{f:Nat->Nat->Nat}
variable (L:cC n f){z:Nat}(hz:z<n)(bz:∀ j,j<n->f z j=j)
include L hz bz
theorem Vo(ns:List Int)(t:Int)(h0:0<=t):∃ d:Nat->Nat,(∀ i,i<n->d i<n)/\sv [fT ns,.int t,bN n f]=some (iP n (cC.lr n f z d),9):=by
 have hn:n<=1000:=Qq L.hi (by decide);have Vp:0<n:=L.lo;obtain⟨aB,e,l,y,hl,hm,rfl⟩:=nJ (pt:=ax 5) (body:=Gq) (cq n) (λi ρ=>∃ l y,l.length=i/\(∀ x∈l,x<n)/\ρ=R7 ns t n f z (some (.lst (aI l),1)) y none) (R7 ns t n f z (some (.lst [],1)) none none) (λi hi ρ ak=>by
  obtain⟨l,y,hl,hm,rfl⟩:=ak;have fG:i<n:=by rw[dX]at hi;exact hi
  have Vq:Int.ofNat i=(i:Int):=rfl;obtain⟨v,hv,ev⟩:=Hx ns (show 0<=t+Int.ofNat i by omega) Vp;obtain⟨k,hk,ek⟩:=Hx ns (show 0<=t+8+Int.ofNat i by omega) (show 0<3 by decide);have hx:∃ x,x<n/\eX (.lst [.int (Int.ofNat z),.int (Int.ofNat i),.int (Int.ofNat v)]) (Int.ofNat k)=some (.int (Int.ofNat x)):=by
   match k,hk with
   | 0,_=>exact⟨z,hz,rfl⟩
   | 1,_=>exact⟨i,fG,rfl⟩
   | 2,_=>exact⟨v,hv,rfl⟩
  obtain⟨x,hx,ex⟩:=hx;refine⟨R7 ns t n f z (some (.lst (aI l),1)) (some (.int (Int.ofNat i),9)) none,R7 ns t n f z (some (.lst (aI (l++[x])),1)) (some (.int (Int.ofNat i),9)) none,by rw[qA];rfl,.inl ?_,l++[x],_,by rw[Qe,hl];rfl,λw hw=>?_,rfl⟩
  .rw[<- Hz];exact B2 rfl (cB (Vm (Vn (eE (q:=9) rfl (eE (q:=9) rfl (cB (bY (ds:=[fT ns,.int (t+Int.ofNat i),.int (Int.ofNat n)]) (eE (q:=0) rfl (eE (q:=9) rfl (cB (Vc rfl i3)))) rfl ev)))) (by show 3<=1000;decide)) (bY (ds:=[fT ns,.int (t+8+Int.ofNat i),.int (Int.ofNat 3)]) rfl rfl ek) ex)) rfl (by rw[gh];omega) rfl
  .rcases QL.mp hw with h|h
   .exact hm w h
   .rw[Qu.mp h];exact hx) ⟨[],none,rfl,(λ_ h=>nomatch h),rfl⟩
 rw[dX]at hl;have hg:∀ i,i<n->gv l i<n:=λi hi=>hm _ (F9 (by omega));refine⟨gv l,hg,?_⟩;obtain⟨aB,e2,y',rfl⟩:=nJ (pt:=ax 5) (body:=Gp) (cq n) (λi ρ=>∃ y,ρ=R7 ns t n f z (some (.lst (aI l),1)) y (some (.lst (aI ((range i).map (cC.lr n f z (gv l)))),1))) (R7 ns t n f z (some (.lst (aI l),1)) y (some (.lst [],1))) (λi hi ρ ak=>by
  obtain⟨y,rfl⟩:=ak;have fG:i<n:=by rw[dX]at hi;exact hi
  have wQ:(cC.low n f i).length<=1000:=by have:=YA (λy=>decide (f y i=i)) (range n);rw[Q1]at this;exact Qq this hn
  have hb:su [bN n f,.int (Int.ofNat i)]=some (.lst (aI (cC.low n f i)),1):=Vh hn fG;have hc:=iO (k:=1) (te:=aW 4 (aa 7)) (deep:=false) (ρ:=R7 ns t n f z (some (.lst (aI l),1)) (some (.int (Int.ofNat i),9)) (some (.lst (aI ((range i).map (cC.lr n f z (gv l)))),1))) (it:=bH (ay su 2 (ae (aa 2) (ae (aa 5) af)))) (ds:=aI (cC.low n f i)) (ac:=R7 ns t n f z (some (.lst (aI l),1)) (some (.int (Int.ofNat i),9)) (some (.lst (aI ((range i).map (cC.lr n f z (gv l)))),1))) (Vl (bY (ds:=[bN n f,.int (Int.ofNat i)]) rfl rfl hb) (by rw[gh];exact wQ)) (RK (i:=7) (cC.low n f i) rfl (λy=>.int (Int.ofNat (gv l y))) (λ_=>9) (λy hy=>by have Xy:=(cC.dt.mp hy).1;have tT:eX (.lst (aI l)) (Int.ofNat y)=some (.int (Int.ofNat (gv l y))):=RO (by omega);simp[-ofNat_eq_natCast,tT]))
  rw[show((cC.low n f i).map λy=>D.int (Int.ofNat (gv l y)))=aI ((cC.low n f i).map (gv l))by simp[aI]]at hc;have hj:t7 [bN n f,.lst (aI ((cC.low n f i).map (gv l)))]=some (.int (Int.ofNat (cC.lr n f z (gv l) i)),9):=Vj L hz bz hn (by rw[Qa];exact wQ) (cC.iy L hz bz hg);refine⟨R7 ns t n f z (some (.lst (aI l),1)) (some (.int (Int.ofNat i),9)) (some (.lst (aI ((range i).map (cC.lr n f z (gv l)))),1)),R7 ns t n f z (some (.lst (aI l),1)) (some (.int (Int.ofNat i),9)) (some (.lst (aI ((range (i+1)).map (cC.lr n f z (gv l)))),1)),by rw[qA];rfl,.inl ?_,_,rfl⟩;rw[Yw,Q6,List.map_singleton,<- Hz];exact B2 rfl (cB (bY (eE (q:=9) rfl (cB hc)) rfl hj)) rfl (by rw[gh,Qa,Q1];omega) rfl) ⟨y,rfl⟩
 rw[dX]at e2;unfold sv Gr;refine dJ ?_;show aE _ _ [some (fT ns,0),some (.int t,9),some (bN n f,9),none,none,none,none]=_;refine(aZ (fI (bY (ds:=[bN n f]) rfl rfl (Hy L hz bz hn)) rfl)).trans ?_;refine(aZ (ac:=R7 ns t n f z (some (.lst [],1)) none none) rfl).trans ?_;refine(aZ ((fS (ku hn (i:=2) rfl i3)).trans e)).trans ?_;refine(aZ (ac:=R7 ns t n f z (some (.lst (aI l),1)) y (some (.lst [],1))) rfl).trans ?_;refine(aZ ((fS (ku hn (i:=2) rfl i3)).trans e2)).trans ?_;exact fR (t5 (cB (q:=0) (ac:=R7 ns t n f z (some (.lst (aI l),1)) y' (some (.lst (aI ((range n).map (cC.lr n f z (gv l)))),0))) rfl))
end
def dB (n:Nat):D->Bool
 | .int i=>decide (0<=i)&&decide (i<(n:Int))
 | _=>false
def dF (m n:Nat):D->Bool
 | .tup ds=>decide (ds.length=m)&&ds.all (dB n)
 | _=>false
theorem mR(d:D):sE [d]=(b9 (match d with|.int _=>true|_=>false)):=by unfold sE GY;cases d<;>simp[da]
theorem wR(n:Nat)(d:D):lE [d,iD n]=(b9 (dB n d)):=by
 unfold lE GZ;cases d with
 | int i=>
  have h:=mR (.int i);by_cases h0:0<=i
  .by_cases h1:i<(n:Int)
   .simp[h,dB,h0,h1]
   .simp[h,dB,h0,h1]
  .simp[h,dB,h0]
 | aO=>simp[mR,dB]
 | bl b=>simp[mR,dB]
 | str x=>simp[mR,dB]
 | tup ds=>simp[mR,dB]
 | lst ds=>simp[mR,dB]
 | iY ks ds=>simp[mR,dB]
 | exc nm=>simp[mR,dB]
 | ob f fo vs ds=>simp[mR,dB]
 | mp k ds=>simp[mR,dB]
theorem HA(m n:Nat)(d:D)(hl:∀ ds,d=.tup ds->ds.length<=1000):lF [d,iD m,iD n]=(b9 (dF m n d)):=by
 unfold lF Co;cases d with
 | tup ds=>
  have hl:=hl ds rfl;refine dJ ?_;have hs:jo 3 [.tup ds,iD m,iD n]=[some (.tup ds,9),i9 m,i9 n]:=rfl;rw[hs];by_cases hm:ds.length=m
  .refine(aZ (ac:=[some (.tup ds,9),i9 m,i9 n]) ?_).trans ?_
   .simp[-ofNat_eq_natCast,da,e8,hm,qq]
   .have hi:bH (aa 0) [some (.tup ds,9),i9 m,i9 n]=some (ds,[some (.tup ds,9),i9 m,i9 n]):=by simp[hl]
    have hc:=o8 (k:=1) (pt:=ax 3) (tt:=bE) (te:=ay lE 2 (ae (aa 3) (ae (aa 2) af))) (deep:=false) ds (λ_=>[some (.tup ds,9),i9 m,i9 n]) (λ_=>true) (λi=>.bl (dB n (ds.getD i .aO))) (λi hi=>by
     have hg:ds.getD i .aO=ds[i]:=by simp[hi]
     refine⟨[some (.tup ds,9),i9 m,i9 n,some (ds[i],bq ds[i])],[some (.tup ds,9),i9 m,i9 n,some (ds[i],bq ds[i])],by simp[-bq],rfl,?_⟩;rw[Qk rfl];refine⟨9,[some (.tup ds,9),i9 m,i9 n,some (ds[i],bq ds[i])],?_,by simp,by simp⟩;have hv:∃ q,aa 3 [some (.tup ds,9),i9 m,i9 n,some (ds[i],bq ds[i])]=some (ds[i],q,[some (.tup ds,9),i9 m,i9 n,some (ds[i],bq ds[i])]):=by
      cases hL:(ds[i]).cI with
      | false=>exact⟨9,by simp[-bq,hL]⟩
      | true=>exact⟨0,by simp[hL]⟩
     obtain⟨q,hv⟩:=hv;rw[hg];exact bY (eE hv (cB (q:=9) rfl)) rfl (wR n _))
    rw[show(range ds.length).filter (λ_=>true)=range ds.length by simp]at hc;have e:(range ds.length).map (λi=>D.bl (dB n (ds.getD i .aO)))=ds.map λd=>.bl (dB n d):=by
     apply Za;intro k;by_cases hk:k<ds.length
     .simp[hk]
     .rw[QA (by simp;omega),QA (by simp;omega)]
    rw[e]at hc;refine fR (qs (cB (iO (deep:=false) hi hc)) ?_);simp only[kc,yi,Zq,dF,hm];simp[Jn,Zn]
  .have e:dF m n (.tup ds)=false:=by simp[dF,hm]
   rw[e];refine kh ?_;simp[-ofNat_eq_natCast,da,e8,qq,hm]
 | aO=>simp[da,dF]
 | bl b=>simp[da,dF]
 | int i=>simp[da,dF]
 | str x=>simp[da,dF]
 | lst ds=>simp[da,dF]
 | iY ks ds=>simp[da,dF]
 | exc nm=>simp[da,dF]
 | ob f fo vs ds=>simp[da,dF]
 | mp k ds=>simp[da,dF]
theorem Vr(m n:Nat)(hm:m<=1000)(d:D):lF [d,iD m,iD n]=(b9 (dF m n d)):=by
 by_cases h:∀ ds,d=.tup ds->ds.length<=1000
 .exact HA m n d h
 .cases d with
  | tup ds=>
   have eH:ds.length≠m:=λe=>h λl7 e'=>by cases e';omega
   have e:dF m n (.tup ds)=false:=by simp[dF,eH]
   unfold lF Co;refine dJ ?_;rw[e];refine kh ?_;simp[-ofNat_eq_natCast,da,e8,qq,eH]
  | _=>exact absurd (λds e=>nomatch e) h
theorem HB{n:Nat}(hr:∀ i,i<n->r i<n):dF n n (iP n r)=true:=by unfold dF iP;simp only[gh,Qa,Q1,decide_true,Je];rw[QU];intro d m;obtain⟨x,hx,rfl⟩:=Qm.mp m;obtain⟨i,hi,rfl⟩:=Qm.mp hx;have:=hr i (QN.mp hi);show(decide ((0:Int)<=(r i:Int))&&decide ((r i:Int)<(n:Int)))=true;simp;omega
theorem Vs{n:Nat}{f:Nat->Nat->Nat}(hn:n<=1000)(d:D):wm [bN n f,d]=(b9 (dF n n d)):=by
 unfold wm G5;have hv:∃ q aB,aa 1 [t9 n f,some (d,bq d)]=some (d,q,aB)/\aB[0]? = some ((t9 n f)):=by
  cases hL:d.cI with
  | false=>exact⟨9,[t9 n f,some (d,bq d)],by simp[-bq,hL],rfl⟩
  | true=>exact⟨0,[t9 n f,some (d,0)],by simp[hL],rfl⟩
 obtain⟨q,aB,hv,h0⟩:=hv;have HC:bX 0 aB=some ((iD n),9,aB):=by unfold bX;simp only[h0,i3]
 exact dJ (fR (bY (eE (ρ:=[t9 n f,some (d,bq d)]) hv (eE HC (cB HC))) rfl (Vr n n hn d)))
section
variable {n:Nat}{f:Nat->Nat->Nat}
theorem CD{n:Nat}(hn:n<=1000){q:Nat}(h:ρ[i]? = some (some ((iD n),q))):bW (ae (aa i) af) ρ=some (cq n,ρ):=by
 have b1:(-1000:Int)<=Int.ofNat n:=by show(-1000:Int)<=n;omega
 have b2:Int.ofNat n<=1000:=by show(n:Int)<=1000;omega
 simp only[bW,ae,aa,af,h,D.oy,ZZ];rw[Qk ⟨b1,b2⟩];rfl
theorem wU{n i:Nat}(h:i<(cq n).length):(cq n)[i]=(iD i):=by simp[cq]
theorem Vt(hn:n<=1000):sC [bN n f]=(b9 ((range n).all λx=>decide (f x x=x))):=by
 unfold sC GV;refine dJ (fR (ac:=[t9 n f]) ?_);have hc:=iO (k:=1) (tt:=bE) (te:=e2 eZ (cf (aW 0 (aa 1)) (aa 1)) (aa 1)) (deep:=false) (ku hn (i:=0) (ρ:=[t9 n f]) rfl i3) (yM (i:=1) rfl (λ_=>true) (λx=>.bl (decide (f x x=x))) (λ_=>9) (λj hj=>rfl) (λj hj _=>by simp[-ofNat_eq_natCast,jI hj,ki hj,BZ]))
 rw[show(range n).filter (λ_=>true)=range n by simp]at hc;refine qs (cB hc) ?_;simp only[kc,yi,Zq];simp[Jn,Zn]
theorem Vu(hn:n<=1000):sD [bN n f]=(b9 ((range n).all λx=>(range x).all λy=>decide (f x y=f y x))):=by
 unfold sD GX;refine dJ ?_;have hs:jo 3 [bN n f]=[t9 n f,none,none]:=rfl;rw[hs];obtain⟨h1,h2⟩:=qr (pt:=ax 1) (body:=dy (bW (ae (aa 1) af)) (ax 2) (cj (bM (e2 dE (cf (aW 0 (aa 1)) (aa 2)) (cf (aW 0 (aa 2)) (aa 1)))) (aS (eC (.bl false))) cz)) (d:=.bl false) (q:=9) (cq n) (λρ=>∃ x y,ρ=[t9 n f,x,y]) (λx=>(range x).all λy=>decide (f x y=f y x)) [t9 n f,none,none] (λx hx ρ ⟨a,b,e⟩=>by
  subst e;have jA:x<n:=by rw[dX]at hx;exact hx
  have HD:x<=1000:=by omega
  refine⟨[t9 n f,i9 x,b],by rw[wU];simp,?_⟩;obtain⟨i1,i2⟩:=qr (pt:=ax 2) (body:=cj (bM (e2 dE (cf (aW 0 (aa 1)) (aa 2)) (cf (aW 0 (aa 2)) (aa 1)))) (aS (eC (.bl false))) cz) (d:=.bl false) (q:=9) (cq x) (λρ=>∃ y,ρ=[t9 n f,i9 x,y]) (λy=>decide (f x y=f y x)) [t9 n f,i9 x,b] (λy hy ρ ⟨b,e⟩=>by
   subst e;have CF:y<x:=by rw[dX]at hy;exact hy
   have iB:y<n:=Zj CF jA;refine⟨[t9 n f,i9 x,i9 y],by rw[wU];simp,λok=>⟨[t9 n f,i9 x,i9 y],?_,⟨_,rfl⟩⟩,λno=>?_⟩
   .have wN:=Zv ok;simp[-ofNat_eq_natCast,jI jA,ki iB,jI iB,ki jA,qq,wN]
   .have wO:=JY no;simp[-ofNat_eq_natCast,jI jA,ki iB,jI iB,ki jA,qq,wO]) ⟨b,rfl⟩
  rw[dX]at i1 i2;refine⟨λok=>?_,λno=>(fS (CD HD (i:=1) (q:=9) rfl)).trans (i2 no)⟩;obtain⟨ad,e,b',rfl⟩:=i1 ok;exact⟨_,(fS (CD HD (i:=1) (q:=9) rfl)).trans e,_,_,rfl⟩) ⟨none,none,rfl⟩
 rw[dX]at h1 h2;cases h:((range n).all λx=>(range x).all λy=>decide (f x y=f y x))with
 | true=>
  obtain⟨aB,e,x,y,rfl⟩:=h1 h;exact(aZ ((fS (ku hn rfl i3)).trans e)).trans rfl
 | false=>exact kh ((fS (ku hn rfl i3)).trans (h2 h))
theorem Vv(hn:n<=1000)(cl:∀ i j,i<n->j<n->f i j<n):sy [bN n f]=(b9 ((range n).all λx=>(range n).all λy=>(range n).all λz=>decide (f (f x y) z=f x (f y z)))):=by
 unfold sy GR;refine dJ ?_;refine(aZ (ac:=[t9 n f,i9 n,none,none,none]) (by simp[i3])).trans ?_;have hR:∀ ρ:aV,ρ[1]? = some ((i9 n))->bW (ae (aa 1) af) ρ=some (cq n,ρ):=λρ h=>CD hn h;obtain⟨h1,h2⟩:=qr (pt:=ax 2) (body:=dy (bW (ae (aa 1) af)) (ax 3) (dy (bW (ae (aa 1) af)) (ax 4) (cj (bM (e2 dE (cf (aW 0 (cf (aW 0 (aa 2)) (aa 3))) (aa 4)) (cf (aW 0 (aa 2)) (cf (aW 0 (aa 3)) (aa 4))))) (aS (eC (.bl false))) cz))) (d:=.bl false) (q:=9) (cq n) (λρ=>∃ x y z,ρ=[t9 n f,i9 n,x,y,z]) (λx=>(range n).all λy=>(range n).all λz=>decide (f (f x y) z=f x (f y z))) [t9 n f,i9 n,none,none,none] (λx hx ρ ⟨a,b,c,e⟩=>by
  subst e;have jA:x<n:=by rw[dX]at hx;exact hx
  refine⟨[t9 n f,i9 n,i9 x,b,c],by rw[wU];simp,?_⟩;obtain⟨i1,i2⟩:=qr (pt:=ax 3) (body:=dy (bW (ae (aa 1) af)) (ax 4) (cj (bM (e2 dE (cf (aW 0 (cf (aW 0 (aa 2)) (aa 3))) (aa 4)) (cf (aW 0 (aa 2)) (cf (aW 0 (aa 3)) (aa 4))))) (aS (eC (.bl false))) cz)) (d:=.bl false) (q:=9) (cq n) (λρ=>∃ y z,ρ=[t9 n f,i9 n,i9 x,y,z]) (λy=>(range n).all λz=>decide (f (f x y) z=f x (f y z))) [t9 n f,i9 n,i9 x,b,c] (λy hy ρ ⟨b,c,e⟩=>by
   subst e;have iB:y<n:=by rw[dX]at hy;exact hy
   refine⟨[t9 n f,i9 n,i9 x,i9 y,c],by rw[wU];simp,?_⟩;obtain⟨j1,j2⟩:=qr (pt:=ax 4) (body:=cj (bM (e2 dE (cf (aW 0 (cf (aW 0 (aa 2)) (aa 3))) (aa 4)) (cf (aW 0 (aa 2)) (cf (aW 0 (aa 3)) (aa 4))))) (aS (eC (.bl false))) cz) (d:=.bl false) (q:=9) (cq n) (λρ=>∃ z,ρ=[t9 n f,i9 n,i9 x,i9 y,z]) (λz=>decide (f (f x y) z=f x (f y z))) [t9 n f,i9 n,i9 x,i9 y,c] (λz hz ρ ⟨c,e⟩=>by
    subst e;have CG:z<n:=by rw[dX]at hz;exact hz
    have HE:=cl x y jA iB;have HF:=cl y z iB CG;refine⟨[t9 n f,i9 n,i9 x,i9 y,i9 z],by rw[wU];simp,λok=>⟨[t9 n f,i9 n,i9 x,i9 y,i9 z],?_,⟨_,rfl⟩⟩,λno=>?_⟩
    .have wN:=Zv ok;simp[-ofNat_eq_natCast,jI jA,jI iB,jI HE,ki iB,ki CG,ki HF,qq,wN]
    .have wO:=JY no;simp[-ofNat_eq_natCast,jI jA,jI iB,jI HE,ki iB,ki CG,ki HF,qq,wO]) ⟨c,rfl⟩
   rw[dX]at j1 j2;refine⟨λok=>?_,λno=>(fS (hR _ rfl)).trans (j2 no)⟩;obtain⟨ad,e,c',rfl⟩:=j1 ok;exact⟨_,(fS (hR _ rfl)).trans e,_,_,rfl⟩) ⟨b,c,rfl⟩
  rw[dX]at i1 i2;refine⟨λok=>?_,λno=>(fS (hR _ rfl)).trans (i2 no)⟩;obtain⟨ad,e,b',c',rfl⟩:=i1 ok;exact⟨_,(fS (hR _ rfl)).trans e,_,_,_,rfl⟩) ⟨none,none,none,rfl⟩
 rw[dX]at h1 h2;cases h:((range n).all λx=>(range n).all λy=>(range n).all λz=>decide (f (f x y) z=f x (f y z)))with
 | true=>
  obtain⟨aB,e,x,y,z,rfl⟩:=h1 h;exact(aZ ((fS (hR _ rfl)).trans e)).trans rfl
 | false=>exact kh ((fS (hR _ rfl)).trans (h2 h))
def sJ (n:Nat)(f:Nat->Nat->Nat):Bool:=(range n).any λz=>decide ((range n).map (λj=>f z j)=range n)
theorem Vw(hn:n<=1000):sA [bN n f]=(b9 (sJ n f)):=by
 have b1:(-1000:Int)<=Int.ofNat n:=by show(-1000:Int)<=n;omega
 have b2:Int.ofNat n<=1000:=by show(n:Int)<=1000;omega
 have hr:wj [iD n]=(v9 (range n)):=by unfold wj GS;simp[-ofNat_eq_natCast,b1,b2];rfl
 have hi:pW (.tup (aI (range n))) (bN n f)=some (.bl (sJ n f)):=by
  unfold pW;rw[Qk ⟨(BU _).ok,(BV n f).ok⟩];have e:inD (.tup (aI (range n))) (bN n f)=some (sJ n f):=by show some ((d3 ((range n).map λi=>kQ n f i)).any λy=>PyData.eqv y (cn (.tup (aI (range n)))))=some (sJ n f);rw[BO,QG,List.any_map];unfold sJ;congr 1;refine Zr (λp=>(range n).any p) (funext λz=>?_);exact RE _ _
  rw[e];rfl
 unfold sA GU;simp[-ofNat_eq_natCast,i3,hr,hi]
end
def yX (n:Nat)(f:Nat->Nat->Nat):Bool:=((range n).all λx=>decide (f x x=x))&&((range n).all λx=>(range x).all λy=>decide (f x y=f y x)) &&
 (((range n).all λx=>(range n).all λy=>(range n).all λz=>decide (f (f x y) z=f x (f y z)))&&sJ n f)
theorem Vx(hm:m<=1000)(ds:List D)(hl:∀ d∈ds,∀ es,d=.tup es->es.length<=1000):eB kc (ae (cA 1 (bH (aa 0)) (ax 2) bE (ay lF 3 (ae (aa 2) (ae (aa 1) (ae (aa 1) af)))) false) af) [some (.tup ds,9),i9 m]=(if ds.length<=1000 then some (.bl (ds.all (dF m m)),9,[some (.tup ds,9),i9 m])else none):=by
 by_cases h1:ds.length<=1000
 .rw[Qk h1];have hi:bH (aa 0) [some (.tup ds,9),i9 m]=some (ds,[some (.tup ds,9),i9 m]):=by simp[h1]
  have hc:=o8 (k:=1) (pt:=ax 2) (tt:=bE) (te:=ay lF 3 (ae (aa 2) (ae (aa 1) (ae (aa 1) af)))) (deep:=false) ds (λ_=>[some (.tup ds,9),i9 m]) (λ_=>true) (λi=>.bl (dF m m (ds.getD i .aO))) (λi hi=>by
   have hg:ds.getD i .aO=ds[i]:=by simp[hi]
   refine⟨[some (.tup ds,9),i9 m,some (ds[i],bq ds[i])],[some (.tup ds,9),i9 m,some (ds[i],bq ds[i])],by simp[-bq],rfl,?_⟩;rw[Qk rfl];refine⟨9,[some (.tup ds,9),i9 m,some (ds[i],bq ds[i])],?_,by simp,by simp⟩;have hv:∃ q,aa 2 [some (.tup ds,9),i9 m,some (ds[i],bq ds[i])]=some (ds[i],q,[some (.tup ds,9),i9 m,some (ds[i],bq ds[i])]):=by
    cases hL:(ds[i]).cI with
    | false=>exact⟨9,by simp[-bq,hL]⟩
    | true=>exact⟨0,by simp[hL]⟩
   obtain⟨q,hv⟩:=hv;rw[hg];exact bY (eE hv (eE (f:=aa 1) (q:=9) rfl (cB (f:=aa 1) (q:=9) rfl))) rfl (HA m m _ (hl _ (Ze hi))))
  rw[show(range ds.length).filter (λ_=>true)=range ds.length by simp]at hc;have e:(range ds.length).map (λi=>D.bl (dF m m (ds.getD i .aO)))=ds.map λd=>.bl (dF m m d):=by
   apply Za;intro k;by_cases hk:k<ds.length
   .simp[hk]
   .rw[QA (by simp;omega),QA (by simp;omega)]
  rw[e]at hc;refine qs (cB (iO (deep:=false) hi hc)) ?_;simp only[kc,yi,Zq];simp[Jn,Zn]
 .rw[Qw h1];simp[h1]
theorem HG(ds:List D)(h:¬ (1<=ds.length/\ds.length<=16)):gE [.tup ds]=(b9 false):=by
 unfold gE yV;refine dJ (kh ?_);have hs:jo 2 [.tup ds]=[some (.tup ds,9),none]:=rfl;rw[hs];by_cases h1:(1:Int)<=Int.ofNat ds.length
 .have h2:¬ (Int.ofNat ds.length<=16):=λz=>h ⟨by have:(1:Int)<=(ds.length:Int):=h1;omega,by have:(ds.length:Int)<=16:=z;omega⟩;simp[-ofNat_eq_natCast,da,e8,h1,h2]
 .simp[-ofNat_eq_natCast,da,e8,h1]
theorem HH(ds:List D)(h:1<=ds.length/\ds.length<=16)(hl:∀ d∈ds,∀ es,d=.tup es->es.length<=1000):gE [.tup ds]=(if ds.all (dF ds.length ds.length)=true then bU 2 (λρ=>(aE (cj (fU (dP (dm (ay sC 1 (ae (aa 0) af)))) (dP (dm (ay sD 1 (ae (aa 0) af))))) (aS (eC (.bl false))) cz)
 (aS (gz (ay sy 1 (ae (aa 0) af)) (ay sA 1 (ae (aa 0) af))))) [some (.tup ds,9),(i9 ds.length)]) [.tup ds]else(b9 false)):=by
 have h1:(1:Int)<=Int.ofNat ds.length:=by show(1:Int)<=(ds.length:Int);omega
 have h2:Int.ofNat ds.length<=16:=by show(ds.length:Int)<=16;omega
 have hr:=Vx (m:=ds.length) (by omega) ds hl;rw[Qk (by omega)]at hr;have hs:jo 2 [.tup ds]=[some (.tup ds,9),none]:=rfl;have st:yV [some (.tup ds,9),none]=(aE (cj (dP (dm (eB kc (ae (cA 1 (bH (aa 0)) (ax 2) bE (ay lF 3 (ae (aa 2) (ae (aa 1) (ae (aa 1) af)))) false) af)))) (aS (eC (.bl false))) cz)
 (aE (cj (fU (dP (dm (ay sC 1 (ae (aa 0) af)))) (dP (dm (ay sD 1 (ae (aa 0) af))))) (aS (eC (.bl false))) cz)
 (aS (gz (ay sy 1 (ae (aa 0) af)) (ay sA 1 (ae (aa 0) af)))))) [some (.tup ds,9),(i9 ds.length)]:=by
  unfold yV;refine(aZ (ac:=[some (.tup ds,9),none]) ?_).trans ?_
  .simp[-ofNat_eq_natCast,da,e8,h1,h2]
  .exact aZ (by simp[e8])
 unfold gE bU;rw[hs,st];cases hB:ds.all (dF ds.length ds.length)with
 | true=>
  rw[hB]at hr;rw[Qk rfl,aZ (ac:=[some (.tup ds,9),i9 ds.length])];refine(o9 (ac:=[some (.tup ds,9),i9 ds.length]) ?_).trans rfl;unfold dP dm;rw[hr];rfl
 | false=>
  rw[hB]at hr;rw[Qw (by decide),kh (d:=.bl false) (q:=9)];refine(qp (ac:=[some (.tup ds,9),i9 ds.length]) ?_).trans rfl;unfold dP dm;rw[hr];rfl
theorem Vy(ds:List D)(hl:∀ d∈ds,∀ es,d=.tup es->es.length<=1000)(h:ds.all (dF ds.length ds.length)=false):gE [.tup ds]=(b9 false):=by
 by_cases hk:1<=ds.length/\ds.length<=16
 .rw[HH ds hk hl,h];rfl
 .exact HG ds hk
theorem HI{n:Nat}{f:Nat->Nat->Nat}(h1:1<=n)(h2:n<=16)(cl:∀ i j,i<n->j<n->f i j<n):gE [bN n f]=(b9 (yX n f)):=by
 have hn:n<=1000:=by omega
 have hlen:((range n).map λi=>kQ n f i).length=n:=by simp
 have hl:∀ d∈((range n).map λi=>kQ n f i),∀ es,d=.tup es->es.length<=1000:=λd m es e=>by obtain⟨i,_,rfl⟩:=Qm.mp m;cases e;rw[gh,Qa,Q1];exact hn
 have il:((range n).map λi=>kQ n f i).all (dF n n)=true:=by rw[QU];intro d m;obtain⟨i,hi,rfl⟩:=Qm.mp m;exact HB (r:=λj=>f i j) λj hj=>cl i j (QN.mp hi) hj
 have hg:=HH ((range n).map λi=>kQ n f i) (by rw[hlen];exact⟨h1,h2⟩) hl;rw[hlen,Qk il]at hg;refine hg.trans ?_;have q1:=Vt (f:=f) hn;have q2:=Vu (f:=f) hn;have q3:=Vv hn cl;have q4:=Vw (f:=f) hn;show bU 2 (λ_=>(aE _ _) [t9 n f,i9 n]) _=_;unfold yX;generalize ((range n).all λx=>decide (f x x=x))=b1 at *
 generalize ((range n).all λx=>(range x).all λy=>decide (f x y=f y x))=b2 at *
 generalize ((range n).all λx=>(range n).all λy=>(range n).all λz=>decide (f (f x y) z=f x (f y z)))=b3 at *
 cases b1<;>cases b2<;>cases b3<;>simp[q1,q2,q3,q4]
theorem yY(h:ρ[i]? = some (some (d,bq d))):aa i ρ=some (d,bq d,ρ):=by
 unfold aa;rw[h];cases hL:d.cI with
 | false=>simp[hL]
 | true=>simp[hL]
theorem HJ(ds:List D)(hi:ρ.length=i)(v:D->D)(q:D->Nat)
  (he:∀ d,d∈ds->te (ρ++[some (d,bq d)])=some (v d,q d,ρ++[some (d,bq d)])) :
  iK 1 (ax i) bE te false ds ρ=some (ds.map v,ρ):=by
 have h:=o8 (k:=1) (pt:=ax i) (tt:=bE) (te:=te) (deep:=false) ds (λ_=>ρ) (λ_=>true) (λj=>v (ds.getD j .aO)) (λj hj=>?_)
 .rw[show(range ds.length).filter (λ_=>true)=range ds.length by simp]at h;rw[h];have e:(range ds.length).map (λj=>v (ds.getD j .aO))=ds.map v:=by
   apply Za;intro k;by_cases hk:k<ds.length
   .simp[hk]
   .rw[QA (by simp;omega),QA (by simp;omega)]
  rw[e]
 .have hg:ds.getD j .aO=ds[j]:=by simp[hj]
  refine⟨ρ++[some (ds[j],bq ds[j])],_,?_,rfl,?_⟩
  .unfold ax;rw[Qk (by simp[hi])];subst hi;simp[-bq,Yx]
  .rw[Qk rfl,hg];exact⟨q _,_,he _ (Ze hj),by simp,by simp⟩
theorem HK(hi:ρ.length=i)(hit:it ρ=some (ds,ρ))(b:D->Bool)(q:D->Nat)
  (he:∀ d,d∈ds->te (ρ++[some (d,bq d)])=some (.bl (b d),q d,ρ++[some (d,bq d)])) :
  eB kc (ae (cA 1 it (ax i) bE te false) af) ρ=some (.bl (ds.all b),9,ρ):=by refine qs (cB (iO (deep:=false) hit (HJ ds hi (λd=>.bl (b d)) q he))) ?_;simp only[kc,yi,Zq];simp[Jn,Zn]
def mU (ds:List D)(i:Nat):Nat:=match ds[i]? with
 | some (.int k)=>k.toNat
 | _=>0
theorem HL{n:Nat}(h:dF m n (.tup ds)=true):ds.length=m/\∀ i,i<m->ds[i]? = some (iD (mU ds i))/\mU ds i<n:=by
 unfold dF at h;simp only[QX,Zl,QU]at h;obtain⟨hl,ha⟩:=h;refine⟨hl,λi hi=>?_⟩;have fG:i<ds.length:=by omega
 have hm:=ha ds[i] (Ze fG);have hg:ds[i]? = some ds[i]:=Qz fG;unfold mU;rw[hg];cases e:ds[i]with
 | int k=>
  rw[e]at hm;unfold dB at hm;simp only[QX,Zl]at hm;refine⟨?_,?_⟩
  .show some (D.int k)=some (D.int ((k.toNat:Nat):Int));rw[YJ hm.1]
  .show k.toNat<n;omega
 | _=>rw[e]at hm;cases hm
theorem Vz{n:Nat}(h:dF m n (.tup ds)=true):D.tup ds=iP m (mU ds):=by
 obtain⟨hl,key⟩:=HL h;unfold iP;congr 1;apply Za;intro i;by_cases hi:i<m
 .rw[(key i hi).1,yI,QO,Zp hi];rfl
 .rw[QA (by omega),QA (by simp[gh];omega)]
theorem VA{n:Nat}(h:dF n n (.tup ds)=true):D.tup ds=iP n (mU ds)/\∀ i,i<n->mU ds i<n:=⟨Vz h,λi hi=>((HL h).2 i hi).2⟩
theorem VB{n:Nat}(hi:i<n):mU (aI ((range n).map r)) i=r i:=by unfold mU;rw[yI,QO,Zp hi];rfl
def rr (n:Nat)(f:Nat->Nat->Nat)(d:D):Bool:=match d with
 | .tup ds=>dF n n (.tup ds)&&nU n f (mU ds)
 | _=>false
theorem VC{n:Nat}{f:Nat->Nat->Nat}{s:Nat->Nat}(h:∀ i,i<n->r i=s i):nU n f r=nU n f s:=by
 rw[Bool.eq_iff_iff,CC,CC];constructor
 .intro k y x hy hx e;rw[<- h x hx,<- h y hy];exact k y x hy hx e
 .intro k y x hy hx e;rw[h x hx,h y hy];exact k y x hy hx e
theorem VD{n:Nat}{f:Nat->Nat->Nat}(hr:∀ i,i<n->r i<n):rr n f (iP n r)=nU n f r:=by have h:=HB hr;show(dF n n (iP n r)&&nU n f (mU (aI ((range n).map r))))=_;rw[h,Je];exact VC λi hi=>VB hi
theorem VE{n:Nat}{f:Nat->Nat->Nat}(hn:n<=1000)(d:D):wq [bN n f,d]=(b9 (rr n f d)):=by
 have h1:=Vs (n:=n) (f:=f) hn d;have v1:aa 1 [t9 n f,some (d,bq d)]=some (d,bq d,[t9 n f,some (d,bq d)]):=yY rfl;have v0:aa 0 [t9 n f,some (d,bq d)]=some (bN n f,9,[t9 n f,some (d,bq d)]):=rfl;have c1:=bY (n:=2) (eE v0 (cB v1)) rfl h1;unfold wq Ha;refine dJ (fR (ac:=[t9 n f,some (d,bq d)]) ?_);show gz _ _ [t9 n f,some (d,bq d)]=_;unfold gz;rw[c1];cases hR:dF n n d with
 | false=>
  have:rr n f d=false:=by cases d<;>simp_all [rr]
  simp[this]
 | true=>
  cases d with
  | tup ds=>
   obtain⟨e,hb⟩:=VA hR;have r:=Vk (f:=f) hn hb;rw[<- e]at r;have c2:=bY (n:=2) (eE v0 (cB v1)) rfl r;simp only[ZZ,c2];simp[rr,hR]
  | _=>cases hR
section
variable {n:Nat}{f:Nat->Nat->Nat}{p:Nat}
def qC (n:Nat)(f:Nat->Nat->Nat)(p:Nat):D->Bool
 | .tup [a,b,c]=>dB p a&&dB p b&&rr n f c
 | _=>false
def qD (n:Nat)(p:Nat):D->Bool
 | .tup [a,b]=>dB p a&&dB n b
 | _=>false
theorem CH{k:Nat}(h:m≠k):dE (iD m) (iD k)=some (.bl true):=by rw[qq];simp[h]
def ph (p:Nat):D->Bool
 | .tup [a,b,_]=>dB p a&&dB p b
 | _=>false
theorem VF{p:Nat}(h:ph p d=true):∃ a b c,d=.tup [a,b,c]:=by
 unfold ph at h;split at h
 .exact⟨_,_,_,rfl⟩
 .cases h
theorem VG(d:D):uc [iD p,d]=(b9 (ph p d)):=by
 unfold uc G4;cases d with
 | tup ds=>
  by_cases h3:ds.length=3
  .match ds,h3 with
   | [a,b,c],_=>
    have na:=wR p a;have nb:=wR p b;have l3:dE (.int 3) (.int 3)=some (.bl false):=(BY _ _).trans (by simp);have a0:eX (.tup [a,b,c]) 0=some a:=rfl;have a1:eX (.tup [a,b,c]) 1=some b:=rfl;have ll:e8 (.tup [a,b,c])=some 3:=rfl;cases ha:dB p a<;>simp[-ofNat_eq_natCast,da,ll,l3,a0,a1,na,nb,ha,ph]
  .have e:ph p (.tup ds)=false:=by
    match ds,h3 with
    | [],_=>rfl
    | [_],_=>rfl
    | [_,_],_=>rfl
    | [_,_,_],h=>exact absurd rfl h
    | _::_::_::_::_,_=>rfl
   have l3:dE (iD ds.length) (.int 3)=some (.bl true):=CH (k:=3) h3;have ll:e8 (.tup ds)=some ds.length:=rfl;rw[e];simp[-ofNat_eq_natCast,da,ll,l3]
 | _=>simp[da,ph]
theorem VH(h:ph p d=false):qC n f p d=false:=by
 unfold ph at h;unfold qC;split at h
 .simp only[h,Bool.false_and]
 .rfl
theorem VI(hn:n<=1000)(d:D):wu [bN n f,iD p,d]=(b9 (qC n f p d)):=by
 have g:=VG (p:=p) d;unfold wu Hb;cases hb:ph p d with
 | false=>
  rw[VH hb];rw[hb]at g;refine dJ (fR (ac:=jo 3 [bN n f,iD p,d]) ?_);have hc:ay uc 2 (ae (aa 1) (ae (aa 2) af)) (jo 3 [bN n f,iD p,d])=some (.bl false,9,jo 3 [bN n f,iD p,d]):=bY (eE (q:=9) (d:=(iD p)) rfl (cB (yY rfl))) rfl g;simp only[gz,hc];rfl
 | true=>
  obtain⟨a,b,c,rfl⟩:=VF hb;have e:qC n f p (.tup [a,b,c])=rr n f c:=by have VJ:(dB p a&&dB p b)=true:=hb;show(dB p a&&dB p b&&rr n f c)=_;rw[VJ];rfl
  have rc:=VE (f:=f) hn c;have a2:eX (.tup [a,b,c]) 2=some c:=rfl;rw[e];rw[hb]at g;simp[-ofNat_eq_natCast,a2,rc,g]
theorem VL(d:D):wy [bN n f,iD p,d]=(b9 (qD n p d)):=by
 unfold wy He;cases d with
 | tup ds=>
  by_cases h3:ds.length=2
  .match ds,h3 with
   | [a,b],_=>
    have na:=wR p a;have nb:=wR n b;have l3:dE (.int 2) (.int 2)=some (.bl false):=(BY _ _).trans (by simp);have a0:eX (.tup [a,b]) 0=some a:=rfl;have a1:eX (.tup [a,b]) 1=some b:=rfl;have ll:e8 (.tup [a,b])=some 2:=rfl;cases ha:dB p a<;>simp[-ofNat_eq_natCast,da,ll,l3,a0,a1,na,nb,ha,qD,i3]
  .have e:qD n p (.tup ds)=false:=by
    match ds,h3 with
    | [],_=>rfl
    | [_],_=>rfl
    | [_,_],h=>exact absurd rfl h
    | _::_::_::_,_=>rfl
   have l3:dE (iD ds.length) (.int 2)=some (.bl true):=CH (k:=2) h3;have ll:e8 (.tup ds)=some ds.length:=rfl;rw[e];simp[-ofNat_eq_natCast,da,ll,l3]
 | _=>simp[da,qD]
def jN (n:Nat)(f:Nat->Nat->Nat)(p:Nat):D->Bool
 | .tup ds=>decide (ds.length<=60)&&ds.all (qC n f p)
 | _=>false
def kv (n:Nat)(p:Nat):D->Bool
 | .tup ds=>decide (ds.length<=60)&&ds.all (qD n p)
 | _=>false
theorem VM(hn:n<=1000)(d:D):wx [bN n f,iD p,d]=(b9 (jN n f p d)):=by
 unfold wx Hc;cases d with
 | tup ds=>
  have ll:e8 (.tup ds)=some ds.length:=rfl;by_cases h6:ds.length<=60
  .refine dJ ?_;show aE _ _ [t9 n f,i9 p,some (.tup ds,bq (.tup ds))]=_;refine(aZ (ac:=[t9 n f,i9 p,some (.tup ds,bq (.tup ds))]) ?_).trans ?_
   .have:¬ ((60:Int)<Int.ofNat ds.length):=by show ¬ ((60:Int)<(ds.length:Int));omega
    simp[-ofNat_eq_natCast,da,ll,this]
   .refine fR (ac:=[t9 n f,i9 p,some (.tup ds,bq (.tup ds))]) ?_;have e:jN n f p (.tup ds)=ds.all (qC n f p):=by simp[jN,h6]
    rw[e];refine HK (i:=3) rfl (by simp;omega) (qC n f p) (λ_=>9) λx hx=>?_;have hw:=VI (f:=f) (p:=p) hn x;have vx:aa 3 ([t9 n f,i9 p,some (.tup ds,bq (.tup ds))]++[some (x,bq x)])=some (x,bq x,[t9 n f,i9 p,some (.tup ds,bq (.tup ds))]++[some (x,bq x)]):=yY rfl;exact bY (eE (q:=9) (d:=bN n f) (ac:=[t9 n f,i9 p,some (.tup ds,bq (.tup ds))]++[some (x,bq x)]) rfl (eE (q:=9) (d:=(iD p)) (ac:=[t9 n f,i9 p,some (.tup ds,bq (.tup ds))]++[some (x,bq x)]) rfl (cB vx))) rfl hw
  .have e:jN n f p (.tup ds)=false:=by simp[jN,h6]
   have:(60:Int)<Int.ofNat ds.length:=by show(60:Int)<(ds.length:Int);omega
   rw[e];simp[-ofNat_eq_natCast,da,ll,this]
 | _=>simp[da,jN]
theorem VN(d:D):wz [bN n f,iD p,d]=(b9 (kv n p d)):=by
 unfold wz Hf;cases d with
 | tup ds=>
  have ll:e8 (.tup ds)=some ds.length:=rfl;by_cases h6:ds.length<=60
  .refine dJ ?_;show aE _ _ [t9 n f,i9 p,some (.tup ds,bq (.tup ds))]=_;refine(aZ (ac:=[t9 n f,i9 p,some (.tup ds,bq (.tup ds))]) ?_).trans ?_
   .have:¬ ((60:Int)<Int.ofNat ds.length):=by show ¬ ((60:Int)<(ds.length:Int));omega
    simp[-ofNat_eq_natCast,da,ll,this]
   .refine fR (ac:=[t9 n f,i9 p,some (.tup ds,bq (.tup ds))]) ?_;have e:kv n p (.tup ds)=ds.all (qD n p):=by simp[kv,h6]
    rw[e];refine HK (i:=3) rfl (by simp;omega) (qD n p) (λ_=>9) λx hx=>?_;have hw:=VL (n:=n) (f:=f) (p:=p) x;have vx:aa 3 ([t9 n f,i9 p,some (.tup ds,bq (.tup ds))]++[some (x,bq x)])=some (x,bq x,[t9 n f,i9 p,some (.tup ds,bq (.tup ds))]++[some (x,bq x)]):=yY rfl;exact bY (eE (q:=9) (d:=bN n f) (ac:=[t9 n f,i9 p,some (.tup ds,bq (.tup ds))]++[some (x,bq x)]) rfl (eE (q:=9) (d:=(iD p)) (ac:=[t9 n f,i9 p,some (.tup ds,bq (.tup ds))]++[some (x,bq x)]) rfl (cB vx))) rfl hw
  .have e:kv n p (.tup ds)=false:=by simp[kv,h6]
   have:(60:Int)<Int.ofNat ds.length:=by show(60:Int)<(ds.length:Int);omega
   rw[e];simp[-ofNat_eq_natCast,da,ll,this]
 | _=>simp[da,kv]
def kU (n:Nat)(f:Nat->Nat->Nat):D->Bool
 | .tup [.int k,b,c]=>decide (1<=k)&&decide (k<=8)&&(jN n f k.toNat b&&kv n k.toNat c)
 | _=>false
theorem VO(d:D):wk [d]=(b9 (match d with|.int k=>decide (1<=k)&&decide (k<=8)|_=>false)):=by
 have hw:=mR d;unfold wk G3;cases d with
 | int k=>by_cases k1:1<=k<;>by_cases k2:k<=8<;>simp[hw,k1,k2]
 | _=>simp[hw]
theorem HM(hn:n<=1000)(d:D):iQ [bN n f,d]=(b9 (kU n f d)):=by
 unfold iQ Hh;cases d with
 | tup ds=>
  by_cases h3:ds.length=3
  .match ds,h3 with
   | [a,b,c],_=>
    have l3:dE (.int 3) (.int 3)=some (.bl false):=(BY _ _).trans (by simp);have a0:eX (.tup [a,b,c]) 0=some a:=rfl;have a1:eX (.tup [a,b,c]) 1=some b:=rfl;have a2:eX (.tup [a,b,c]) 2=some c:=rfl;have ll:e8 (.tup [a,b,c])=some 3:=rfl;have hw:=VO a;cases a with
    | int k=>
     by_cases k1:1<=k
     .by_cases k2:k<=8
      .obtain⟨m,rfl⟩:∃ m:Nat,k=Int.ofNat m:=⟨k.toNat,by show k=(k.toNat:Int);omega⟩;have w:=VM (f:=f) (p:=m) hn b;have g:=VN (n:=n) (f:=f) (p:=m) c;have e:kU n f (.tup [iD m,b,c])=(jN n f m b&&kv n m c):=by show(decide (1<=(m:Int))&&decide ((m:Int)<=8)&&(jN n f (m:Int).toNat b&&kv n (m:Int).toNat c))=_;have VP:1<=(m:Int):=k1;have VQ:(m:Int)<=8:=k2;rw[Qt VP,Qt VQ,ZY];rfl
       rw[e];rw[show(match (iD m)with|.int k=>decide (1<=k)&&decide (k<=8)|_=>false)=true by show(decide (1<=Int.ofNat m)&&decide (Int.ofNat m<=8))=true;rw[Qt k1,Qt k2];rfl]at hw;cases hb:jN n f m b<;>simp[-ofNat_eq_natCast,da,ll,l3,a0,a1,a2,hw,w,g,hb]
      .simp[-bq,da,ll,l3,a0,a1,a2,hw,k1,k2,kU]
     .simp[-bq,da,ll,l3,a0,a1,a2,hw,k1,kU]
    | lst es=>simp[da,ll,l3,a0,hw,kU]
    | _=>simp[da,ll,l3,a0,hw,kU]
  .have e:kU n f (.tup ds)=false:=by
    match ds,h3 with
    | [],_=>rfl
    | [x],_=>cases x<;>rfl
    | [x,_],_=>cases x<;>rfl
    | [_,_,_],h=>exact absurd rfl h
    | x::_::_::_::_,_=>cases x<;>rfl
   have l3:dE (iD ds.length) (.int 3)=some (.bl true):=CH (k:=3) h3;have ll:e8 (.tup ds)=some ds.length:=rfl;rw[e];simp[-ofNat_eq_natCast,da,ll,l3]
 | _=>simp[da,kU]
end
structure mV where
 p:Nat
 W:List (Nat×Nat×(Nat->Nat))
 B:List (Nat×Nat)
def jO (n:Nat)(w:Nat×Nat×(Nat->Nat)):D:=.tup [iD w.1,iD w.2.1,iP n w.2.2]
def nV (b:Nat×Nat):D:=.tup [iD b.1,iD b.2]
def gG (n:Nat)(C:mV):D:=.tup [iD C.p,.tup (C.W.map (jO n)),.tup (C.B.map nV)]
abbrev c9 (n:Nat)(C:mV):OD:=some (gG n C,9)
def uj (n:Nat)(f:Nat->Nat->Nat)(p:Nat)(w:Nat×Nat×(Nat->Nat)):Prop:=w.1<p/\w.2.1<p/\(∀ i,i<n->w.2.2 i<n)/\∀ x y,x<n->y<n->f x y=y->f (w.2.2 x) (w.2.2 y)=w.2.2 y
def wV (n:Nat)(p:Nat)(b:Nat×Nat):Prop:=b.1<p/\b.2<n
structure mV.Ok (n:Nat) (f:Nat->Nat->Nat) (C:mV):Prop where
 p1:1<=C.p
 p8:C.p<=8
 VR:C.W.length<=60
 VS:C.B.length<=60
 ws:∀ w∈C.W,uj n f C.p w
 bs:∀ b∈C.B,wV n C.p b
@[simp] theorem Xz{n:Nat}{C:mV}:(gG n C).cI=false:=rfl
@[simp] theorem XA{n:Nat}{w:Nat×Nat×(Nat->Nat)}:(jO n w).cI=false:=rfl
@[simp] theorem XB{b:Nat×Nat}:(nV b).cI=false:=rfl
theorem qE(ns:List Int)(hk:0<=k){m:Int}(hm:0<m):∃ v:Nat,(v:Int)<m/\dS [fT ns,.int k,.int m]=some (.int (Int.ofNat v),9):=by
 have h1:=sH ns k hm;have h2:=ug ns k hm;refine⟨(kq ns k m).toNat,by omega,?_⟩;rw[uf ns k m hk hm];have:kq ns k m=Int.ofNat (kq ns k m).toNat:=by show _=(((kq ns k m).toNat:Nat):Int);omega
 rw[<- this]
theorem yZ(hm:m<=1000){fe:aA}{aB:aV}{q:Nat}(h:fe ρ=some ((iD m),q,aB)):bW (ae fe af) ρ=some (cq m,aB):=by
 have b1:(-1000:Int)<=Int.ofNat m:=by show(-1000:Int)<=m;omega
 have b2:Int.ofNat m<=1000:=by show(m:Int)<=1000;omega
 simp only[bW,ae,af,h];rw[Qk ⟨b1,b2⟩];rfl
section
variable {n:Nat}{f:Nat->Nat->Nat}(L:cC n f){z:Nat}(hz:z<n)(bz:∀ j,j<n->f z j=j)
include L hz bz
theorem VT(ns:List Int)(t:Int)(h0:0<=t){p:Nat}(hp:1<=p)(m:Nat)(hm:m<=7) :
  ∃ W:List (Nat×Nat×(Nat->Nat)),W.length=m/\(∀ w∈W,uj n f p w)/\∃ a b c,fq (ax 6) yS (cq m) [n0 ns,some (.int t,9),t9 n f,b9 false,i9 p,some (.lst [],1),none,none,none,none,none]=some (.nx [n0 ns,some (.int t,9),t9 n f,b9 false,i9 p,some (.lst (W.map (jO n)),1),a,b,c,none,none]):=by
 have y6:(0:Int)<Int.ofNat p:=by show(0:Int)<(p:Int);omega
 obtain⟨aB,e,W,hl,aK,a,b,c,rfl⟩:=nJ (pt:=ax 6) (body:=yS) (cq m) (λi ρ=>∃ W:List (Nat×Nat×(Nat->Nat)),W.length=i/\(∀ w∈W,uj n f p w)/\∃ a b c,ρ=[n0 ns,some (.int t,9),t9 n f,b9 false,i9 p,some (.lst (W.map (jO n)),1),a,b,c,none,none]) [n0 ns,some (.int t,9),t9 n f,b9 false,i9 p,some (.lst [],1),none,none,none,none,none] (λi hi ρ ak=>by
  obtain⟨W,hl,aK,a,b,c,hr⟩:=ak;subst hr;have fG:i<m:=by rw[dX]at hi;exact hi
  obtain⟨x,hx⟩:∃ x:Int,x=t+10+22*Int.ofNat i:=⟨_,rfl⟩;have VU:0<=x:=by have:Int.ofNat i=(i:Int):=rfl;omega
  obtain⟨d,hd,hR⟩:=Vo L hz bz ns (x+2) (by omega);obtain⟨s,hs,es⟩:=qE ns VU y6;obtain⟨g,hg,eg⟩:=qE ns (show 0<=x+1 by omega) y6;have j0:s<p:=by have:(s:Int)<(p:Int):=hs;omega
  have mr:g<p:=by have:(g:Int)<(p:Int):=hg;omega
  have qV:uj n f p (s,g,cC.lr n f z d):=⟨j0,mr,λi _=>L.qt hz bz hd i,λx y hx hy e=>L.mG hz bz hd hx hy e⟩;generalize cC.lr n f z d=r at *
  have hW:W.length<=1000:=by omega
  refine⟨[n0 ns,some (.int t,9),t9 n f,b9 false,i9 p,some (.lst (W.map (jO n)),1),i9 i,b,c,none,none],[n0 ns,some (.int t,9),t9 n f,b9 false,i9 p,some (.lst ((W++[(s,g,r)]).map (jO n)),1),i9 i,some (.int x,9),r9 n r,none,none],by rw[qA];simp,.inl ?_,W++[(s,g,r)],by simp[hl],λw hw=>?_,_,_,_,rfl⟩
  .unfold yS;refine(aZ (ac:=[n0 ns,some (.int t,9),t9 n f,b9 false,i9 p,some (.lst (W.map (jO n)),1),i9 i,some (.int x,9),c,none,none]) (by rw[hx];simp[-ofNat_eq_natCast])).trans ?_;refine(aZ (ac:=[n0 ns,some (.int t,9),t9 n f,b9 false,i9 p,some (.lst (W.map (jO n)),1),i9 i,some (.int x,9),r9 n r,none,none]) (by simp[-ofNat_eq_natCast,hR])).trans ?_;refine(aZ (ac:=[n0 ns,some (.int t,9),t9 n f,b9 false,i9 p,some (.lst (W.map (jO n)),1),i9 i,some (.int x,9),r9 n r,none,none]) (by simp[-ofNat_eq_natCast])).trans ?_;simp[-ofNat_eq_natCast,es,eg,hW,jO]
  .rcases QL.mp hw with h|h
   .exact aK w h
   .rw[Qu.mp h];exact qV) ⟨[],rfl,(λ_ z=>nomatch z),none,none,none,rfl⟩
 rw[dX]at hl;exact⟨W,hl,aK,a,b,c,e⟩
theorem VV(ns:List Int)(t:Int)(h0:0<=t){p:Nat}(hp:1<=p)(m:Nat)(hm:m<=3)(W:OD)(a b c:OD) :
  ∃ B:List (Nat×Nat),B.length=m/\(∀ w∈B,wV n p w)/\∃ a' h,fq (ax 6) yR (cq m) [n0 ns,some (.int t,9),t9 n f,b9 false,i9 p,W,a,b,c,some (.lst [],1),none]=some (.nx [n0 ns,some (.int t,9),t9 n f,b9 false,i9 p,W,a',b,c,some (.lst (B.map nV),1),h]):=by
 have y6:(0:Int)<Int.ofNat p:=by show(0:Int)<(p:Int);omega
 have wM:(0:Int)<Int.ofNat n:=by have:=L.lo;show(0:Int)<(n:Int);omega
 obtain⟨aB,e,B,hl,aK,a',h,rfl⟩:=nJ (pt:=ax 6) (body:=yR) (cq m) (λi ρ=>∃ B:List (Nat×Nat),B.length=i/\(∀ w∈B,wV n p w)/\∃ a h,ρ=[n0 ns,some (.int t,9),t9 n f,b9 false,i9 p,W,a,b,c,some (.lst (B.map nV),1),h]) [n0 ns,some (.int t,9),t9 n f,b9 false,i9 p,W,a,b,c,some (.lst [],1),none] (λi hi ρ ak=>by
  obtain⟨B,hl,aK,a,h,hr⟩:=ak;subst hr;have fG:i<m:=by rw[dX]at hi;exact hi
  have Vq:Int.ofNat i=(i:Int):=rfl;obtain⟨v,hv,ev⟩:=qE ns (show 0<=t+3+2*Int.ofNat i by omega) wM;obtain⟨g,hg,eg⟩:=qE ns (show 0<=t+4+2*Int.ofNat i by omega) y6;have Bm:v<n:=by have:(v:Int)<(n:Int):=hv;omega
  have mr:g<p:=by have:(g:Int)<(p:Int):=hg;omega
  have hB:B.length<=1000:=by omega
  refine⟨[n0 ns,some (.int t,9),t9 n f,b9 false,i9 p,W,i9 i,b,c,some (.lst (B.map nV),1),h],[n0 ns,some (.int t,9),t9 n f,b9 false,i9 p,W,i9 i,b,c,some (.lst ((B++[(g,v)]).map nV),1),i9 v],by rw[qA];simp,.inl ?_,B++[(g,v)],by simp[hl],λw hw=>?_,_,_,rfl⟩
  .unfold yR;refine(aZ (ac:=[n0 ns,some (.int t,9),t9 n f,b9 false,i9 p,W,i9 i,b,c,some (.lst (B.map nV),1),i9 v]) (by simp[-ofNat_eq_natCast,i3,ev])).trans ?_;simp[-ofNat_eq_natCast,eg,hB,nV]
  .rcases QL.mp hw with h|h
   .exact aK w h
   .rw[Qu.mp h];exact⟨mr,Bm⟩) ⟨[],rfl,(λ_ z=>nomatch z),a,none,rfl⟩
 rw[dX]at hl;exact⟨B,hl,aK,a',h,e⟩
theorem VW(ns:List Int)(t:Int)(h0:0<=t):∃ C:mV,C.Ok n f/\C.p<=5/\C.W.length<=7/\C.B.length<=3/\wb [fT ns,.int t,bN n f,.bl false]=(c9 n C):=by
 obtain⟨p0,XD,ep⟩:=qE ns h0 (m:=5) (by decide);obtain⟨mw,XF,ew⟩:=qE ns (show 0<=t+1 by omega) (m:=8) (by decide);obtain⟨mb,XG,eb⟩:=qE ns (show 0<=t+2 by omega) (m:=4) (by decide);obtain⟨p,hp⟩:∃ p:Nat,p=p0+1:=⟨_,rfl⟩;have lY:(1:Int)+Int.ofNat p0=Int.ofNat p:=by show(1:Int)+(p0:Int)=(p:Int);omega
 obtain⟨W,XH,CI,a,b,c,eW⟩:=VT L hz bz ns t h0 (p:=p) (by omega) mw (by omega);obtain⟨B,XI,CJ,a',h,eB⟩:=VV L hz bz ns t h0 (p:=p) (by omega) mb (by omega) (some (.lst (W.map (jO n)),1)) a b c;refine⟨⟨p,W,B⟩,⟨by show 1<=p;omega,by show p<=8;omega,by show W.length<=60;omega,by show B.length<=60;omega,CI,CJ⟩,by show p<=5;omega,by show W.length<=7;omega,by show B.length<=3;omega,?_⟩;unfold wb Gv;refine dJ ?_;show aE _ _ [n0 ns,some (.int t,9),t9 n f,b9 false,none,none,none,none,none,none,none]=_;refine(aZ (ac:=[n0 ns,some (.int t,9),t9 n f,b9 false,i9 p,none,none,none,none,none,none]) (by simp[-ofNat_eq_natCast,ep,lY])).trans ?_;refine(aZ (ac:=[n0 ns,some (.int t,9),t9 n f,b9 false,i9 p,some (.lst [],1),none,none,none,none,none]) (by simp)).trans ?_;refine(aZ ((fS (ac:=[n0 ns,some (.int t,9),t9 n f,b9 false,i9 p,some (.lst [],1),none,none,none,none,none]) (yZ (m:=mw) (by omega) (q:=9) (by simp[-ofNat_eq_natCast,ew]))).trans eW)).trans ?_;refine(aZ (ac:=[n0 ns,some (.int t,9),t9 n f,b9 false,i9 p,some (.lst (W.map (jO n)),1),a,b,c,some (.lst [],1),none]) (by simp)).trans ?_;refine(aZ ((fS (ac:=[n0 ns,some (.int t,9),t9 n f,b9 false,i9 p,some (.lst (W.map (jO n)),1),a,b,c,some (.lst [],1),none]) (yZ (m:=mb) (by omega) (q:=9) (by simp[-ofNat_eq_natCast,eb]))).trans eB)).trans ?_;simp[-ofNat_eq_natCast,gG]
end
section
variable {n:Nat}{f:Nat->Nat->Nat}
theorem wW(p s:Nat):dB p (iD s)=decide (s<p):=by show(decide ((0:Int)<=(s:Int))&&decide ((s:Int)<(p:Int)))=_;simp
theorem VX{p:Nat}{w:Nat×Nat×(Nat->Nat)}(h:uj n f p w):qC n f p (jO n w)=true:=by show(dB p (iD w.1)&&dB p (iD w.2.1)&&rr n f (iP n w.2.2))=true;rw[wW,wW,VD h.2.2.1,CC.mpr λy x hy hx e=>h.2.2.2 x y hx hy e,Qt h.1,Qt h.2.1];rfl
theorem VY{p:Nat}{b:Nat×Nat}(h:wV n p b):qD n p (nV b)=true:=by show(dB p (iD b.1)&&dB n (iD b.2))=true;rw[wW,wW,Qt h.1,Qt h.2];rfl
theorem VZ{p:Nat}{W:List (Nat×Nat×(Nat->Nat))}(hl:W.length<=60)(h:∀ w∈W,uj n f p w):jN n f p (.tup (W.map (jO n)))=true:=by simp only[jN,Qa,QX,Zl,QU];refine⟨hl,λx hx=>?_⟩;obtain⟨w,hw,rfl⟩:=Qm.mp hx;exact VX (h w hw)
theorem V0{p:Nat}{B:List (Nat×Nat)}(hl:B.length<=60)(h:∀ w∈B,wV n p w):kv n p (.tup (B.map nV))=true:=by simp only[kv,Qa,QX,Zl,QU];refine⟨hl,λx hx=>?_⟩;obtain⟨w,hw,rfl⟩:=Qm.mp hx;exact VY (h w hw)
theorem HN(p:Nat)(b c:D):kU n f (.tup [iD p,b,c])=(decide (1<=p)&&decide (p<=8)&&(jN n f p b&&kv n p c)):=by show(decide (1<=(p:Int))&&decide ((p:Int)<=8)&&(jN n f (p:Int).toNat b&&kv n (p:Int).toNat c))=_;have e1:decide (1<=(p:Int))=decide (1<=p):=Ju.mpr (by omega);have e2:decide ((p:Int)<=8)=decide (p<=8):=Ju.mpr (by omega);rw[e1,e2,ZY]
theorem V3{C:mV}(h:C.Ok n f):kU n f (gG n C)=true:=by unfold gG;rw[HN,Qt h.p1,Qt h.p8,VZ h.VR h.ws,V0 h.VS h.bs];rfl
end
theorem y7{α:Type}{k:Nat}{pt:eo}(enc:α->D)(ext:α->aV)(b:α->Bool)(v:α->D)(q:α->Nat):∀ l:List α,
  (∀ x∈l,pt (enc x) (ρ++replicate k none)=some (ρ++ext x)/\tt (ρ++ext x)=some (b x,ρ++ext x)/\(b x=true->te (ρ++ext x)=some (v x,q x,ρ++ext x)))->iK k pt tt te false (l.map enc) ρ=some ((l.filter b).map v,ρ)
 | [],_=>rfl
 | x::l,h=>by
  obtain⟨h1,h2,h3⟩:=h x Qd;have ih:=y7 enc ext b v q l (λy m=>h y (Qc _ m));have ht:(ρ++ext x).take ρ.length=ρ:=by simp
  rw[Qr];unfold iK;rw[h1];simp only[h2];cases hb:b x with
  | true=>
   simp only[ZZ,h3 hb,ht,ih];rw[List.filter_cons_of_pos hb];simp
  | false=>
   simp only[ht,ih];rw[List.filter_cons_of_neg (by rw[hb];simp)];simp
theorem V4{pt:eo}{body:aH}(h1:pt d ρ=some ac)(h2:body ac=some (.bk ad)):fq pt body (d::ds) ρ=some (.nx ad):=by unfold fq;rw[h1];simp only[h2]
theorem V5{ns:List Int}(HP:ns.length<=63)(hm:m+1<=1000)(once:∀ y8:List Int,sG [fT y8]=(b9 true)):∃ x,dy (bW (ae (eC (iD (m+1))) af)) (ax 1) wJ [n0 ns,none]=some (.nx [n0 ns,x]):=by
 have hl:(ns.map D.int).length<=1000:=by rw[Qa];omega
 have hc:∀ (t:Nat),cA 1 (bH (aa 0)) (ax 2) bE (e2 bG (aa 2) (e2 j3 (eC (.int 7919)) (aa 1))) false [n0 ns,i9 t]=some (fT (ns.map λx=>x+7919*Int.ofNat t),1,[n0 ns,i9 t]):=λt=>by
  have h:=HJ (i:=2) (te:=e2 bG (aa 2) (e2 j3 (eC (.int 7919)) (aa 1))) (ρ:=[n0 ns,i9 t]) (ns.map D.int) rfl (λd=>match d with|.int x=>.int (x+7919*Int.ofNat t)|d=>d) (λ_=>9) (λd hd=>by obtain⟨x,_,rfl⟩:=Qm.mp hd;simp[-ofNat_eq_natCast])
  have uG:ns.length<=1000:=by omega
  refine(iO (deep:=false) (by simp[uG]) h).trans ?_;simp[-ofNat_eq_natCast,Zn]
 have step:∀ (t:Nat),wJ [n0 ns,i9 t]=some (if ns=[]then .bk [n0 ns,i9 t]else .nx [n0 ns,i9 t]):=λt=>by
  have h1:=once (ns.map λx=>x+7919*Int.ofNat t);unfold wJ;refine(aZ (ac:=[n0 ns,i9 t]) ?_).trans ?_
  .have e:=bY (F:=sG) (n:=1) (cB (hc t)) rfl h1;simp only[cj,dP,dm,e];rfl
  .have e:=Cy ns;by_cases g8:ns=[]
   .rw[Qk g8];rw[Qt g8]at e;simp[-ofNat_eq_natCast,e]
   .rw[Qw g8];rw[Zd g8]at e;simp[-ofNat_eq_natCast,e]
 have hr:bW (ae (eC (iD (m+1))) af) [n0 ns,none]=some (cq (m+1),[n0 ns,none]):=by simp only[bW,cB (f:=eC (iD (m+1))) (q:=9) (ρ:=[n0 ns,none]) rfl];rw[Qk ⟨by show(-1000:Int)<=((m+1:Nat):Int);omega,by show((m+1:Nat):Int)<=1000;omega⟩];rfl
 rw[fS hr];by_cases g8:ns=[]
 .refine⟨i9 0,?_⟩;have h:=step 0;rw[Qk g8]at h;have e:cq (m+1)=(iD 0)::(cq (m+1)).tail:=by unfold cq;rw[ZS];rfl
  rw[e];exact V4 (ac:=[n0 ns,i9 0]) (by simp) h
 .obtain⟨aB,e,x,rfl⟩:=nJ (pt:=ax 1) (body:=wJ) (cq (m+1)) (λ_ ρ=>∃ x,ρ=[n0 ns,x]) [n0 ns,none] (λi hi ρ ⟨x,hx⟩=>by subst hx;have h:=step i;rw[Qw g8]at h;refine⟨[n0 ns,i9 i],_,by rw[qA];simp,.inl h,_,rfl⟩) ⟨none,rfl⟩
  exact⟨x,e⟩
abbrev cl (x:Str):List Nat:=x.cps.toList
theorem y9(h:cl x=cl y):x=y:=by obtain⟨⟨a⟩⟩:=x;obtain⟨⟨b⟩⟩:=y;cases h;rfl
theorem pj(x y:Str):cl (x++y)=cl x++cl y:=by show(x.cps++y.cps).toList=_;simp
theorem mW(x:Str):x.length=(cl x).length:=by simp[Str.length]
theorem uk(x y:Str):(x++y).length=x.length+y.length:=Z1 x y
def bD:Str:=⟨#[10]⟩
def spS:Str:=⟨#[32]⟩
theorem CK:("\n":Str)=bD:=by decide +kernel
theorem y_:(" ":Str)=spS:=by decide +kernel
theorem V6:("":Str)=Str.empty:=by decide +kernel
theorem mX(c:Nat):∀ (x:Str) (l:List Str),cl (Str.join ⟨#[c]⟩ (x::l))=cl x++(l.map λy=>c::cl y).flatten
 | x,[]=>by show cl x=_;simp
 | x,y::l=>by show cl (x++⟨#[c]⟩++Str.join ⟨#[c]⟩ (y::l))=_;rw[pj,pj,mX c y l];show cl x++[c]++_=_;simp
theorem HQ:∀ {a b u v:List Nat},c ∉ a->c ∉ b->a++c::u=b++c::v->a=b/\u=v
 | [],[],u,v,_,_,e=>by cases e;exact⟨rfl,rfl⟩
 | [],y::b,u,v,_,hb,e=>by cases e;exact absurd Qd hb
 | x::a,[],u,v,ha,_,e=>by cases e;exact absurd Qd ha
 | x::a,y::b,u,v,ha,hb,e=>by obtain⟨rfl,e'⟩:=List.cons.inj e;obtain⟨rfl,rfl⟩:=HQ (λz=>ha (Qc _ z)) (λz=>hb (Qc _ z)) e';exact⟨rfl,rfl⟩
theorem HR{a b v:List Nat}(ha:c ∉ a)(e:a=b++c::v):False:=ha (e ▸ Qg _ Qd)
theorem HS:∀ {x y:Str} {l m:List Str},(∀ p∈x::l,c ∉ cl p)->(∀ p∈y::m,c ∉ cl p)->cl x++(l.map λy=>c::cl y).flatten=cl y++(m.map λy=>c::cl y).flatten->x=y/\l=m
 | x,y,[],[],_,_,e=>by simp only[Z7,Yk,QY]at e;exact⟨y9 e,rfl⟩
 | x,y,[],z::m,hx,_,e=>by simp only[Z7,Yk,QY,Qr,QR]at e;exact(HR (hx x Qd) e).elim
 | x,y,z::l,[],_,hy,e=>by simp only[Z7,Yk,QY,Qr,QR]at e;exact(HR (hy y Qd) e.symm).elim
 | x,y,z::l,z'::m,hx,hy,e=>by simp only[Qr,QR,Yl]at e;obtain⟨e1,e2⟩:=HQ (hx x Qd) (hy y Qd) e;obtain⟨rfl,rfl⟩:=HS (x:=z) (y:=z') (λp hp=>hx p (Qc _ hp)) (λp hp=>hy p (Qc _ hp)) e2;exact⟨y9 e1,rfl⟩
theorem HU{l:List Str}(h:∀ p∈x::l,c ∉ cl p):Txt.split (Str.join ⟨#[c]⟩ (x::l)) ⟨#[c]⟩=x::l:=by
 have e:=JZ (Str.join ⟨#[c]⟩ (x::l)) ⟨#[c]⟩;have f:=StrLaws.split_free (Str.join ⟨#[c]⟩ (x::l)) c;cases hs:Txt.split (Str.join ⟨#[c]⟩ (x::l)) ⟨#[c]⟩with
 | nil=>
  exfalso;unfold Txt.split at hs;split at hs
  .cases hs
  .split at hs
   .cases hs
   .rw[StrLaws.partsBetween_eq]at hs;obtain⟨p,r,q⟩:=StrLaws.partsFrom_ne (Str.join ⟨#[c]⟩ (x::l)) (⟨#[c]⟩:Str).length 0 (Builtin.Str.occurrences (Str.join ⟨#[c]⟩ (x::l)) ⟨#[c]⟩ 0 (Str.join ⟨#[c]⟩ (x::l)).length ((Str.join ⟨#[c]⟩ (x::l)).length+1));rw[q]at hs;cases hs
 | cons y m=>
  rw[hs]at e f;have e':=Zr cl e;rw[mX,mX]at e';obtain⟨rfl,rfl⟩:=HS f h e';rfl
def cw (x:Str):Prop:=∀ c∈cl x,c<128
theorem HV(h:cw x)(h':cw y):cw (x++y):=λc hc=>by
 rw[pj]at hc;rcases QL.mp hc with z|z
 .exact h c z
 .exact h' c z
theorem V7(h:cw x):lay (.str x)=true:=by show(true&&(PyData.str x).canLay0)=true;rw[Je];show PyData.strOk x=true;unfold PyData.strOk;rw[Array.all_eq_true'];intro c hc;exact Qt (Zj (h c (by simpa using hc)) (by decide))
theorem sM(h:cw x):Sh 0 (.str x):=⟨V7 h,Jl _⟩
theorem HW(x y:Str):oD (.str x) (.str y)=decide (x=y):=by show(x==y)=decide (x=y);rw[Bool.eq_iff_iff];simp
theorem CL(hx:cw x)(hy:cw y):dE (.str x) (.str y)=some (.bl (!decide (x=y))):=by unfold dE;rw[Qk ⟨(sM hx).ok,(sM hy).ok⟩,HW]
theorem V8(hx:cw x)(hy:cw y):eZ (.str x) (.str y)=some (.bl (decide (x=y))):=by unfold eZ;rw[Qk ⟨(sM hx).ok,(sM hy).ok⟩,HW]
theorem V9{l:List Str}{p:Str}(hp:p∈x::l){d:Nat}(hd:d∈cl p):d∈cl (Str.join ⟨#[c]⟩ (x::l)):=by
 rw[mX];rcases Qp.mp hp with z|z
 .subst z;exact QW _ hd
 .exact Qg _ (Jw.mpr ⟨_,Qm.mpr ⟨p,z,rfl⟩,Qc _ hd⟩)
theorem HX{t:Str}(h:cw t):∀ p∈Txt.split t ⟨#[c]⟩,cw p:=λp hp d hd=>by
 have e:=JZ t ⟨#[c]⟩;cases hs:Txt.split t ⟨#[c]⟩with
 | nil=>rw[hs]at hp;cases hp
 | cons x l=>
  rw[hs]at hp e;have:=V9 (c:=c) hp hd;rw[e]at this;exact h d this
theorem za(c:Nat):∀ l:List Str,((l.map λy=>c::cl y).flatten).length=(l.map (·.length)).sum+l.length
 | []=>rfl
 | y::l=>by rw[Qr,QR,Qe,za c l,Qr,ZJ,QK,QK,mW];omega
theorem HY(t:Str):((Txt.split t ⟨#[c]⟩).map (·.length)).sum+(Txt.split t ⟨#[c]⟩).length<=t.length+1:=by
 have e:=JZ t ⟨#[c]⟩;cases hs:Txt.split t ⟨#[c]⟩with
 | nil=>show 0+0<=_;omega
 | cons x l=>
  rw[hs]at e;have e':=Zr (λz=>(cl z).length) e;simp only[mX,Qe,za]at e';rw[Qr,ZJ,QK,mW t,<- e',mW];omega
theorem CM(t:Str):(Txt.split t ⟨#[c]⟩).length<=t.length+1:=by have:=HY (c:=c) t;omega
theorem V_{l:List Str}{p:Str}(h:p∈l):p.length<=(l.map (·.length)).sum:=by
 induction l with
 | nil=>cases h
 | cons x l ih=>
  rw[Qr,ZJ];rcases Qp.mp h with z|z
  .subst z;omega
  .have:=ih z;omega
theorem Wa{t p:Str}(h:p∈Txt.split t ⟨#[c]⟩):p.length<=t.length:=by have h1:=HY (c:=c) t;have h2:=V_ h;have h3:0<(Txt.split t ⟨#[c]⟩).length:=List.length_pos_of_mem h;omega
def b_ (n:Nat):Str:=Str.ofString (toString (Int.ofNat n))
def jP:List Str:=(range 16).map b_
theorem pq:∀ n,n<16->(b_ n).length<=2/\(∀ c∈cl (b_ n),48<=c/\c<=57)/\cl (b_ n) ≠ []/\jP.findIdx? (· == b_ n)=some n:=by decide +kernel
theorem zb{n:Nat}(h:n<16):kP [iD n]=some (.str (b_ n)):=by have h':(0:Int)<=Int.ofNat n/\Int.ofNat n<1000000:=⟨JV n,Int.lt_trans (Int.ofNat_lt.mpr h) (by decide)⟩;unfold kP b_;dsimp only;rw[Qk h']
theorem zc{n:Nat}(h:n<16):cw (b_ n):=λc hc=>by have:=((pq n h).2.1 c hc).2;omega
theorem zd{n:Nat}(h:n<16)(hc:c<48):c ∉ cl (b_ n):=λz=>by have:=((pq n h).2.1 c z).1;omega
def hZ (w:Str):Option Nat:=jP.findIdx? (· == w)
theorem Wb{n:Nat}(h:n<16):hZ (b_ n)=some n:=(pq n h).2.2.2
theorem CN{w:Str}{n:Nat}(h:hZ w=some n):n<16/\w=b_ n:=by
 unfold hZ at h;obtain⟨h1,h2,_⟩:=ZF.mp h;have hl:n<16:=by simpa [jP]using h1
 refine⟨hl,?_⟩;have:jP[n]'h1=b_ n:=by simp[jP]
 rw[this]at h2;exact(eq_of_beq h2).symm
def aX (ns:List Nat):Str:=Str.join spS (ns.map b_)
theorem CO{ns:List Nat}(h:∀ n∈ns,n<16):10 ∉ cl (aX ns):=by
 unfold aX;cases ns with
 | nil=>intro z;cases z
 | cons n ns=>
  rw[Qr];unfold spS;rw[mX];intro z;rcases QL.mp z with z|z
  .exact zd (h n Qd) (by decide) z
  .obtain⟨l,hl,hz⟩:=Jw.mp z;obtain⟨y,hy,rfl⟩:=Qm.mp hl;obtain⟨k,hk,rfl⟩:=Qm.mp hy;rcases Qp.mp hz with q|q
   .cases q
   .exact zd (h k (Qc _ hk)) (by decide) q
theorem CP{ns:List Nat}(h:∀ n∈ns,n<16):cw (aX ns):=by
 unfold aX;cases ns with
 | nil=>intro c z;cases z
 | cons n ns=>
  rw[Qr];unfold spS cw;rw[mX];intro c z;rcases QL.mp z with z|z
  .exact zc (h n Qd) c z
  .obtain⟨l,hl,hz⟩:=Jw.mp z;obtain⟨y,hy,rfl⟩:=Qm.mp hl;obtain⟨k,hk,rfl⟩:=Qm.mp hy;rcases Qp.mp hz with q|q
   .rw[q];decide
   .exact zc (h k (Qc _ hk)) c q
theorem CQ{ns:List Nat}(h:∀ n∈ns,n<16):((ns.map b_).map (·.length)).sum<=2*ns.length:=by
 induction ns with
 | nil=>exact Qf _
 | cons n ns ih=>
  rw[Qr,Qr,ZJ,QK];have h1:=(pq n (h n Qd)).1;have h2:=ih λk hk=>h k (Qc _ hk);omega
theorem ze{ns:List Nat}(h:∀ n∈ns,n<16):(aX ns).length<=3*ns.length:=by
 unfold aX;cases ns with
 | nil=>exact Qf _
 | cons n ns=>
  rw[Qr];unfold spS;rw[mW,mX,Qe,za,<- mW,Qa,QK];have h1:=(pq n (h n Qd)).1;have h2:=CQ λk hk=>h k (Qc n hk);omega
def h_ (l:Str):Option (List Nat):=(Txt.split l spS).mapM hZ
theorem HZ:∀ {ns:List Nat},(∀ n∈ns,n<16)->(ns.map b_).mapM hZ=some ns
 | [],_=>rfl
 | n::ns,h=>by rw[Qr,Jo,Wb (h n Qd),HZ λk hk=>h k (Qc _ hk)];rfl
theorem Wc{ns:List Nat}(h0:ns ≠ [])(h:∀ n∈ns,n<16):h_ (aX ns)=some ns:=by
 unfold h_ aX;cases ns with
 | nil=>exact absurd rfl h0
 | cons n ns=>
  rw[Qr];unfold spS;rw[HU,<- Qr,HZ h];intro p hp;rw[<- Qr]at hp;obtain⟨k,hk,rfl⟩:=Qm.mp hp;exact zd (h k hk) (by decide)
theorem um(i:Int):PyData.eqv (cn (.int i)) (cn (.int i))=true:=by show(i==i)=true;simp
theorem qF(h:∀ d∈ds,PyData.eqv (cn d) (cn d)=true):PyData.eqv (cn (.tup ds)) (cn (.tup ds))=true:=by
 have go:∀ ds:List D,(∀ d∈ds,PyData.eqv (cn d) (cn d)=true)->PyData.eqvAll (d3 ds) (d3 ds)=true:=by
  intro ds;induction ds with
  | nil=>intro _;rfl
  | cons d ds ih=>
   intro h;show(PyData.eqv (cn d) (cn d)&&PyData.eqvAll (d3 ds) (d3 ds))=true;rw[h d Qd,ih λx m=>h x (Qc _ m)];rfl
 exact go ds h
theorem H0(n:Nat)(r:Nat->Nat):PyData.eqv (cn (iP n r)) (cn (iP n r))=true:=qF λd hd=>by obtain⟨x,_,rfl⟩:=Qm.mp hd;exact um _
theorem zf{P:D->Prop}{a b c:D}(h1:P a)(h2:P b)(h3:P c):∀ d ∈ [a,b,c],P d:=λd hd=>by
 rcases Qp.mp hd with rfl|hd
 .exact h1
 .rcases Qp.mp hd with rfl|hd
  .exact h2
  .rcases Qp.mp hd with rfl|hd
   .exact h3
   .cases hd
theorem zg{P:D->Prop}{a b:D}(h1:P a)(h2:P b):∀ d ∈ [a,b],P d:=λd hd=>by
 rcases Qp.mp hd with rfl|hd
 .exact h1
 .rcases Qp.mp hd with rfl|hd
  .exact h2
  .cases hd
theorem Wd(n:Nat)(C:mV):PyData.eqv (cn (gG n C)) (cn (gG n C))=true:=qF (zf (um _)
 (qF λd hd=>by obtain⟨w,_,rfl⟩:=Qm.mp hd;exact qF (zf (um _) (um _) (H0 _ _)))
 (qF λd hd=>by obtain⟨b,_,rfl⟩:=Qm.mp hd;exact qF (zg (um _) (um _))))
theorem We(n:Nat)(C:mV):Sh 4 (gG n C):=.tup (zf (.int _)
 (.tup λd hd=>by obtain⟨w,_,rfl⟩:=Qm.mp hd;exact .tup (zf (.int _) (.int _) ⟨(F8 _ _).1,(F8 _ _).2⟩))
 (.tup λd hd=>by obtain⟨b,_,rfl⟩:=Qm.mp hd;exact .tup (zg (.int _) (.int _))))
theorem CS{α β:Type}(f:α->Option β):∀ l:List α,(l.mapM f=none/\(l.all λx=>(f x).isSome)=false)\/∃ r,l.mapM f=some r/\(l.all λx=>(f x).isSome)=true/\r.length=l.length/\∀ (h:β->D),l.map (λx=>((f x).map h).getD .aO)=r.map h
 | []=>.inr ⟨[],rfl,rfl,rfl,λ_=>rfl⟩
 | x::l=>by
  cases hx:f x with
  | none=>exact .inl ⟨by rw[Jo,hx];rfl,by rw[ZW,hx];rfl⟩
  | some y=>
   rcases CS f l with⟨h1,h2⟩|⟨r,h1,h2,h4,h3⟩
   .exact .inl ⟨by rw[Jo,hx,h1];rfl,by rw[ZW,hx,h2];rfl⟩
   .refine .inr ⟨y::r,by rw[Jo,hx,h1];rfl,by rw[ZW,hx,h2];rfl,by rw[QK,QK,h4],λh=>?_⟩;rw[Qr,Qr,h3 h,hx];rfl
theorem CT(hi:ρ.length=i)(hd:d.cI=false):ax i d (ρ++replicate 1 none)=some (ρ++[some (d,9)]):=by unfold ax;rw[Qk (by simp[hi])];subst hi;simp[hd]
theorem CU{nm:Str}(hi:ρ.length=i)(g:Str->Option D):∀ ws:List Str,
  (∀ w∈ws,(∀ d,g w=some d->xe (ρ++[some (.str w,9)])=none/\te (ρ++[some (.str w,9)])=some (d,9,ρ++[some (.str w,9)]))/\(g w=none->xe (ρ++[some (.str w,9)])=some nm))->
  lB 1 (ax i) bE te xe (ws.map D.str) ρ=if(ws.all λw=>(g w).isSome)=true then none else some nm
 | [],_=>rfl
 | w::ws,h=>by
  obtain⟨h1,h2⟩:=h w Qd;rw[Qr];unfold lB;rw[CT hi rfl];show(if true=true then(match xe (ρ++[some (D.str w,9)])with|some nm=>some nm|none=>_)else _)=_;rw[Qk rfl,ZW];cases hg:g w with
  | none=>rw[h2 hg];rfl
  | some d=>
   obtain⟨e1,e2⟩:=h1 d hg;rw[e1,e2];show lB 1 (ax i) bE te xe (ws.map D.str) ((ρ++[some (D.str w,9)]).take ρ.length)=_;rw[List.take_left',CU hi g ws λv hv=>h v (Qc _ hv)]
   .rfl
   .rfl
theorem H9(hi:ρ.length=i)(g:Str->Option D)(ws:List Str)(il:(ws.all λw=>(g w).isSome)=true)
  (h:∀ w∈ws,∀ d,g w=some d->te (ρ++[some (.str w,9)])=some (d,9,ρ++[some (.str w,9)])):iK 1 (ax i) bE te false (ws.map D.str) ρ=some (ws.map (λw=>(g w).getD .aO),ρ):=by
 have e:=y7 (k:=1) (pt:=ax i) (tt:=bE) (te:=te) (ρ:=ρ) D.str (λw=>[some (.str w,9)]) (λ_=>true) (λw=>(g w).getD .aO) (λ_=>9) ws (λw hw=>⟨CT hi rfl,rfl,λ_=>by obtain⟨d,hd⟩:=Zh.mp (QU.mp il w hw);rw[hd];exact h w hw d hd⟩)
 rw[JJ.mpr λ_ _=>rfl]at e;exact e
theorem nW{f:aH}{x:cY}(h:f ρ=some (.nx ac)):jG f x ρ=x ac:=by unfold jG;rw[h]
theorem Wf{f:aH}{x:cY}{q:Nat}(h:f ρ=some (.rt d q)):jG f x ρ=none:=by unfold jG;rw[h]
theorem H_{g:cy}{x y:cY}(h:g ρ=some (true,ac)):oU g x y ρ=x ac:=by unfold oU;rw[h];rfl
theorem Ie{g:cy}{x y:cY}(h:g ρ=some (false,ac)):oU g x y ρ=y ac:=by unfold oU;rw[h];rfl
theorem uo{x y:cY}(h:x ρ=none):ly x y ρ=y ρ:=by unfold ly;rw[h]
theorem uq{x y:cY}{nm:Str}(h:x ρ=some nm):ly x y ρ=some nm:=by unfold ly;rw[h]
theorem nX{F:List D->Option Str}{n:Nat}(h:g ρ=some (ds,ac))(hl:ds.length=n):iM F n g ρ=F ds:=by unfold iM;rw[h];exact Qk hl
theorem sN{k:Nat}{pt:eo}(h:it ρ=some (ds,ac)):oY k it pt tt te xe ρ=lB k pt tt te xe ds ac:=by unfold oY;rw[h]
theorem Ig(ws:List Str):d3 (ws.map D.str)=ws.map PyData.str:=by rw[BO,QG];rfl
theorem Ih{ws:List Str}(h:∀ w∈ws,cw w):Sh 1 (.lst (ws.map D.str)):=Sh.lst λd hd=>by obtain⟨w,hw,rfl⟩:=Qm.mp hd;exact sM (h w hw)
theorem Ii:∀ w∈jP,cw w:=λw hw=>by obtain⟨n,hn,rfl⟩:=Qm.mp hw;exact zc (QN.mp hn)
theorem Ij{w:Str}(h:cw w):oE (.str w) (.lst (jP.map D.str))=some (.bl (!(hZ w).isSome)):=by
 unfold oE;rw[Qk ⟨(sM h).ok,(Ih Ii).ok⟩];show some (D.bl (!((d3 (jP.map D.str)).any λy=>PyData.eqv y (.str w))))=_;rw[Ig,List.any_map];have e:jP.any ((λy=>PyData.eqv y (.str w)) ∘ PyData.str)=(hZ w).isSome:=by unfold hZ;rw[List.findIdx?_isSome];rfl
 rw[e]
theorem Wg{w:Str}{n:Nat}(h:hZ w=some n):vi (.str w) (jP.map D.str)=some n:=by unfold vi;rw[Ig,List.findIdx?_map];exact h
abbrev W2 (w:Str)(q:Nat):aV:=[some (.str w,9),some (.lst (jP.map D.str),q)]
theorem CV(w:Str):aY 1 (cA 1 (bW (ae (eC (.int 16)) af)) (ax 2) bE (eB kP (ae (aa 2) af)) false) [some (.str w,9),none]=some (.nx (W2 w 1)):=by
 have hr:bW (ae (eC (.int 16)) af) [some (.str w,9),none]=some (cq 16,[some (.str w,9),none]):=yZ (m:=16) (by decide) (q:=9) rfl;have Ik:=iO (k:=1) (tt:=bE) (te:=eB kP (ae (aa 2) af)) (deep:=false) (pt:=ax 2) hr (y7 (λi:Nat=>(iD i)) (λi=>[i9 i]) (λ_=>true) (λi=>.str (b_ i)) (λ_=>9) (range 16) (λi hi=>⟨rfl,rfl,λ_=>qs (cB (f:=aa 2) (q:=9) rfl) (zb (QN.mp hi))⟩));have e1:((range 16).filter λ_=>true).map (λi=>D.str (b_ i))=jP.map D.str:=by unfold jP;rw[QG,JJ.mpr λ_ _=>rfl];rfl
 rw[e1]at Ik;exact fI Ik rfl
theorem Il(w:Str):nQ [.str w]=yU [some (.str w,9),none]:=rfl
theorem CW{w:Str}(hw:cw w){n:Nat}(h:hZ w=some n):jM [.str w]=(i9 n)/\nQ [.str w]=none:=by
 have hn:=(CN h).1;have nt:bM (e2 oE (aa 0) (aa 1)) (W2 w 1)=some (false,W2 w 0):=by have:=Ij hw;rw[h]at this;exact kn (dR (fa:=aa 0) (q:=9) rfl (mQ (i:=1) (q:=1) rfl) this)
 constructor
 .unfold jM GK;refine dJ ?_;show aE _ _ [some (.str w,9),none]=_;refine(aZ (CV w)).trans ((aZ ((o9 nt).trans rfl)).trans (fR (ac:=W2 w 0) ?_));unfold yv;rw[mQ (i:=1) (q:=0) (ds:=jP.map D.str) rfl];show(if eY (.lst (jP.map D.str))=true/\eY (.str w)=true then _ else _)=_;rw[Qk ⟨(Ih Ii).ok,(sM hw).ok⟩,Wg h];show(if(n:Int)<1000 then _ else _)=_;rw[Qk (by omega)];rfl
 .rw[Il];unfold yU;rw[nW (CV w),Ie nt];rfl
theorem Im{w:Str}(hw:cw w)(h:hZ w=none):nQ [.str w]=some ("NoText":Str):=by
 have nt:bM (e2 oE (aa 0) (aa 1)) (W2 w 1)=some (true,W2 w 0):=by have:=Ij hw;rw[h]at this;exact kn (dR (fa:=aa 0) (q:=9) rfl (mQ (i:=1) (q:=1) rfl) this)
 rw[Il];unfold yU;rw[nW (CV w),H_ nt];rfl
theorem Ip{q:Nat}(h1:fo ρ=some (.str x,q,ac))(h2:g ac=some ([.str y],ad))(hy:(y.length==0)=false)(hx:x.length<=1000):nI fo g ρ=some (.lst ((Txt.split x y).map D.str),1,ad):=by unfold nI;rw[h1];simp only[h2];rw[Qk ⟨hy,Qt (Qq hx (by decide))⟩]
theorem Iq(hl:l.length<=900):bH (nI (aa 0) (ae (eC (.str " ")) af)) [some (.str l,9)]=some ((Txt.split l spS).map D.str,[some (.str l,9)]):=by have e:=Ip (fo:=aa 0) (g:=ae (eC (.str " ")) af) (ρ:=[some (.str l,9)]) (q:=9) (x:=l) (y:=spS) rfl (by rw[y_];rfl) rfl (by omega);have:=CM (c:=32) l;unfold bH;rw[e];simp only[Qa];rw[Qk (by show(Txt.split l ⟨#[32]⟩).length<=1000;omega)]
theorem zh{w:Str}:ae (aa 1) af ([some (.str l,9)]++[some (.str w,9)])=some ([.str w],[some (.str l,9)]++[some (.str w,9)]):=rfl
theorem Wh(ok:cw l)(hl:l.length<=900):(h_ l=none/\kT [.str l]=some ("NoText":Str))\/∃ ns,h_ l=some ns/\(∀ n∈ns,n<16)/\ns.length<=901/\kT [.str l]=none/\gD [.str l]=(v9 ns):=by
 have CY:∀ w∈Txt.split l spS,cw w:=HX ok;have hX:=CU (ρ:=[some (.str l,9)]) (i:=1) (te:=ay jM 1 (ae (aa 1) af)) (xe:=iM nQ 1 (ae (aa 1) af)) (nm:="NoText") rfl (λw=>(hZ w).map λn=>(iD n)) (Txt.split l spS) (λw hw=>⟨λd hd=>by obtain⟨n,hn,rfl⟩:=Zm.mp hd;obtain⟨y1,y2⟩:=CW (CY w hw) hn;exact⟨(nX zh rfl).trans y2,bY zh rfl y1⟩,λhd=>(nX zh rfl).trans (Im (CY w hw) (Yq.mp hd))⟩)
 have fx:kT [.str l]=lB 1 (ax 1) bE (ay jM 1 (ae (aa 1) af)) (iM nQ 1 (ae (aa 1) af)) ((Txt.split l spS).map D.str) [some (.str l,9)]:=by exact sN (Iq hl)
 rw[<- fx]at hX;have ha:(λw:Str=>((hZ w).map λn=>(iD n)).isSome)=λw=>(hZ w).isSome:=funext λw=>Option.isSome_map;rw[ha]at hX;rcases CS hZ (Txt.split l spS)with⟨h1,h2⟩|⟨r,h1,h2,hlen,h3⟩
 .rw[h2]at hX;exact .inl ⟨h1,hX⟩
 .rw[h2]at hX;refine .inr ⟨r,h1,λn hn=>?_,?_,hX,?_⟩
  .obtain⟨w,hw,e⟩:=Qm.mp (show(iD n)∈(Txt.split l spS).map (λx=>((hZ x).map λn=>(iD n)).getD .aO)from by rw[h3];exact Zz hn);obtain⟨m,hm⟩:=Zh.mp (QU.mp h2 w hw);rw[hm]at e;have e':(iD m)=(iD n):=e;cases e';exact(CN hm).1
  .rw[hlen];have:=CM (c:=32) l;show(Txt.split l ⟨#[32]⟩).length<=901;omega
  .have hD:=H9 (ρ:=[some (.str l,9)]) (i:=1) (te:=ay jM 1 (ae (aa 1) af)) rfl (λw=>(hZ w).map λn=>(iD n)) (Txt.split l spS) (by rw[ha];exact h2) (λw hw d hd=>by obtain⟨n,hn,rfl⟩:=Zm.mp hd;exact bY zh rfl (CW (CY w hw) hn).1)
   rw[h3]at hD;unfold gD GN;exact dJ (fR (t5 (cB (iO (Iq hl) hD))))
abbrev B4 (ls:List Str)(w:Str)(a b:OD):aV:=[some (.lst (ls.map D.str),0),some (.str w,9),a,b]
theorem Wi(ls:List Str):nE (ls.map D.str)=ls.zipIdx.map λx=>D.tup [iD x.2,.str x.1]:=by
 apply Za;intro i;rw[E5,QO,QO,YE,YF,YF];cases ls[i]? with
 | none=>rfl
 | some H=>simp
theorem Ir(ls:List Str)(w:Str):∀ (l:List Str) (k:Nat) (a b:OD),
  (∃ j,l.findIdx? (λx=>Txt.startswith x w)=some j/\fq (kN (dz (ax 2) (dz (ax 3) jC))) t_ ((l.zipIdx k).map λx=>D.tup [iD x.2,.str x.1]) (B4 ls w a b)=some (.rt (iD (k+j)) 9)) \/
  (l.findIdx? (λx=>Txt.startswith x w)=none/\∃ a' b',fq (kN (dz (ax 2) (dz (ax 3) jC))) t_ ((l.zipIdx k).map λx=>D.tup [iD x.2,.str x.1]) (B4 ls w a b)=some (.nx (B4 ls w a' b')))
 | [],k,a,b=>.inr ⟨rfl,a,b,rfl⟩
 | x::l,k,a,b=>by
  have p:kN (dz (ax 2) (dz (ax 3) jC)) (D.tup [iD k,.str x]) (B4 ls w a b)=some (B4 ls w ((i9 k)) (some (.str x,9))):=rfl;have t:dm (yE BH (aa 3) (ae (aa 1) af)) (B4 ls w ((i9 k)) (some (.str x,9)))=some (Txt.startswith x w,B4 ls w ((i9 k)) (some (.str x,9))):=ui (q:=9) rfl;rw[List.zipIdx_cons,Qr,J0];cases hs:Txt.startswith x w with
  | true=>
   rw[hs]at t;refine .inl ⟨0,rfl,?_⟩;have e:t_ (B4 ls w ((i9 k)) (some (.str x,9)))=some (.rt (iD k) 9):=(qp t).trans rfl;unfold fq;rw[p];simp only[e];rfl
  | false=>
   rw[hs]at t;have e:t_ (B4 ls w ((i9 k)) (some (.str x,9)))=some (.nx (B4 ls w ((i9 k)) (some (.str x,9)))):=(o9 t).trans rfl;rcases Ir ls w l (k+1) ((i9 k)) (some (.str x,9))with⟨j,h1,h2⟩|⟨h1,a',b',h2⟩
   .refine .inl ⟨j+1,by rw[h1];rfl,?_⟩;rw[B3 p e,h2,show k+1+j=k+(j+1)by omega]
   .exact .inr ⟨by rw[h1];rfl,a',b',(B3 p e).trans h2⟩
theorem Iu(hl:ls.length<=1000){w:Str}(hw:w.length<=100):(∃ j,ls.findIdx? (λx=>Txt.startswith x w)=some j/\ub [.lst (ls.map D.str),.str w]=none/\mM [.lst (ls.map D.str),.str w]=(i9 j)) \/
  (ls.findIdx? (λx=>Txt.startswith x w)=none/\ub [.lst (ls.map D.str),.str w]=some ("NoText":Str)):=by
 have hi:tM (ae (aa 0) af) (B4 ls w none none)=some (ls.zipIdx.map (λx=>D.tup [iD x.2,.str x.1]),B4 ls w none none):=by rw[<- Wi];unfold tM;rw[cB (f:=aa 0) (ρ:=B4 ls w none none) (ac:=B4 ls w none none) (d:=.lst (ls.map D.str)) (q:=0) rfl];show(if(ls.map D.str).length<=1000 then _ else none)=_;rw[Qk (by rw[Qa];exact hl)]
 rcases Ir ls w ls 0 none none with⟨j,h1,h2⟩|⟨h1,a,b,h2⟩
 .rw[Nat.zero_add]at h2;have e:=(fS hi).trans h2;refine .inl ⟨j,h1,?_,?_⟩
  .exact Wf e
  .unfold mM GJ;exact dJ (kh e)
 .have e:=(fS hi).trans h2;refine .inr ⟨h1,?_⟩;refine(nW e).trans ?_;have hf:hG (("there is no line ":Str).length+w.length)=true:=Qt (by
   have:("there is no line ":Str).length=17:=by decide +kernel
   omega)
  have ef:se "there is no line " (aa 1) (B4 ls w a b)=some (.str ("there is no line " ++ w),9,B4 ls w a b):=Qk hf;unfold yH;rw[ef]
theorem Iv:∀ ys:List Str,vV (ys.map D.str)=some ys
 | []=>rfl
 | y::ys=>by show(vV (ys.map D.str)).map (y :: ·)=_;rw[Iv ys];rfl
theorem CZ{ys:List Str}{q:Nat}(h1:fo ρ=some (.str x,q,ac))(h2:fa ac=some (.lst (ys.map D.str),q',ad))(hq:q'<=1)(hx:x.length<=16)(hy:(ys.map (·.length)).sum+ys.length<=100000):qo fo fa ρ=some (.str (Str.join x ys),9,ad):=by unfold qo;rw[h1];simp only[h2,Iv];rw[Qk hq,Qk ⟨hx,Qt hy⟩];show some (D.str (Builtin.Str.glued x ys),9,ad)=_;rw[StrLaws.glued_eq_join]
theorem Iw(h:g ρ=some (ds,ac))(hl:ds.length<=1000):fZ g ρ=some (.tup ds,9,ac):=by unfold fZ;rw[h];exact Qk hl
theorem sO{fb:aA}{q:Nat}(h1:fa ρ=some (.lst ds,q,ac))(h2:fb ac=some (.lst es,q',ad))(hl:ds.length+es.length<=1000):kO fa fb ρ=some (.lst (ds++es),1,ad):=by unfold kO;rw[h1];simp only[h2];rw[Qk hl]
theorem wX{f:aA}{q:Nat}(h:f ρ=some (d,q,ac)):cF (ae f af) ρ=some (.lst [d],1,ac):=by unfold cF;rw[cB h];rfl
theorem sP{f:aA}{q:Nat}(h:f ρ=some (.tup ds,q,ac))(hl:ds.length<=1000):bH f ρ=some (ds,ac):=by unfold bH;rw[h];exact Qk hl
theorem zi{f:aA}{q:Nat}(h:f ρ=some (.lst ds,q,ac))(hl:ds.length<=1000):bH f ρ=some (ds,ac):=by unfold bH;rw[h];exact Qk hl
theorem px{α:Type}{pt:eo}{k:Nat}{am:aV}(enc:α->D)(ext:α->aV)(v:α->D)(q:α->Nat)(l:List α)(hi:it am=some (l.map enc,ρ))(h:∀ x∈l,pt (enc x) (ρ++replicate k none)=some (ρ++ext x)/\te (ρ++ext x)=some (v x,q x,ρ++ext x)) :
  cA k it pt bE te false am=some (.lst (l.map v),1,ρ):=by have e:=iO (deep:=false) hi (y7 (tt:=bE) enc ext (λ_=>true) v q l (λx hx=>⟨(h x hx).1,rfl,λ_=>(h x hx).2⟩));rw[JJ.mpr λ_ _=>rfl]at e;exact e
def bZ (r:List Nat):D:=.tup (aI r)
abbrev WN:=Nat×Nat×List Nat
def wY (w:WN):D:=.tup [iD w.1,iD w.2.1,bZ w.2.2]
def bI (rows:List (List Nat)):D:=.tup (rows.map bZ)
def dM (p:Nat)(W:List WN)(bs:List (List Nat)):D:=.tup [iD p,.tup (W.map wY),.tup (bs.map bZ)]
abbrev eF:Str:="ladder"
abbrev cW:Str:="begins"
abbrev fg:Str:="places "
def cJ (w:WN):List Nat:=w.1::w.2.1::w.2.2
def wZ (r:List Nat):Prop:=(∀ n∈r,n<16)/\r.length<=18
structure ja (rows:List (List Nat)) (p:Nat) (W:List WN) (bs:List (List Nat)):Prop where
 r:∀ r∈rows,wZ r
 p:p<16
 w:∀ w∈W,wZ (cJ w)
 b:∀ b∈bs,wZ b
 lr:rows.length<=60
 lw:W.length<=60
 lb:bs.length<=60
def ck (rows:List (List Nat))(p:Nat)(W:List WN)(bs:List (List Nat)):List Str:=[eF]++rows.map aX++[fg++b_ p]++W.map (λw=>aX (cJ w))++[cW]++bs.map aX
def fB (ls:List Str):Str:=Str.join Str.empty (ls.map (· ++ bD))
theorem C0{ns:List Nat}(h:wZ ns):nO [bZ ns]=some (.str (aX ns),9):=by
 have hl:=h.2;have hs:=CQ h.1;unfold nO GB;refine dJ (fR (ac:=[some (bZ ns,9)]) ?_);show qo _ _ [some (bZ ns,9)]=_;have hc:=px (it:=bH (aa 0)) (pt:=ax 1) (te:=eB kP (ae (aa 1) af)) (k:=1) (am:=[some (bZ ns,9)]) (ρ:=[some (bZ ns,9)]) (λn:Nat=>(iD n)) (λn=>[i9 n]) (λn=>.str (b_ n)) (λ_=>9) ns (sP (f:=aa 0) (q:=9) rfl (by rw[Qa];omega)) (λn hn=>⟨rfl,qs (cB (f:=aa 1) (q:=9) rfl) (zb (h.1 n hn))⟩);have e1:ns.map (λn=>D.str (b_ n))=(ns.map b_).map D.str:=by rw[QG];rfl
 rw[e1]at hc;have e:=CZ (fo:=eC (.str " ")) (q:=9) (x:=" ") rfl hc (Qf 1) (by decide +kernel) (by rw[Qa];omega);rw[y_]at e;exact e
section
variable {rows:List (List Nat)}{p:Nat}{W:List WN}{bs:List (List Nat)}(h:ja rows p W bs)
abbrev W4 (rows:List (List Nat))(p:Nat)(W:List WN)(bs:List (List Nat))(a b:OD):aV:=[some (bI rows,9),some (dM p W bs,9),a,b]
abbrev sL (ls:List Str)(q:Nat):OD:=some (.lst (ls.map D.str),q)
theorem Iy{b:Nat}(h:a+b<=1000):hG (a+b)=true:=Qt (Qq h (by decide))
theorem Wj{i p:Nat}(hp:p<16)(hi:ρ[i]? = some ((i9 p))):se "places " (aa i) ρ=some (.str ("places " ++ b_ p),9,ρ):=by
 have h7:("places ":Str).length=7:=by decide +kernel
 have h2:=(pq p hp).1;unfold se;rw[CA hi rfl];show(if(0:Int)<=Int.ofNat p/\Int.ofNat p<1000000/\hG (("places ":Str).length+(b_ p).length)=true then _ else _)=_;rw[Qk ⟨JV p,Int.lt_trans (Int.ofNat_lt.mpr hp) (by decide),Iy (by omega)⟩];rfl
include h
theorem C1:("places " ++ b_ p:Str).length<=9:=by
 have h7:("places ":Str).length=7:=by decide +kernel
 have h2:=(pq p h.p).1;rw[uk];omega
theorem Iz:∀ l∈ck rows p W bs,l.length<=60:=λl hl=>by
 have six:eF.length=6/\cW.length=6:=by decide +kernel
 have pl:(fg++b_ p).length<=9:=C1 h;unfold ck at hl;simp only[QL,Qu,Qm]at hl;rcases hl with((((e|⟨r,hr,e⟩)|e)|⟨w,hw,e⟩)|e)|⟨b,hb,e⟩
 .rw[e];omega
 .have:=ze (h.r r hr).1;have:=(h.r r hr).2;rw[<- e];omega
 .rw[e];omega
 .have:=ze (h.w w hw).1;have:=(h.w w hw).2;rw[<- e];omega
 .rw[e];omega
 .have:=ze (h.b b hb).1;have:=(h.b b hb).2;rw[<- e];omega
theorem C2:(ck rows p W bs).length<=200:=by have:=h.lr;have:=h.lw;have:=h.lb;unfold ck;simp only[Qe,Qa,Q8];omega
omit h
theorem w9(h:∀ l∈ls,l.length<=m):(ls.map (·.length)).sum<=m*ls.length:=by
 induction ls with
 | nil=>exact Qf _
 | cons x ls ih=>
  rw[Qr,ZJ,QK,Nat.mul_succ];have:=h x Qd;have:=ih λl hl=>h l (Qc _ hl);omega
include h
theorem Wk:(((ck rows p W bs).map (· ++ bD)).map (·.length)).sum+((ck rows p W bs).map (· ++ bD)).length<=100000:=by
 have h1:=C2 h;have h2:=w9 (ls:=(ck rows p W bs).map (· ++ bD)) (m:=61) (λl hl=>by obtain⟨x,hx,rfl⟩:=Qm.mp hl;have:=Iz h x hx;rw[uk];have:bD.length=1:=rfl;omega)
 rw[Qa]at h2 ⊢;omega
theorem C3:jL [bI rows,dM p W bs]=some (.str (fB (ck rows p W bs)),9):=by
 have l1:=h.lr;have l2:=h.lw;have l3:=h.lb;unfold jL GD;refine dJ ?_;show aE _ _ (W4 rows p W bs none none)=_;refine(aZ (ac:=W4 rows p W bs ((i9 p)) none) rfl).trans ?_;have c1:=px (it:=bH (aa 0)) (pt:=ax 4) (te:=ay nO 1 (ae (aa 4) af)) (k:=1) (am:=W4 rows p W bs ((i9 p)) none) (ρ:=W4 rows p W bs ((i9 p)) none) bZ (λr=>[some (bZ r,9)]) (λr=>.str (aX r)) (λ_=>9) rows (sP (f:=aa 0) (q:=9) rfl (by rw[Qa];omega)) (λr hr=>⟨rfl,bY (ds:=[bZ r]) rfl rfl (C0 (h.r r hr))⟩);have s1:=sO (sO (wX (f:=eC (.str "ladder")) (q:=9) rfl) c1 (by rw[Qa];show 1+_<=1000;omega)) (wX (Wj (i:=2) h.p (ρ:=W4 rows p W bs ((i9 p)) none) rfl)) (by rw[Qe,Qa];show 1+_+1<=1000;omega);have e1:[D.str eF]++rows.map (λr=>D.str (aX r))++[D.str (fg++b_ p)]=([eF]++rows.map aX++[fg++b_ p]:List Str).map D.str:=by simp only[Q6,QG];rfl
 rw[e1]at s1;refine(aZ (ac:=W4 rows p W bs ((i9 p)) (sL ([eF]++rows.map aX++[fg++b_ p]) 1)) (fI s1 rfl)).trans ?_;generalize w_:([eF]++rows.map aX++[fg++b_ p]:List Str)=L1;have Wl:L1.length=rows.length+2:=by rw[<- w_];simp only[Qe,Qa,Q8];omega
 have c2:=px (it:=bH (aW 1 (eC (.int 1)))) (pt:=kN (dz (ax 4) (dz (ax 5) (dz (ax 6) jC)))) (te:=ay nO 1 (ae (p7 (fZ (ae (aa 4) (ae (aa 5) af))) (aa 6)) af)) (k:=3) (am:=W4 rows p W bs ((i9 p)) (sL L1 0)) (ρ:=W4 rows p W bs ((i9 p)) (sL L1 0)) wY (λw=>[i9 w.1,i9 w.2.1,some (bZ w.2.2,9)]) (λw=>.str (aX (cJ w))) (λ_=>9) W (sP (f:=aW 1 (eC (.int 1))) (q:=9) rfl (by rw[Qa];omega)) (λw hw=>⟨rfl,by
  have Wm:=(h.w w hw).2;have hc:(aI w.2.2).length+2<=1000:=by have:(cJ w).length=w.2.2.length+2:=rfl;rw[gh];omega
  have e:p7 (fZ (ae (aa 4) (ae (aa 5) af))) (aa 6) (W4 rows p W bs ((i9 p)) (sL L1 0)++[i9 w.1,i9 w.2.1,some (bZ w.2.2,9)])=some (bZ (cJ w),9,W4 rows p W bs ((i9 p)) (sL L1 0)++[i9 w.1,i9 w.2.1,some (bZ w.2.2,9)]):=by show(if 2+(aI w.2.2).length<=1000 then _ else _)=_;rw[Qk (by omega)];rfl
  exact bY (cB e) rfl (C0 (h.w w hw))⟩)
 have s2:=sO (mQ (i:=3) (q:=1) (ρ:=W4 rows p W bs ((i9 p)) (sL L1 1)) rfl) c2 (by rw[Qa,Qa];omega);have eq2:L1.map D.str++W.map (λw=>D.str (aX (cJ w)))=(L1++W.map λw=>aX (cJ w)).map D.str:=by simp only[Q6,QG];rfl
 rw[eq2]at s2;refine(aZ (ac:=W4 rows p W bs ((i9 p)) (sL (L1++W.map λw=>aX (cJ w)) 1)) (fI s2 rfl)).trans ?_;generalize xa:(L1++W.map λw=>aX (cJ w))=L2;have Wo:L2.length=L1.length+W.length:=by rw[<- xa];simp only[Qe,Qa]
 have c3:=px (it:=bH (aW 1 (eC (.int 2)))) (pt:=ax 4) (te:=ay nO 1 (ae (aa 4) af)) (k:=1) (am:=W4 rows p W bs ((i9 p)) (sL L2 0)) (ρ:=W4 rows p W bs ((i9 p)) (sL L2 0)) bZ (λr=>[some (bZ r,9)]) (λr=>.str (aX r)) (λ_=>9) bs (sP (f:=aW 1 (eC (.int 2))) (q:=9) rfl (by rw[Qa];omega)) (λr hr=>⟨rfl,bY (ds:=[bZ r]) rfl rfl (C0 (h.b r hr))⟩);have s3:=sO (sO (mQ (i:=3) (q:=1) (ρ:=W4 rows p W bs ((i9 p)) (sL L2 1)) rfl) (wX (f:=eC (.str "begins")) (q:=9) rfl) (by rw[Qa];show _+1<=1000;omega)) c3 (by rw[Qe,Qa,Qa];show _+1+_<=1000;omega);have e3:L2.map D.str++[D.str cW]++bs.map (λr=>D.str (aX r))=(L2++[cW]++bs.map aX:List Str).map D.str:=by simp only[Q6,QG];rfl
 rw[e3]at s3;refine(aZ (ac:=W4 rows p W bs ((i9 p)) (sL (L2++[cW]++bs.map aX) 1)) (fI s3 rfl)).trans ?_;have eL:L2++[cW]++bs.map aX=ck rows p W bs:=by rw[<- xa,<- w_];rfl
 rw[eL];have ll:=Iz h;have lm:=C2 h;have c4:=px (it:=bH (aa 3)) (pt:=ax 4) (te:=e2 hJ (aa 4) (eC (.str "\n"))) (k:=1) (am:=W4 rows p W bs ((i9 p)) (sL (ck rows p W bs) 1)) (ρ:=W4 rows p W bs ((i9 p)) (sL (ck rows p W bs) 0)) D.str (λl=>[some (.str l,9)]) (λl=>.str (l++bD)) (λ_=>9) (ck rows p W bs) (zi (mQ (i:=3) (q:=1) rfl) (by rw[Qa];omega)) (λl hl=>⟨rfl,by have XJ:=ll l hl;refine dR (fa:=aa 4) (fb:=eC (.str "\n")) (q:=9) (q':=9) rfl rfl ?_;rw[CK];show(if hG (l.length+bD.length)=true then _ else _)=_;rw[Qk (Iy (by have:bD.length=1:=rfl;omega))]⟩)
 have e4:(ck rows p W bs).map (λl=>D.str (l++bD))=((ck rows p W bs).map (· ++ bD)).map D.str:=by rw[QG];rfl
 rw[e4]at c4;have e:=CZ (fo:=eC (.str "")) (q:=9) (x:="") rfl c4 (Qf 1) (by decide +kernel) (Wk h);rw[V6]at e;exact fR e
end
theorem ur(h:a<=100000):hG a=true:=Qt h
theorem IA:∀ xs:List Str,cl (Str.join Str.empty xs)=(xs.map cl).flatten
 | []=>rfl
 | [x]=>by show cl x=cl x++[];rw[QY]
 | x::y::xs=>by show cl (x++Str.empty++Str.join Str.empty (y::xs))=_;rw[pj,pj,IA (y::xs)];show cl x++[]++_=_;rw[QY];rfl
theorem zj(ls:List Str):cl (fB ls)=(ls.map λl=>cl l++[10]).flatten:=by unfold fB;rw[IA,QG];congr 1;apply Q0;intro l _;show cl (l++bD)=_;rw[pj];rfl
abbrev PS:=D×Str
abbrev nP (n:Nat):PS:=((iD n),b_ n)
abbrev tP (x:Str):PS:=(.str x,x)
abbrev ia:Str:="places"
def bF (r:List PS):D:=.lst (r.map (·.1))
def gV (r:List PS):Str:=Str.join spS (r.map (·.2))
def ju (rows:List (List Nat))(p:Nat)(W:List WN)(bs:List (List Nat)):List (List PS):=[[tP eF]]++rows.map (·.map nP)++[[tP ia,nP p]]++W.map (λw=>(cJ w).map nP)++[[tP cW]]++bs.map (·.map nP)
structure zk (r:List PS):Prop where
 s:∀ x∈r,kP [x.1]=some (.str x.2)/\x.1.cI=false
 n:r.length<=18
 t:((r.map (·.2)).map (·.length)).sum<=60
 l:(gV r).length<=60
theorem zl(r:List Nat):gV (r.map nP)=aX r:=by unfold gV aX;rw[QG];rfl
theorem C4(r:List Nat):bF (r.map nP)=.lst (aI r):=by unfold bF aI;rw[QG];rfl
theorem C5{r:List Nat}(h:wZ r):zk (r.map nP):=by
 refine⟨λx hx=>?_,by rw[Qa];exact h.2,?_,?_⟩
 .obtain⟨n,hn,rfl⟩:=Qm.mp hx;exact⟨zb (h.1 n hn),rfl⟩
 .have:=CQ h.1;have:=h.2;have e:(r.map nP).map (·.2)=r.map b_:=by rw[QG];rfl
  rw[e];omega
 .rw[zl];have:=ze h.1;have:=h.2;omega
theorem IB(h:x.length<=60):zk [tP x]:=⟨λy hy=>by rw[Qu.mp hy];exact⟨rfl,rfl⟩,by show 1<=18;decide,by show x.length+0<=60;omega,h⟩
theorem IC(p:Nat):gV [tP ia,nP p]=fg++b_ p:=by
 show ia++spS++b_ p=_;have:ia++spS=fg:=by decide +kernel
 rw[this]
section
variable {rows:List (List Nat)}{p:Nat}{W:List WN}{bs:List (List Nat)}
theorem ID:(ju rows p W bs).map gV=ck rows p W bs:=by unfold ju ck;simp only[Q6,QG,Qr,Z7,IC];have e1:rows.map (gV ∘ λx=>x.map nP)=rows.map aX:=Q0 λr _=>zl r;have e2:W.map (gV ∘ λw=>(cJ w).map nP)=W.map λw=>aX (cJ w):=Q0 λw _=>zl (cJ w);have e3:bs.map (gV ∘ λx=>x.map nP)=bs.map aX:=Q0 λr _=>zl r;rw[e1,e2,e3];rfl
variable (h:ja rows p W bs)
include h
theorem Wp:∀ r∈ju rows p W bs,zk r:=λr hr=>by
 have six:eF.length=6/\cW.length=6/\ia.length=6:=by decide +kernel
 unfold ju at hr;simp only[QL,Qu,Qm]at hr;rcases hr with((((e|⟨x,hx,e⟩)|e)|⟨x,hx,e⟩)|e)|⟨x,hx,e⟩
 .rw[e];exact IB (by omega)
 .rw[<- e];exact C5 (h.r x hx)
 .rw[e];have h2:=(pq p h.p).1;refine⟨λy hy=>?_,by show 2<=18;decide,by show ia.length+((b_ p).length+0)<=60;omega,?_⟩
  .rcases Qp.mp hy with q|q
   .rw[q];exact⟨rfl,rfl⟩
   .rw[Qu.mp q];exact⟨zb h.p,rfl⟩
  .rw[IC];have:(fg++b_ p).length<=9:=C1 h;omega
 .rw[<- e];exact C5 (h.w x hx)
 .rw[e];exact IB (by omega)
 .rw[<- e];exact C5 (h.b x hx)
omit h
abbrev T5 (rows:List (List Nat))(p:Nat)(W:List WN)(bs:List (List Nat))(l:OD)(t:Str)(a:OD):aV:=[some (bI rows,9),some (dM p W bs,9),l,some (.str t,9),a]
theorem IE(l:OD):∀ (R:List (List PS)) (acc:Str) (a:OD),(∀ r∈R,zk r)->acc.length+61*R.length<=50000->
  ∃ a',fq (ax 4) Cd (R.map bF) (T5 rows p W bs l acc a)=some (.nx (T5 rows p W bs l (R.foldl (λx r=>x++gV r++bD) acc) a'))
 | [],acc,a,_,_=>⟨a,rfl⟩
 | r::R,acc,a,hR,hl=>by
  have o:=hR r Qd;have o1:=o.n;have o2:=o.t;have o3:=o.l;rw[QK]at hl;have hc:=px (it:=bH (aa 4)) (pt:=ax 5) (te:=eB kP (ae (aa 5) af)) (k:=1) (am:=T5 rows p W bs l acc (some (bF r,0))) (ρ:=T5 rows p W bs l acc (some (bF r,0))) (λx:PS=>x.1) (λx=>[some (x.1,9)]) (λx=>.str x.2) (λ_=>9) r (zi (mQ (i:=4) (q:=0) rfl) (by rw[Qa];omega)) (λx hx=>⟨CT rfl (o.s x hx).2,qs (cB (CA rfl (o.s x hx).2)) (o.s x hx).1⟩);have e1:r.map (λx:PS=>D.str x.2)=(r.map (·.2)).map D.str:=by rw[QG];rfl
  rw[e1]at hc;have ej:=CZ (fo:=eC (.str " ")) (q:=9) (x:=" ") rfl hc (Qf 1) (by decide +kernel) (by rw[Qa];omega);rw[y_]at ej;have a1:hJ (.str acc) (.str (gV r))=some (.str (acc++gV r)):=by show(if hG (acc.length+(gV r).length)=true then _ else _)=_;rw[Qk (ur (by omega))]
  have a2:hJ (.str (acc++gV r)) (.str "\n")=some (.str (acc++gV r++bD)):=by rw[CK];show(if hG ((acc++gV r).length+bD.length)=true then _ else _)=_;rw[Qk (ur (by rw[uk];have:bD.length=1:=rfl;omega))]
  have st:Cd (T5 rows p W bs l acc (some (bF r,0)))=some (.nx (T5 rows p W bs l (acc++gV r++bD) (some (bF r,0)))):=fI (dR (dR (fa:=aa 3) (q:=9) rfl ej a1) (fb:=eC (.str "\n")) (q':=9) rfl a2) rfl;obtain⟨a',e⟩:=IE l R (acc++gV r++bD) (some (bF r,0)) (λx hx=>hR x (Qc _ hx)) (by rw[uk,uk];have:bD.length=1:=rfl;omega);exact⟨a',(B3 (ac:=T5 rows p W bs l acc (some (bF r,0))) rfl st).trans e⟩
theorem IF:∀ (R:List (List PS)) (acc:Str),cl (R.foldl (λx r=>x++gV r++bD) acc)=cl acc++((R.map gV).map λl=>cl l++[10]).flatten
 | [],acc=>by show cl acc=cl acc++[];rw[QY]
 | r::R,acc=>by rw[List.foldl_cons,IF R,pj,pj,Qr,Qr,QR];show cl acc++cl (gV r)++[10]++_=_;rw[Zg,Zg,Zg]
theorem IG{g:aA}(hl:rL ρ[i]? = true)(hg:g ρ=some (.lst es,1,ac))(h1:ac[i]? = some (some (.lst ds,1)))(hn:ds.length+es.length<=1000)(e:ac.set i (some (.lst (ds++es),1))=ad):iu (rT i g) ρ=some (.nx ad):=by unfold iu rT;rw[Qk hl,hg];simp only[h1];rw[Qk hn,e]
abbrev T6 (rows:List (List Nat))(p:Nat)(W:List WN)(bs:List (List Nat))(R:List (List PS)):aV:=[some (bI rows,9),some (dM p W bs,9),some (.lst (R.map bF),1),none,none]
include h
theorem IH:qw [bI rows,dM p W bs]=some (.str (fB (ck rows p W bs)),9):=by
 have l1:=h.lr;have l2:=h.lw;have l3:=h.lb;unfold qw Gw;refine dJ ?_;show aE _ _ [some (bI rows,9),some (dM p W bs,9),none,none,none]=_;have c1:=px (it:=bH (aa 0)) (pt:=ax 5) (te:=mm (ae (aa 5) af)) (k:=1) (am:=[some (bI rows,9),some (dM p W bs,9),none,none,none]) (ρ:=[some (bI rows,9),some (dM p W bs,9),none,none,none]) bZ (λr=>[some (bZ r,9)]) (λr=>bF (r.map nP)) (λ_=>1) rows (sP (f:=aa 0) (q:=9) rfl (by rw[Qa];omega)) (λr hr=>⟨rfl,by rw[C4];rfl⟩);have s1:=sO (sO (wX (f:=cF (ae (eC (.str "ladder")) af)) (d:=bF [tP eF]) (q:=1) rfl) c1 (by rw[Qa];show 1+_<=1000;omega)) (wX (f:=cF (ae (eC (.str "places")) (ae (aW 1 (eC (.int 0))) af))) (d:=bF [tP ia,nP p]) (q:=1) rfl) (by rw[Qe,Qa];show 1+_+1<=1000;omega);have e1:[bF [tP eF]]++rows.map (λr=>bF (r.map nP))++[bF [tP ia,nP p]]=([[tP eF]]++rows.map (·.map nP)++[[tP ia,nP p]]).map bF:=by simp only[Q6,QG];rfl
 rw[e1]at s1;refine(aZ (ac:=T6 rows p W bs ([[tP eF]]++rows.map (·.map nP)++[[tP ia,nP p]])) (fI s1 rfl)).trans ?_;generalize w_:([[tP eF]]++rows.map (·.map nP)++[[tP ia,nP p]])=L1;have Wl:L1.length=rows.length+2:=by rw[<- w_];simp only[Qe,Qa,Q8];omega
 have c2:=px (it:=bH (aW 1 (eC (.int 1)))) (pt:=kN (dz (ax 5) (dz (ax 6) (dz (ax 7) jC)))) (te:=kO (cF (ae (aa 5) (ae (aa 6) af))) (mm (ae (aa 7) af))) (k:=3) (am:=T6 rows p W bs L1) (ρ:=T6 rows p W bs L1) wY (λw=>[i9 w.1,i9 w.2.1,some (bZ w.2.2,9)]) (λw=>bF ((cJ w).map nP)) (λ_=>1) W (sP (f:=aW 1 (eC (.int 1))) (q:=9) rfl (by rw[Qa];omega)) (λw hw=>⟨rfl,by
  have Wm:=(h.w w hw).2;have hc:(aI w.2.2).length+2<=1000:=by have:(cJ w).length=w.2.2.length+2:=rfl;rw[gh];omega
  rw[C4];show(if 2+(aI w.2.2).length<=1000 then _ else _)=_;rw[Qk (by omega)];rfl⟩)
 refine(aZ (ac:=T6 rows p W bs (L1++W.map λw=>(cJ w).map nP)) (IG (ds:=L1.map bF) rfl c2 rfl (by rw[Qa,Qa];omega) (by
  have:L1.map bF++W.map (λw=>bF ((cJ w).map nP))=(L1++W.map λw=>(cJ w).map nP).map bF:=by simp only[Q6,QG];rfl
  rw[this];rfl))).trans ?_
 generalize xa:(L1++W.map λw=>(cJ w).map nP)=L2;have Wo:L2.length=L1.length+W.length:=by rw[<- xa];simp only[Qe,Qa]
 refine(aZ (ac:=T6 rows p W bs (L2++[[tP cW]])) (B2 (ds:=L2.map bF) rfl (cB (f:=cF (ae (eC (.str "begins")) af)) (d:=bF [tP cW]) (q:=1) rfl) rfl (by rw[Qa];omega) (by
  have:L2.map bF++[bF [tP cW]]=(L2++[[tP cW]]).map bF:=by simp only[Q6,Qr,Z7]
  rw[this];rfl))).trans ?_
 have c3:=px (it:=bH (aW 1 (eC (.int 2)))) (pt:=ax 5) (te:=mm (ae (aa 5) af)) (k:=1) (am:=T6 rows p W bs (L2++[[tP cW]])) (ρ:=T6 rows p W bs (L2++[[tP cW]])) bZ (λr=>[some (bZ r,9)]) (λr=>bF (r.map nP)) (λ_=>1) bs (sP (f:=aW 1 (eC (.int 2))) (q:=9) rfl (by rw[Qa];omega)) (λr hr=>⟨rfl,by rw[C4];rfl⟩);refine(aZ (ac:=T6 rows p W bs (ju rows p W bs)) (IG (ds:=(L2++[[tP cW]]).map bF) rfl c3 rfl (by rw[Qa,Qa,Qe];show _+1+_<=1000;omega) (by
  have:(L2++[[tP cW]]).map bF++bs.map (λr=>bF (r.map nP))=(ju rows p W bs).map bF:=by unfold ju;rw[<- xa,<- w_];simp only[Q6,QG];rfl
  rw[this];rfl))).trans ?_
 have lR:(ju rows p W bs).length<=200:=by have:=Zr List.length (ID (rows:=rows) (p:=p) (W:=W) (bs:=bs));rw[Qa]at this;rw[this];exact C2 h
 refine(aZ (ac:=T5 rows p W bs (some (.lst ((ju rows p W bs).map bF),1)) "" none) rfl).trans ?_;have i2:bH (aa 2) (T5 rows p W bs (some (.lst ((ju rows p W bs).map bF),1)) "" none)=some ((ju rows p W bs).map bF,T5 rows p W bs (some (.lst ((ju rows p W bs).map bF),0)) "" none):=zi (mQ (i:=2) (q:=1) rfl) (by rw[Qa];omega);have z0:("":Str).length=0:=by decide +kernel
 obtain⟨a,e⟩:=IE (rows:=rows) (p:=p) (W:=W) (bs:=bs) (some (.lst ((ju rows p W bs).map bF),0)) (ju rows p W bs) "" none (Wp h) (by omega);have et:(ju rows p W bs).foldl (λx r=>x++gV r++bD) "" = fB (ck rows p W bs):=by apply y9;rw[IF,zj,ID];rfl
 rw[et]at e;exact(aZ ((fS i2).trans e)).trans (fR (ac:=T5 rows p W bs (some (.lst ((ju rows p W bs).map bF),0)) (fB (ck rows p W bs)) a) rfl)
end
def gH {α:Type}(xs:List α)(lo hi:Option Int):List α:=(xs.drop (HT.bo xs.length 0 lo)).take (HT.bo xs.length xs.length hi-HT.bo xs.length 0 lo)
theorem C6{α:Type}(f:α->D)(xs:List α)(lo hi:Option Int):L3.lu (xs.map f) lo hi=(gH xs lo hi).map f:=by unfold L3.lu gH;rw[Qa,List.map_take,List.map_drop]
theorem C7{α:Type}{xs:List α}{x:α}(h:x∈gH xs lo hi):x∈xs:=YG (JA h)
theorem sQ{α:Type}(xs:List α)(lo hi:Option Int):(gH xs lo hi).length<=xs.length:=by unfold gH;rw[ZK,Z6];omega
theorem Wq{α:Type}(xs:List α)(k:Nat):gH xs none (some (Int.ofNat k))=xs.take k:=by
 unfold gH;have e:HT.bo xs.length xs.length (some (Int.ofNat k))=min k xs.length:=HT.uR _ _ k;rw[e,HT.DR,YD,YN];by_cases h:k<=xs.length
 .rw[Jg h]
 .rw[Nat.min_eq_right (by omega),Yg,Yr (by omega)]
theorem Wr{α:Type}(xs:List α)(k:Nat):gH xs (some (Int.ofNat k)) none=xs.drop k:=by
 unfold gH;have e:HT.bo xs.length 0 (some (Int.ofNat k))=min k xs.length:=HT.uR _ _ k;rw[e,HT.DR];by_cases h:k<=xs.length
 .rw[Jg h,Yr (by rw[Z6];omega)]
 .have z:xs.drop k=[]:=List.drop_eq_nil_of_le (by omega);rw[Nat.min_eq_right (by omega),z,List.drop_length];exact List.take_nil
def jb (w:List Nat):D:=.tup (aI (w.take 2)++[bZ (w.drop 2)])
theorem Ws{w:List Nat}(h:w.length<=901):nR [bZ w]=some (jb w,9):=by
 unfold nR GQ;refine dJ (fR (ac:=[some (bZ w,9)]) ?_);have s1:tJ (aa 0) gA (cu (eC (.int 2))) [some (bZ w,9)]=some (.tup (aI (w.take 2)),9,[some (bZ w,9)]):=by show some (D.tup (L3.lu (aI w) none (some (Int.ofNat 2))),9,[some (bZ w,9)])=_;unfold aI;rw[C6,Wq]
 have s2:tJ (aa 0) (cu (eC (.int 2))) gA [some (bZ w,9)]=some (bZ (w.drop 2),9,[some (bZ w,9)]):=by show some (D.tup (L3.lu (aI w) (some (Int.ofNat 2)) none),9,[some (bZ w,9)])=_;unfold aI;rw[C6,Wr];rfl
 show p7 _ _ [some (bZ w,9)]=_;unfold p7;rw[s1];have s3:=Iw (cB s2) (show 1<=1000 by decide);simp only[s3];rw[Qk (by rw[gh,ZK];show min 2 _+1<=1000;omega)];rfl
structure Rd (t:Str) (rows:List (List Nat)) (p:Nat) (ws bs:List (List Nat)):Prop where
 ex:∃ pa ba l,(Txt.split t bD).findIdx? (λx=>Txt.startswith x ia)=some pa/\(Txt.split t bD).findIdx? (λx=>Txt.startswith x cW)=some ba /\
  (gH (Txt.split t bD) (some 1) (some (Int.ofNat pa))).mapM h_=some rows/\(gH (Txt.split t bD) (some (Int.ofNat (pa+1))) (some (Int.ofNat ba))).mapM h_=some ws /\
  (gH (Txt.split t bD) (some (Int.ofNat (ba+1))) (some (-1))).mapM h_=some bs/\(Txt.split t bD)[pa]? = some l/\hZ (Txt.partition l spS).2.2=some p
theorem Rd.uniq{t:Str}{rows mY:List (List Nat)}{p p':Nat}{bs iL yh:List (List Nat)}(h:Rd t rows p ws bs)(h':Rd t mY p' iL yh):rows=mY/\p=p'/\ws=iL/\bs=yh:=by obtain⟨pa,ba,l,e1,e2,e3,e4,e5,e6,e7⟩:=h.ex;obtain⟨zm,zo,l',f1,f2,f3,f4,f5,f6,f7⟩:=h'.ex;rw[e1]at f1;cases f1;rw[e2]at f2;cases f2;rw[e3]at f3;rw[e4]at f4;rw[e5]at f5;rw[e6]at f6;cases f6;rw[e7]at f7;cases f3;cases f4;cases f5;cases f7;exact⟨rfl,rfl,rfl,rfl⟩
theorem Wt(h:cw l):cw (Txt.partition l spS).2.2/\(Txt.partition l spS).2.2.length<=l.length:=by
 unfold Txt.partition;cases Builtin.Str.occurrences l spS 0 l.length 1 with
 | nil=>exact⟨(λ_ z=>nomatch z),Jl _⟩
 | cons i r=>
  show cw (⟨l.cps.extract (i+spS.length) l.length⟩:Str)/\(⟨l.cps.extract (i+spS.length) l.length⟩:Str).length<=_;constructor
  .intro c hc;refine h c ?_;have kB:c∈(l.cps.extract (i+spS.length) l.length).toList:=hc;rw[YH]at kB;exact YG (JA kB)
  .show(l.cps.extract (i+spS.length) l.length).size<=l.cps.size;rw[Array.size_extract];have:l.length=l.cps.size:=rfl;omega
abbrev R8 (t:Str)(ls:List Str)(q:Nat)(a b c d e g:OD):aV:=[some (.str t,9),some (.lst (ls.map D.str),q),a,b,c,d,e,g]
abbrev iN (n:Nat):OD:=(i9 n)
theorem C8{t:Str}(hl:ls.length<=1000){a b c d e g:OD}(h1:fl (R8 t ls 0 a b c d e g)=some (lo,R8 t ls 0 a b c d e g))(h2:fh (R8 t ls 0 a b c d e g)=some (hi,R8 t ls 0 a b c d e g)) :
  bH (js (aa 1) fl fh) (R8 t ls 0 a b c d e g)=some ((gH ls lo hi).map D.str,R8 t ls 0 a b c d e g):=by have e1:aa 1 (R8 t ls 0 a b c d e g)=some (.lst (ls.map D.str),0,R8 t ls 0 a b c d e g):=mQ (i:=1) (q:=0) rfl;refine zi (q:=1) (ds:=(gH ls lo hi).map D.str) ?_ (by rw[Qa];exact Qq (sQ ls lo hi) hl);unfold js;rw[e1];simp only[h1,h2];rw[C6]
theorem C9{t:Str}{a b c d e g:OD}(v:List Nat->D)(xs:List Str)(ok:∀ l∈xs,cw l/\l.length<=900)(hl:xs.length<=1000)
  (ht:∀ l∈xs,∀ ns,h_ l=some ns->ns.length<=901->gD [.str l]=some (bZ ns,9)->te (R8 t ls 0 a b c d e g++[some (.str l,9)])=some (v ns,9,R8 t ls 0 a b c d e g++[some (.str l,9)])) :
  (xs.mapM h_=none/\lB 1 (ax 8) bE te (iM kT 1 (ae (aa 8) af)) (xs.map D.str) (R8 t ls 0 a b c d e g)=some ("NoText":Str)) \/
  ∃ r,xs.mapM h_=some r/\(∀ x∈r,(∀ n∈x,n<16)/\x.length<=901)/\r.length<=xs.length/\lB 1 (ax 8) bE te (iM kT 1 (ae (aa 8) af)) (xs.map D.str) (R8 t ls 0 a b c d e g)=none /\
   iK 1 (ax 8) bE te false (xs.map D.str) (R8 t ls 0 a b c d e g)=some (r.map v,R8 t ls 0 a b c d e g):=by
 have two:∀ l∈xs,(h_ l=none/\kT [.str l]=some ("NoText":Str))\/∃ ns,h_ l=some ns/\(∀ n∈ns,n<16)/\ns.length<=901/\kT [.str l]=none/\gD [.str l]=(v9 ns):=λl hl=>Wh (ok l hl).1 (ok l hl).2;have arg:∀ l:Str,ae (aa 8) af (R8 t ls 0 a b c d e g++[some (.str l,9)])=some ([.str l],R8 t ls 0 a b c d e g++[some (.str l,9)]):=λl=>rfl;have II:∀ l∈xs,∀ d',(h_ l).map v=some d'->te (R8 t ls 0 a b c d e g++[some (.str l,9)])=some (d',9,R8 t ls 0 a b c d e g++[some (.str l,9)]):=λl hl d' hd=>by
  obtain⟨ns,hn,rfl⟩:=Zm.mp hd;rcases two l hl with⟨z,_⟩|⟨y8,h1,_,h2,h3,h4⟩
  .rw[hn]at z;cases z
  .rw[hn]at h1;cases h1;exact ht l hl ns hn h2 h4
 have hX:=CU (ρ:=R8 t ls 0 a b c d e g) (i:=8) (te:=te) (xe:=iM kT 1 (ae (aa 8) af)) (nm:="NoText") rfl (λl=>(h_ l).map v) xs (λl hl=>⟨λd' hd=>⟨by
  obtain⟨ns,hn,rfl⟩:=Zm.mp hd;rcases two l hl with⟨z,_⟩|⟨y8,h1,_,h2,h3,h4⟩
  .rw[hn]at z;cases z
  .exact(nX (arg l) rfl).trans h3,II l hl d' hd⟩,λhd=>by
  rcases two l hl with⟨z,y⟩|⟨y8,h1,_⟩
  .exact(nX (arg l) rfl).trans y
  .rw[Yq.mp hd]at h1;cases h1⟩)
 have ha:(λl:Str=>((h_ l).map v).isSome)=λl=>(h_ l).isSome:=funext λl=>Option.isSome_map;rw[ha]at hX;rcases CS h_ xs with⟨h1,h2⟩|⟨r,h1,h2,h4,h3⟩
 .rw[h2]at hX;exact .inl ⟨h1,hX⟩
 .rw[h2]at hX;have hD:=H9 (ρ:=R8 t ls 0 a b c d e g) (i:=8) (te:=te) rfl (λl=>(h_ l).map v) xs (by rw[ha];exact h2) II;rw[h3]at hD;refine .inr ⟨r,h1,λx hx=>?_,YM h4,hX,hD⟩;obtain⟨l,hl,e'⟩:=Qm.mp (show bZ x∈xs.map (λl=>((h_ l).map bZ).getD .aO)from by rw[h3];exact Zz hx);rcases two l hl with⟨z,_⟩|⟨ns,g1,g2,g3,_⟩
  .rw[z]at e';cases e'
  .rw[g1]at e';have e2:bZ ns=bZ x:=e';have:ns=x:=by have e3:aI ns=aI x:=D.tup.inj e2;have:=Zr (List.map λd=>match d with|D.int i=>i.toNat|_=>0) e3;simpa [aI,Zn]using this
   subst this;exact⟨g2,g3⟩
abbrev uu:cy:=fU (dP (dm (ay gE 1 (ae (aa 4) af)))) (fU (dP (dm (ay iQ 2 (ae (aa 4) (ae (aa 7) af))))) (bM (e2 dE (ay jL 2 (ae (aa 4) (ae (aa 7) af))) (aa 0))))
theorem Wu(t:Str):lG [.str t]=Cs [some (.str t,9),none,none,none,none,none,none,none]:=rfl
theorem Wv{q:Nat}(h1:fo ρ=some (.str x,q,ac))(h2:g ac=some ([.str y],ad))(hy:(y.length==0)=false)(hx:x.length<=1000):o7 fo g ρ=some (.tup [.str (Txt.partition x y).1,.str (Txt.partition x y).2.1,.str (Txt.partition x y).2.2],9,ad):=by unfold o7;rw[h1];simp only[h2];rw[Qk ⟨hy,ur (Qq hx (by decide))⟩]
abbrev sR (r:List (List Nat)):Prop:=(∀ x∈r,(∀ n∈x,n<16)/\x.length<=901)/\r.length<=1000
abbrev jv (p:Nat)(ws bs:List (List Nat)):D:=.tup [iD p,.tup (ws.map jb),.tup (bs.map bZ)]
abbrev R9 (t:Str)(pa ba:Nat)(rows:List (List Nat))(p:Nat)(ws bs:List (List Nat)):aV:=R8 t (Txt.split t bD) 0 (iN pa) (iN ba) (some (bI rows,9)) (some (.tup (ws.map jb),9)) (some (.tup (bs.map bZ),9)) (some (jv p ws bs,9))
theorem IJ{t:Str}(ok:cw t)(hl:t.length<=900) :
  (lG [.str t]=some ("NoText":Str)/\∀ rows p ws bs,¬ Rd t rows p ws bs) \/
  ∃ rows p ws bs pa ba,Rd t rows p ws bs/\sR rows/\sR ws/\sR bs/\p<16/\lG [.str t]=oU uu (yy "NoText") yx (R9 t pa ba rows p ws bs) /\
   ∀ d q,aE (cj uu tL cz) (aS (fZ (ae (aa 4) (ae (aa 7) af)))) (R9 t pa ba rows p ws bs)=some (.rt d q)->mO [.str t]=some (d,q):=by
 have mZ:(Txt.split t bD).length<=1000:=by have:=CM (c:=10) t;show(Txt.split t ⟨#[10]⟩).length<=1000;omega
 have zp:∀ l∈Txt.split t bD,cw l/\l.length<=900:=λl hm=>⟨HX ok l hm,Qq (Wa (c:=10) hm) hl⟩;have h1:aY 1 (nI (aa 0) (ae (eC (.str "\n")) af)) [some (.str t,9),none,none,none,none,none,none,none]=some (.nx (R8 t (Txt.split t bD) 1 none none none none none none)):=fI (Ip (fo:=aa 0) (g:=ae (eC (.str "\n")) af) (ρ:=[some (.str t,9),none,none,none,none,none,none,none]) (q:=9) (x:=t) (y:=bD) rfl (by rw[CK];rfl) rfl (by omega)) rfl;have six:ia.length=6/\cW.length=6:=by decide +kernel
 have a1:ae (aa 1) (ae (eC (.str "places")) af) (R8 t (Txt.split t bD) 1 none none none none none none)=some ([.lst ((Txt.split t bD).map D.str),.str ia],R8 t (Txt.split t bD) 0 none none none none none none):=eE (mQ (i:=1) (q:=1) rfl) (cB (f:=eC (.str "places")) (q:=9) rfl);rw[Wu];unfold Cs;rw[nW h1];rcases Iu mZ (w:=ia) (by omega)with⟨pa,f1,x1,b1⟩|⟨f1,x1⟩
 rotate_left
 .exact .inl ⟨uq ((nX (n:=2) a1 rfl).trans x1),λrows p ws bs h=>by obtain⟨pa,ba,l,e1,_⟩:=h.ex;rw[f1]at e1;cases e1⟩
 rw[uo ((nX (n:=2) a1 rfl).trans x1)];have h2:aY 2 (ay mM 2 (ae (aa 1) (ae (eC (.str "places")) af))) (R8 t (Txt.split t bD) 1 none none none none none none)=some (.nx (R8 t (Txt.split t bD) 0 (iN pa) none none none none none)):=fI (bY a1 rfl b1) rfl;have a2:ae (aa 1) (ae (eC (.str "begins")) af) (R8 t (Txt.split t bD) 0 (iN pa) none none none none none)=some ([.lst ((Txt.split t bD).map D.str),.str cW],R8 t (Txt.split t bD) 0 (iN pa) none none none none none):=eE (mQ (i:=1) (q:=0) rfl) (cB (f:=eC (.str "begins")) (q:=9) rfl);rw[nW h2];rcases Iu mZ (w:=cW) (by omega)with⟨ba,f2,x2,b2⟩|⟨f2,x2⟩
 rotate_left
 .exact .inl ⟨uq ((nX (n:=2) a2 rfl).trans x2),λrows p ws bs h=>by obtain⟨pa,ba,l,_,e1,_⟩:=h.ex;rw[f2]at e1;cases e1⟩
 rw[uo ((nX (n:=2) a2 rfl).trans x2)];have h3:aY 3 (ay mM 2 (ae (aa 1) (ae (eC (.str "begins")) af))) (R8 t (Txt.split t bD) 0 (iN pa) none none none none none)=some (.nx (R8 t (Txt.split t bD) 0 (iN pa) (iN ba) none none none none)):=fI (bY a2 rfl b2) rfl;rw[nW h3];have i4:=C8 (t:=t) mZ (a:=iN pa) (b:=iN ba) (c:=none) (d:=none) (e:=none) (g:=none) (fl:=cu (eC (.int 1))) (fh:=cu (aa 2)) (lo:=some 1) (hi:=some (Int.ofNat pa)) rfl rfl;rcases C9 (t:=t) (ls:=Txt.split t bD) (a:=iN pa) (b:=iN ba) (c:=none) (d:=none) (e:=none) (g:=none) (te:=ay gD 1 (ae (aa 8) af)) bZ (gH (Txt.split t bD) (some 1) (some (Int.ofNat pa))) (λl hm=>zp l (C7 hm)) (Qq (sQ _ _ _) mZ) (λl hm ns hn xC hF=>bY (ds:=[.str l]) rfl rfl hF)with⟨f4,x4⟩|⟨rows,f4,o4,n4,x4,c4⟩
 .exact .inl ⟨uq ((sN i4).trans x4),λrows p ws bs h=>by obtain⟨zm,zo,l,e1,e2,e3,_⟩:=h.ex;rw[f1]at e1;cases e1;rw[f4]at e3;cases e3⟩
 rw[uo ((sN i4).trans x4)];have h4:aY 4 (fV (ae (cA 1 (bH (js (aa 1) (cu (eC (.int 1))) (cu (aa 2)))) (ax 8) bE (ay gD 1 (ae (aa 8) af)) false) af)) (R8 t (Txt.split t bD) 0 (iN pa) (iN ba) none none none none)=some (.nx (R8 t (Txt.split t bD) 0 (iN pa) (iN ba) (some (bI rows,9)) none none none)):=fI (t5 (cB (iO i4 c4))) rfl;rw[nW h4];have i5:=C8 (t:=t) mZ (a:=iN pa) (b:=iN ba) (c:=some (bI rows,9)) (d:=none) (e:=none) (g:=none) (fl:=cu (e2 bG (aa 2) (eC (.int 1)))) (fh:=cu (aa 3)) (lo:=some (Int.ofNat (pa+1))) (hi:=some (Int.ofNat ba)) rfl rfl;rcases C9 (t:=t) (ls:=Txt.split t bD) (a:=iN pa) (b:=iN ba) (c:=some (bI rows,9)) (d:=none) (e:=none) (g:=none) (te:=ay nR 1 (ae (ay gD 1 (ae (aa 8) af)) af)) jb (gH (Txt.split t bD) (some (Int.ofNat (pa+1))) (some (Int.ofNat ba))) (λl hm=>zp l (C7 hm)) (Qq (sQ _ _ _) mZ) (λl hm ns hn xC hF=>bY (cB (bY (ds:=[.str l]) rfl rfl hF)) rfl (Ws xC))with⟨f5,x5⟩|⟨ws,f5,o5,n5,x5,c5⟩
 .exact .inl ⟨uq ((sN i5).trans x5),λrows p ws bs h=>by obtain⟨zm,zo,l,e1,e2,e3,e4,_⟩:=h.ex;rw[f1]at e1;cases e1;rw[f2]at e2;cases e2;rw[f5]at e4;cases e4⟩
 rw[uo ((sN i5).trans x5)];have h5:aY 5 (fV (ae (cA 1 (bH (js (aa 1) (cu (e2 bG (aa 2) (eC (.int 1)))) (cu (aa 3)))) (ax 8) bE (ay nR 1 (ae (ay gD 1 (ae (aa 8) af)) af)) false) af)) (R8 t (Txt.split t bD) 0 (iN pa) (iN ba) (some (bI rows,9)) none none none)=some (.nx (R8 t (Txt.split t bD) 0 (iN pa) (iN ba) (some (bI rows,9)) (some (.tup (ws.map jb),9)) none none)):=fI (t5 (cB (iO i5 c5))) rfl;rw[nW h5];have i6:=C8 (t:=t) mZ (a:=iN pa) (b:=iN ba) (c:=some (bI rows,9)) (d:=some (.tup (ws.map jb),9)) (e:=none) (g:=none) (fl:=cu (e2 bG (aa 3) (eC (.int 1)))) (fh:=cu (rQ (eC (.int 1)))) (lo:=some (Int.ofNat (ba+1))) (hi:=some (-1)) rfl rfl;rcases C9 (t:=t) (ls:=Txt.split t bD) (a:=iN pa) (b:=iN ba) (c:=some (bI rows,9)) (d:=some (.tup (ws.map jb),9)) (e:=none) (g:=none) (te:=ay gD 1 (ae (aa 8) af)) bZ (gH (Txt.split t bD) (some (Int.ofNat (ba+1))) (some (-1))) (λl hm=>zp l (C7 hm)) (Qq (sQ _ _ _) mZ) (λl hm ns hn xC hF=>bY (ds:=[.str l]) rfl rfl hF)with⟨f6,x6⟩|⟨bs,f6,o6,n6,x6,c6⟩
 .exact .inl ⟨uq ((sN i6).trans x6),λrows p ws bs h=>by obtain⟨zm,zo,l,e1,e2,e3,e4,e5,_⟩:=h.ex;rw[f2]at e2;cases e2;rw[f6]at e5;cases e5⟩
 rw[uo ((sN i6).trans x6)];have h6:aY 6 (fV (ae (cA 1 (bH (js (aa 1) (cu (e2 bG (aa 3) (eC (.int 1)))) (cu (rQ (eC (.int 1)))))) (ax 8) bE (ay gD 1 (ae (aa 8) af)) false) af)) (R8 t (Txt.split t bD) 0 (iN pa) (iN ba) (some (bI rows,9)) (some (.tup (ws.map jb),9)) none none)=some (.nx (R8 t (Txt.split t bD) 0 (iN pa) (iN ba) (some (bI rows,9)) (some (.tup (ws.map jb),9)) (some (.tup (bs.map bZ),9)) none)):=fI (t5 (cB (iO i6 c6))) rfl;rw[nW h6];obtain⟨xf,_,_⟩:=ZF.mp f1;have gl:(Txt.split t bD)[pa]? = some ((Txt.split t bD)[pa]'xf):=Qz xf;have lm:(Txt.split t bD)[pa]'xf∈Txt.split t bD:=Ze xf;generalize (Txt.split t bD)[pa]'xf=l at gl lm;obtain⟨lo1,PZ⟩:=zp l lm;obtain⟨IK,XM⟩:=Wt lo1;have e7:ae (cf (o7 (aW 1 (aa 2)) (ae (eC (.str " ")) af)) (eC (.int 2))) af (R8 t (Txt.split t bD) 0 (iN pa) (iN ba) (some (bI rows,9)) (some (.tup (ws.map jb),9)) (some (.tup (bs.map bZ),9)) none)=some ([.str (Txt.partition l spS).2.2],R8 t (Txt.split t bD) 0 (iN pa) (iN ba) (some (bI rows,9)) (some (.tup (ws.map jb),9)) (some (.tup (bs.map bZ),9)) none):=by have q1:aW 1 (aa 2) (R8 t (Txt.split t bD) 0 (iN pa) (iN ba) (some (bI rows,9)) (some (.tup (ws.map jb),9)) (some (.tup (bs.map bZ),9)) none)=some (.str l,9,R8 t (Txt.split t bD) 0 (iN pa) (iN ba) (some (bI rows,9)) (some (.tup (ws.map jb),9)) (some (.tup (bs.map bZ),9)) none):=Vd (i:=1) (b:=aa 2) (q':=9) rfl rfl (show L2.dC ((Txt.split t bD).map D.str) (Int.ofNat pa)=some (.str l)from DW (by rw[QO,gl];rfl)) rfl;have q2:=Wv (g:=ae (eC (.str " ")) af) (y:=spS) q1 (by rw[y_];rfl) rfl (by omega);exact cB (Ve q2 (b:=eC (.int 2)) (q':=9) rfl rfl rfl rfl)
 cases hp:hZ (Txt.partition l spS).2.2 with
 | none=>
  exact .inl ⟨uq ((nX (n:=1) e7 rfl).trans (Im IK hp)),λrows p ws bs h=>by obtain⟨zm,zo,l',e1,e2,e3,e4,e5,e6,e7⟩:=h.ex;rw[f1]at e1;cases e1;rw[gl]at e6;cases e6;rw[hp]at e7;cases e7⟩
 | some p=>
  obtain⟨y1,y2⟩:=CW IK hp;rw[uo ((nX (n:=1) e7 rfl).trans y2)];have h7:aY 7 (fZ (ae (ay jM 1 (ae (cf (o7 (aW 1 (aa 2)) (ae (eC (.str " ")) af)) (eC (.int 2))) af)) (ae (aa 5) (ae (aa 6) af)))) (R8 t (Txt.split t bD) 0 (iN pa) (iN ba) (some (bI rows,9)) (some (.tup (ws.map jb),9)) (some (.tup (bs.map bZ),9)) none)=some (.nx (R9 t pa ba rows p ws bs)):=fI (Iw (eE (bY e7 rfl y1) (eE (f:=aa 5) (q:=9) rfl (cB (f:=aa 6) (q:=9) rfl))) (show 3<=1000 by decide)) rfl;rw[nW h7];refine .inr ⟨rows,p,ws,bs,pa,ba,⟨pa,ba,l,f1,f2,f4,f5,f6,gl,hp⟩,⟨o4,Qq n4 (Qq (sQ _ _ _) mZ)⟩,⟨o5,Qq n5 (Qq (sQ _ _ _) mZ)⟩,⟨o6,Qq n6 (Qq (sQ _ _ _) mZ)⟩,(CN hp).1,rfl,λd q e=>?_⟩;unfold mO Hi;refine dJ ?_;show aE _ _ [some (.str t,9),none,none,none,none,none,none,none]=_;exact(aZ h1).trans ((aZ h2).trans ((aZ h3).trans ((aZ h4).trans ((aZ h5).trans ((aZ h6).trans ((aZ h7).trans e))))))
theorem Ww{n:Nat}{f:Nat->Nat->Nat}(L:cC n f):yX n f=true:=by
 obtain⟨z,hz,bz⟩:=L.bot;unfold yX;simp only[QX];refine⟨⟨?_,?_⟩,?_,?_⟩
 .exact L3.range_all.mpr λx hx=>Qt (L.idem x hx)
 .exact L3.range_all.mpr λx hx=>L3.range_all.mpr λy hy=>Qt (L.comm x y hx (Zj hy hx))
 .exact L3.range_all.mpr λx hx=>L3.range_all.mpr λy hy=>L3.range_all.mpr λk hk=>Qt (L.assoc x y k hx hy hk)
 .unfold sJ;rw[List.any_eq_true];refine⟨z,QN.mpr hz,Qt ?_⟩;have:(range n).map (λj=>f z j)=(range n).map λj=>j:=Q0 λj hj=>bz j (QN.mp hj);rw[this,List.map_id']
theorem IL{n:Nat}{r:List Nat}(h:dF m n (bZ r)=true):r.length=m/\∀ x∈r,x<n:=by have h:(decide ((aI r).length=m)&&(aI r).all (dB n))=true:=h;rw[gh]at h;obtain⟨h1,h2⟩:=QT.mp h;refine⟨Zv h1,λx hx=>?_⟩;have:=QU.mp h2 ((iD x)) (Zz hx);rw[wW]at this;exact Zv this
theorem Wx{rows:List (List Nat)}(h:sR rows):∃ b,gE [bI rows]=(b9 b)/\(b=true->∃ n f,n<=16/\bI rows=bN n f/\rows.length=n/\∀ r∈rows,r.length=n):=by
 have hl:∀ d∈rows.map bZ,∀ es,d=.tup es->es.length<=1000:=λd hd es e=>by obtain⟨r,hr,rfl⟩:=Qm.mp hd;cases e;rw[gh];have:=(h.1 r hr).2;omega
 have len:(rows.map bZ).length=rows.length:=Qa _;by_cases hk:1<=rows.length/\rows.length<=16
 .cases ha:(rows.map bZ).all (dF (rows.map bZ).length (rows.map bZ).length)with
  | false=>exact⟨false,Vy _ hl ha,λz=>nomatch z⟩
  | true=>
   rw[len]at ha;have rk:∀ r∈rows,r.length=rows.length/\∀ x∈r,x<rows.length:=λr hr=>IL (QU.mp ha _ (Zz hr));have gm:∀ i,i<rows.length->rows.getD i []∈rows:=λi hi=>by rw[Zc,Qz hi];exact Ze hi
   have et:bI rows=bN rows.length λi j=>gv (rows.getD i []) j:=by
    unfold bI bN;congr 1;apply List.ext_getElem
    .rw[Qa,Qa,Q1]
    .intro i h1 h2;have h3:i<rows.length:=by rw[Qa]at h1;exact h1
     rw[Jv,Jv,JW];have e:rows.getD i []=rows[i]'h3:=by rw[Zc,Qz h3];rfl
     show D.tup (aI (rows[i]'h3))=D.tup (aI ((range rows.length).map λj=>gv (rows.getD i []) j));rw[e];have:=RS (rows[i]'h3);rw[(rk (rows[i]'h3) (Ze h3)).1]at this;exact Zr (λl=>D.tup (aI l)) this
   have cl:∀ i j,i<rows.length->j<rows.length->gv (rows.getD i []) j<rows.length:=λi j hi hj=>(rk _ (gm i hi)).2 _ (F9 (by rw[(rk _ (gm i hi)).1];exact hj));refine⟨_,by rw[et];exact HI hk.1 hk.2 cl,λ_=>⟨_,_,hk.2,et,rfl,λr hr=>(rk r hr).1⟩⟩
 .exact⟨false,HG _ (by rw[len];exact hk),λz=>nomatch z⟩
theorem Wy{n:Nat}{f:Nat->Nat->Nat}{p:Nat}{bs:List (List Nat)}(h:kU n f (jv p ws bs)=true):ws.length<=60/\bs.length<=60/\(∀ w∈ws,∃ a b r,w=a::b::r/\r.length=n)/\∀ b∈bs,b.length=2:=by
 rw[HN]at h;simp only[QX,jN,kv,Qa,Zl,QU]at h;obtain⟨_,⟨h1,h2⟩,h3,h4⟩:=h;refine⟨h1,h3,λw hw=>?_,λb hb=>?_⟩
 .have:=h2 (jb w) (Zz hw)
  match w,this with
  | [],q=>cases q
  | [a],q=>cases q
  | a::b::r,q=>
   have q':(dB p (iD a)&&dB p (iD b)&&rr n f (bZ r))=true:=q;have q2:=(QT.mp q').2;have q3:(dF n n (bZ r)&&nU n f (mU (aI r)))=true:=q2;exact⟨a,b,r,rfl,(IL (QT.mp q3).1).1⟩
 .have:=h4 (bZ b) (Zz hb)
  match b,this with
  | [],q=>cases q
  | [a],q=>cases q
  | [a,b],q=>rfl
  | a::b::c::r,q=>cases q
def m7 (w:List Nat):WN:=(w.getD 0 0,w.getD 1 0,w.drop 2)
theorem zq{rows:List (List Nat)}{p:Nat}{W:List WN}{bs:List (List Nat)}(h:ja rows p W bs):(∀ l∈ck rows p W bs,cw l/\10 ∉ cl l)/\cw (fB (ck rows p W bs)):=by
 have cs:(cw eF/\10 ∉ cl eF)/\(cw cW/\10 ∉ cl cW)/\(cw fg/\10 ∉ cl fg):=by unfold cw;decide +kernel
 have key:∀ l∈ck rows p W bs,cw l/\10 ∉ cl l:=λl hl=>by
  unfold ck at hl;simp only[QL,Qu,Qm]at hl;rcases hl with((((e|⟨r,hr,e⟩)|e)|⟨w,hw,e⟩)|e)|⟨b,hb,e⟩
  .rw[e];exact cs.1
  .rw[<- e];exact⟨CP (h.r r hr).1,CO (h.r r hr).1⟩
  .rw[e];refine⟨HV cs.2.2.1 (zc h.p),λz=>?_⟩;rw[pj]at z;rcases QL.mp z with z|z
   .exact cs.2.2.2 z
   .exact zd h.p (by decide) z
  .rw[<- e];exact⟨CP (h.w w hw).1,CO (h.w w hw).1⟩
  .rw[e];exact cs.2.1
  .rw[<- e];exact⟨CP (h.b b hb).1,CO (h.b b hb).1⟩
 refine⟨key,λc hc=>?_⟩;rw[zj]at hc;obtain⟨l,hl,hz⟩:=Jw.mp hc;obtain⟨x,hx,rfl⟩:=Qm.mp hl;rcases QL.mp hz with z|z
 .exact(key x hx).1 c z
 .rw[Qu.mp z];decide
theorem IM{g h:cy}(e:g ρ=some (true,ac)):fU g h ρ=some (true,ac):=by unfold fU;rw[e];rfl
theorem Wz{t:Str}(ok:cw t){rows:List (List Nat)}{p:Nat}{bs:List (List Nat)}(pa ba:Nat)(o1:sR rows)(o2:sR ws)(o3:sR bs)(hp:p<16) :
  uu (R9 t pa ba rows p ws bs)=some (true,R9 t pa ba rows p ws bs)\/(uu (R9 t pa ba rows p ws bs)=some (false,R9 t pa ba rows p ws bs)/\ja rows p (ws.map m7) bs/\jv p ws bs=dM p (ws.map m7) bs/\fB (ck rows p (ws.map m7) bs)=t /\
   gE [bI rows]=(b9 true)/\iQ [bI rows,jv p ws bs]=(b9 true)):=by
 obtain⟨b,e1,h1⟩:=Wx o1;have c1:=wL (ui (bY (F:=gE) (n:=1) (g:=ae (aa 4) af) (ρ:=R9 t pa ba rows p ws bs) (ds:=[bI rows]) rfl rfl e1));cases b with
 | false=>exact .inl (IM c1)
 | true=>
  obtain⟨n,f,hn,et,lr,WA⟩:=h1 rfl;have e2:iQ [bI rows,jv p ws bs]=(b9 (kU n f (jv p ws bs))):=by rw[et];exact HM (by omega) _
  have c2:=wL (ui (bY (F:=iQ) (n:=2) (g:=ae (aa 4) (ae (aa 7) af)) (ρ:=R9 t pa ba rows p ws bs) (ds:=[bI rows,jv p ws bs]) rfl rfl e2));cases hb:kU n f (jv p ws bs)with
  | false=>
   rw[hb]at c2;exact .inl ((qB c1).trans (IM c2))
  | true=>
   rw[hb]at c2 e2;obtain⟨k1,k2,k3,k4⟩:=Wy hb;have tw:∀ w∈ws,cJ (m7 w)=w/\wY (m7 w)=jb w/\w.length=n+2:=λw hw=>by obtain⟨a,b,r,rfl,hr⟩:=k3 w hw;exact⟨rfl,rfl,by rw[QK,QK,hr]⟩
   have tx:ja rows p (ws.map m7) bs:=⟨λr hr=>⟨(o1.1 r hr).1,by rw[WA r hr];omega⟩,hp,λw hw=>by obtain⟨x,hx,rfl⟩:=Qm.mp hw;rw[(tw x hx).1];exact⟨(o2.1 x hx).1,by rw[(tw x hx).2.2];omega⟩,λb hb=>⟨(o3.1 b hb).1,by rw[k4 b hb];omega⟩,by omega,by rw[Qa];exact k1,k2⟩
   have ec:jv p ws bs=dM p (ws.map m7) bs:=by unfold jv dM;rw[QG];have:ws.map (wY ∘ m7)=ws.map jb:=Q0 λw hw=>(tw w hw).2.1;rw[this]
   have ew:jL [bI rows,jv p ws bs]=some (.str (fB (ck rows p (ws.map m7) bs)),9):=by rw[ec];exact C3 tx
   have c3:=kn (dR (bY (F:=jL) (n:=2) (g:=ae (aa 4) (ae (aa 7) af)) (ρ:=R9 t pa ba rows p ws bs) (ds:=[bI rows,jv p ws bs]) rfl rfl ew) (fb:=aa 0) (q':=9) rfl (CL (zq tx).2 ok));by_cases he:fB (ck rows p (ws.map m7) bs)=t
   .rw[Qt he]at c3;exact .inr ⟨(qB c1).trans ((qB c2).trans c3),tx,ec,he,e1,e2⟩
   .rw[Zd he]at c3;exact .inl ((qB c1).trans ((qB c2).trans c3))
theorem IP{t:Str}(h:uu ρ=some (false,ρ)){q:Nat}(e:aS (fZ (ae (aa 4) (ae (aa 7) af))) ρ=some (.rt d q)):aE (cj uu tL cz) (aS (fZ (ae (aa 4) (ae (aa 7) af)))) ρ=some (.rt d q):=(aZ ((o9 h).trans rfl)).trans e
theorem WB{t:Str}(ok:cw t)(hl:t.length<=900):lG [.str t]=some ("NoText":Str)\/∃ rows p W bs,ja rows p W bs/\lG [.str t]=none/\mO [.str t]=some (.tup [bI rows,dM p W bs],9)/\fB (ck rows p W bs)=t/\gE [bI rows]=(b9 true)/\iQ [bI rows,dM p W bs]=(b9 true):=by
 rcases IJ ok hl with⟨h,_⟩|⟨rows,p,ws,bs,pa,ba,_,o1,o2,o3,hp,fx,fr⟩
 .exact .inl h
 .rcases Wz ok pa ba o1 o2 o3 hp with c|⟨c,tx,ec,et,e1,e2⟩
  .exact .inl (fx.trans (H_ c))
  .rw[ec]at e2;refine .inr ⟨rows,p,ws.map m7,bs,tx,fx.trans (Ie c),?_,et,e1,e2⟩;refine fr _ _ (IP (t:=t) c ?_);rw[<- ec];rfl
abbrev H7 (t:Str)(a b c d e g:OD):aV:=[some (.str t,9),a,b,c,d,e,g]
theorem IQ{f g:aA}{q:Nat}(h:f ρ=some (.bl true,q,ac)):gz f g ρ=g ac:=by unfold gz;rw[h];rfl
theorem WC{t:Str}(ok:cw t)(hl:t.length<=900):ud [.str t]=(b9 true):=by
 unfold ud Hk;refine dJ ?_;show aE _ _ (H7 t none none none none none none)=_;refine(aZ (ac:=H7 t (some (.aO,9)) none none none none none) rfl).trans ?_;refine(aZ (ac:=H7 t (some (.aO,9)) (some (.aO,9)) none none none none) rfl).trans ?_;have ya:ae (aa 0) af (H7 t (some (.aO,9)) (some (.aO,9)) none none none none)=some ([.str t],H7 t (some (.aO,9)) (some (.aO,9)) none none none none):=rfl;rcases WB ok hl with fx|⟨rows,p,W,bs,tx,fx,fr,et,e1,ek⟩
 .have y:rZ lG 1 (ae (aa 0) af) (H7 t (some (.aO,9)) (some (.aO,9)) none none none none)=some (("NoText":Str),H7 t (some (.aO,9)) (some (.aO,9)) none none none none):=by unfold rZ;rw[ya];show(lG [.str t]).map _=_;rw[fx];rfl
  refine(aZ (ac:=H7 t (some (.exc "NoText",9)) (some (.aO,9)) none none none none) (by unfold vP;rw[y];rfl)).trans ?_
  refine(aZ (ac:=H7 t (some (.exc "NoText",9)) (some (.aO,9)) none none none none) rfl).trans ?_;refine(aZ (ac:=H7 t (some (.exc "NoText",9)) (some (.aO,9)) none none none (some (.lst [.bl false,.bl false,.bl false,.bl false],1))) rfl).trans ?_;refine(aZ (ac:=H7 t (some (.exc "NoText",9)) (some (.aO,9)) none none none (some (.lst [.bl false,.bl false,.bl false,.bl false,.bl false,.bl false],1))) rfl).trans ?_;rfl
 .have y:rZ lG 1 (ae (aa 0) af) (H7 t (some (.aO,9)) (some (.aO,9)) none none none none)=none:=by unfold rZ;rw[ya];show(lG [.str t]).map _=_;rw[fx];rfl
  refine(aZ (ac:=H7 t (some (.aO,9)) (some (.tup [bI rows,dM p W bs],9)) none none none none) (by unfold vP;rw[y];exact fI (bY ya rfl fr) rfl)).trans ?_
  refine kh ((qp (ac:=H7 t (some (.aO,9)) (some (.tup [bI rows,dM p W bs],9)) none none none none) rfl).trans ?_);refine(aZ (ac:=H7 t (some (.aO,9)) (some (.tup [bI rows,dM p W bs],9)) none (some (bI rows,9)) (some (dM p W bs,9)) none) (Vf (x:=bI rows) (y:=dM p W bs) (q:=9) (ac:=H7 t (some (.aO,9)) (some (.tup [bI rows,dM p W bs],9)) none none none none) rfl rfl (show 4<7 by decide) (show 5<7 by decide))).trans ?_;have i1:e2 rP (ay gE 1 (ae (aa 4) af)) (eC (.bl true)) (H7 t (some (.aO,9)) (some (.tup [bI rows,dM p W bs],9)) none (some (bI rows,9)) (some (dM p W bs,9)) none)=some (.bl true,9,H7 t (some (.aO,9)) (some (.tup [bI rows,dM p W bs],9)) none (some (bI rows,9)) (some (dM p W bs,9)) none):=dR (bY (ds:=[bI rows]) rfl rfl e1) (fb:=eC (.bl true)) (q':=9) rfl rfl;have i2:e2 rP (ay iQ 2 (ae (aa 4) (ae (aa 5) af))) (eC (.bl true)) (H7 t (some (.aO,9)) (some (.tup [bI rows,dM p W bs],9)) none (some (bI rows,9)) (some (dM p W bs,9)) none)=some (.bl true,9,H7 t (some (.aO,9)) (some (.tup [bI rows,dM p W bs],9)) none (some (bI rows,9)) (some (dM p W bs,9)) none):=dR (bY (ds:=[bI rows,dM p W bs]) rfl rfl ek) (fb:=eC (.bl true)) (q':=9) rfl rfl;have de:=V8 ok ok;rw[Qt rfl]at de;have lt:=IH tx;rw[et]at lt;exact fR ((IQ i1).trans ((IQ i2).trans (dR (bY (ds:=[bI rows,dM p W bs]) rfl rfl lt) (fb:=aa 0) (q':=9) rfl de)))
theorem C_{α:Type}{P:α->Bool}{x:α}{post:List α}(hx:P x=true):∀ {pre:List α},(∀ y∈pre,P y=false)->(pre++x::post).findIdx? P=some pre.length
 | [],_=>by rw[Yt,J0,hx];rfl
 | y::pre,h=>by rw[Yl,J0,h y Qd,C_ hx λz hz=>h z (Qc _ hz)];rfl
theorem IS{α:Type}(X A Y:List α):gH (X++A++Y) (some (Int.ofNat X.length)) (some (Int.ofNat (X.length+A.length)))=A:=by
 unfold gH;have l:(X++A++Y).length=X.length+A.length+Y.length:=by rw[Qe,Qe]
 have e1:HT.bo (X++A++Y).length 0 (some (Int.ofNat X.length))=min X.length (X++A++Y).length:=HT.uR _ _ _;have e2:HT.bo (X++A++Y).length (X++A++Y).length (some (Int.ofNat (X.length+A.length)))=min (X.length+A.length) (X++A++Y).length:=HT.uR _ _ _;rw[e1,e2,l,Jg (by omega),Jg (by omega),Zg,List.drop_left,Ym,List.take_left]
theorem WD{α:Type}(X A:List α)(y:α):gH (X++A++[y]) (some (Int.ofNat X.length)) (some (-1))=A:=by
 unfold gH;have l:(X++A++[y]).length=X.length+A.length+1:=by rw[Qe,Qe];rfl
 have e1:HT.bo (X++A++[y]).length 0 (some (Int.ofNat X.length))=min X.length (X++A++[y]).length:=HT.uR _ _ _;have e2:HT.bo (X++A++[y]).length (X++A++[y]).length (some (-1))=X.length+A.length:=by show((-1:Int)+((X++A++[y]).length:Int)).toNat=_;rw[l];omega
 rw[e1,e2,l,Jg (by omega),Zg,List.drop_left,Ym,List.take_left]
theorem WE{l:List Nat}(hy:cl y=c::l)(h:Txt.startswith x y=true):∃ m,cl x=c::m:=by
 unfold Txt.startswith at h;obtain⟨h1,h2⟩:=QT.mp h;have oH:(x.cps.extract 0 (0+y.length)==y.cps)=true:=h2;have e:=Zr Array.toList (eq_of_beq oH);rw[YH]at e;have e':((cl x).drop 0).take (0+y.length-0)=c::l:=e.trans hy;rw[YD]at e';cases hx:cl x with
 | nil=>rw[hx,List.take_nil]at e';cases e'
 | cons d m=>
  rw[hx]at e';have hl:y.length=(l.length)+1:=by rw[mW,hy];rfl
  rw[hl,Nat.zero_add,YN,List.take_succ_cons]at e';obtain⟨rfl,_⟩:=List.cons.inj e';exact⟨m,rfl⟩
theorem WG{ns:List Nat}(h0:ns ≠ [])(h:∀ n∈ns,n<16):∃ c m,cl (aX ns)=c::m/\48<=c/\c<=57:=by
 cases ns with
 | nil=>exact absurd rfl h0
 | cons n ns=>
  obtain⟨_,f1,f2,_⟩:=pq n (h n Qd);unfold aX;rw[Qr];unfold spS;rw[mX];cases hc:cl (b_ n)with
  | nil=>exact absurd hc f2
  | cons c m=>exact⟨c,_,rfl,f1 c (by rw[hc];exact Qd)⟩
theorem Dc{ns:List Nat}(h0:ns ≠ [])(h:∀ n∈ns,n<16){l:List Nat}(hy:cl y=c::l)(hc:57<c):Txt.startswith (aX ns) y=false:=by
 cases hs:Txt.startswith (aX ns) y with
 | false=>rfl
 | true=>
  obtain⟨m,e⟩:=WE hy hs;obtain⟨c',m',e',_,h2⟩:=WG h0 h;rw[e]at e';cases e';omega
theorem WH:cl ia=112 :: [108,97,99,101,115]/\cl cW=98 :: [101,103,105,110,115]/\Txt.startswith eF ia=false/\Txt.startswith eF cW=false/\Txt.startswith cW cW=true:=by decide +kernel
theorem WI:∀ p,p<16->Txt.startswith (fg++b_ p) ia=true/\Txt.startswith (fg++b_ p) cW=false/\hZ (Txt.partition (fg++b_ p) spS).2.2=some p:=by decide +kernel
theorem zr:∀ {zt:List (List Nat)},(∀ ns∈zt,ns ≠ []/\∀ n∈ns,n<16)->(zt.map aX).mapM h_=some zt
 | [],_=>rfl
 | ns::zt,h=>by obtain⟨h1,h2⟩:=h ns Qd;rw[Qr,Jo,Wc h1 h2,zr λx hx=>h x (Qc _ hx)];rfl
theorem IU:∀ L:List Str,((L++[Str.empty]).map λy=>10::cl y).flatten=10::(L.map λl=>cl l++[10]).flatten
 | []=>rfl
 | x::L=>by rw[Yl,Qr,QR,IU L,Qr,QR];simp
theorem WJ{L:List Str}(h:∀ l∈x::L,10 ∉ cl l):Txt.split (fB (x::L)) bD=(x::L)++[Str.empty]:=by
 have e:fB (x::L)=Str.join bD (x::(L++[Str.empty])):=by apply y9;unfold bD;rw[zj,mX,IU,Qr,QR];simp
 rw[e];unfold bD;rw[HU]
 .rfl
 .intro p hp;rcases Qp.mp hp with q|q
  .rw[q];exact h x Qd
  .rcases QL.mp q with q|q
   .exact h p (Qc _ q)
   .rw[Qu.mp q];intro z;cases z
section
variable {rows:List (List Nat)}{p:Nat}{W:List WN}{bs:List (List Nat)}(h:ja rows p W bs)(hr:∀ r∈rows,r ≠ [])(hb:∀ b∈bs,b ≠ [])
include h hr hb
theorem WK:Rd (fB (ck rows p W bs)) rows p (W.map cJ) bs:=by
 obtain⟨l1,l2,l3,l4,l5⟩:=WH;obtain⟨q1,q2,q3⟩:=WI p h.p;have es:Txt.split (fB (ck rows p W bs)) bD=ck rows p W bs++[Str.empty]:=by
  have k:=(zq h).1;have e:ck rows p W bs=eF::(rows.map aX++[fg++b_ p]++W.map (λw=>aX (cJ w))++[cW]++bs.map aX):=by unfold ck;simp
  rw[e]at k ⊢;exact WJ λl hl=>(k l hl).2
 have rn:∀ l∈rows.map aX,Txt.startswith l ia=false/\Txt.startswith l cW=false:=λl hl=>by obtain⟨r,hm,rfl⟩:=Qm.mp hl;exact⟨Dc (hr r hm) (h.r r hm).1 l1 (by decide),Dc (hr r hm) (h.r r hm).1 l2 (by decide)⟩
 have wn:∀ l∈W.map (λw=>aX (cJ w)),Txt.startswith l cW=false:=λl hl=>by obtain⟨w,hm,rfl⟩:=Qm.mp hl;exact Dc (λz=>by cases z) (h.w w hm).1 l2 (by decide)
 refine⟨1+rows.length,rows.length+2+W.length,fg++b_ p,?_,?_,?_,?_,?_,?_,q3⟩
 .rw[es];have e:ck rows p W bs++[Str.empty]=([eF]++rows.map aX)++(fg++b_ p)::(W.map (λw=>aX (cJ w))++[cW]++bs.map aX++[Str.empty]):=by unfold ck;simp
  rw[e,C_ (P:=λx=>Txt.startswith x ia) q1 (λy hy=>by
   rcases QL.mp hy with q|q
   .rw[Qu.mp q];exact l3
   .exact(rn y q).1)]
  rw[Qe,Qa];rfl
 .rw[es];have e:ck rows p W bs++[Str.empty]=([eF]++rows.map aX++[fg++b_ p]++W.map (λw=>aX (cJ w)))++cW::(bs.map aX++[Str.empty]):=by unfold ck;simp
  rw[e,C_ (P:=λx=>Txt.startswith x cW) l5 (λy hy=>by
   simp only[QL,Qu]at hy;rcases hy with((q|q)|q)|q
   .rw[q];exact l4
   .exact(rn y q).2
   .rw[q];exact q2
   .exact wn y q)]
  simp only[Qe,Qa,Q8];congr 1;omega
 .rw[es];have e:ck rows p W bs++[Str.empty]=[eF]++rows.map aX++([fg++b_ p]++W.map (λw=>aX (cJ w))++[cW]++bs.map aX++[Str.empty]):=by unfold ck;simp
  have c:=IS [eF] (rows.map aX) ([fg++b_ p]++W.map (λw=>aX (cJ w))++[cW]++bs.map aX++[Str.empty]);rw[Qa]at c;rw[e];have c':gH ([eF]++rows.map aX++([fg++b_ p]++W.map (λw=>aX (cJ w))++[cW]++bs.map aX++[Str.empty])) (some 1) (some (Int.ofNat (1+rows.length)))=rows.map aX:=c;rw[c'];exact zr λr hm=>⟨hr r hm,(h.r r hm).1⟩
 .rw[es];have e:ck rows p W bs++[Str.empty]=([eF]++rows.map aX++[fg++b_ p])++W.map (λw=>aX (cJ w))++([cW]++bs.map aX++[Str.empty]):=by unfold ck;simp
  have c:=IS ([eF]++rows.map aX++[fg++b_ p]) (W.map (λw=>aX (cJ w))) ([cW]++bs.map aX++[Str.empty]);have lx:([eF]++rows.map aX++[fg++b_ p]).length=1+rows.length+1:=by simp only[Qe,Qa,Q8]
  rw[lx,Qa]at c;rw[e,show rows.length+2+W.length=1+rows.length+1+W.length by omega,c];have e2:W.map (λw=>aX (cJ w))=(W.map cJ).map aX:=by rw[QG];rfl
  rw[e2];exact zr λns hm=>by obtain⟨w,hw,rfl⟩:=Qm.mp hm;exact⟨λz=>(by cases z),(h.w w hw).1⟩
 .rw[es];have e:ck rows p W bs++[Str.empty]=([eF]++rows.map aX++[fg++b_ p]++W.map (λw=>aX (cJ w))++[cW])++bs.map aX++[Str.empty]:=by unfold ck;simp
  have c:=WD ([eF]++rows.map aX++[fg++b_ p]++W.map (λw=>aX (cJ w))++[cW]) (bs.map aX) Str.empty;have lx:([eF]++rows.map aX++[fg++b_ p]++W.map (λw=>aX (cJ w))++[cW]).length=rows.length+2+W.length+1:=by simp only[Qe,Qa,Q8];omega
  rw[lx]at c;rw[e,c];exact zr λr hm=>⟨hb r hm,(h.b r hm).1⟩
 .rw[es];have e:ck rows p W bs++[Str.empty]=([eF]++rows.map aX)++(fg++b_ p)::(W.map (λw=>aX (cJ w))++[cW]++bs.map aX++[Str.empty]):=by unfold ck;simp
  have lx:([eF]++rows.map aX).length=1+rows.length:=by simp only[Qe,Qa,Q8]
  rw[e,Zb (by rw[lx];exact Qf _),lx,Nat.sub_self];rfl
theorem WM(hl:(fB (ck rows p W bs)).length<=900)(e1:gE [bI rows]=(b9 true))(ek:iQ [bI rows,dM p W bs]=(b9 true)):mO [.str (fB (ck rows p W bs))]=some (.tup [bI rows,dM p W bs],9):=by
 have ok:=(zq h).2;have rd:=WK h hr hb;have ec:jv p (W.map cJ) bs=dM p W bs:=by unfold jv dM;rw[QG];rfl
 rcases IJ ok hl with⟨_,no⟩|⟨mY,p',iL,yh,pa,ba,WO,_,_,_,_,_,fr⟩
 .exact absurd rd (no _ _ _ _)
 .obtain⟨rfl,rfl,rfl,rfl⟩:=rd.uniq WO;have c1:=wL (ui (bY (F:=gE) (n:=1) (g:=ae (aa 4) af) (ρ:=R9 (fB (ck rows p W bs)) pa ba rows p (W.map cJ) bs) (ds:=[bI rows]) rfl rfl e1));have c2:=wL (ui (bY (F:=iQ) (n:=2) (g:=ae (aa 4) (ae (aa 7) af)) (ρ:=R9 (fB (ck rows p W bs)) pa ba rows p (W.map cJ) bs) (ds:=[bI rows,jv p (W.map cJ) bs]) rfl rfl (by rw[ec];exact ek)));have dn:=CL ok ok;rw[Qt rfl]at dn;have c3:=kn (dR (bY (F:=jL) (n:=2) (g:=ae (aa 4) (ae (aa 7) af)) (ρ:=R9 (fB (ck rows p W bs)) pa ba rows p (W.map cJ) bs) (ds:=[bI rows,jv p (W.map cJ) bs]) rfl rfl (by rw[ec];exact C3 h)) (fb:=aa 0) (q':=9) rfl dn);refine fr _ _ (IP (t:=fB (ck rows p W bs)) ((qB c1).trans ((qB c2).trans c3)) ?_);rw[<- ec];rfl
end
def SE (f:aA)(ρ:aV)(m:Nat):Prop:=∃ x,f ρ=some (.str x,9,ρ)/\cw x/\x.length<=m
theorem WQ(h:cw x)(lo hi:Option Int):cw (Txt.slice x lo hi):=by
 unfold Txt.slice;split
 .exact h
 .intro c hc;have kB:c∈(Builtin.Str.strSliceIndices lo hi 1 x.length).filterMap (x.cps[·]?):=by simpa using hc
  obtain⟨i,_,e⟩:=Jh.mp kB;refine h c ?_;have:c∈x.cps:=Array.mem_of_getElem? e;simpa using this
theorem SE.sl{f:aA}(h:SE f ρ m)(hm:m<=100000)(h1:fl ρ=some (lo,ρ))(h2:fh ρ=some (hi,ρ)):SE (gS f fl fh) ρ m:=by obtain⟨x,e,o,l⟩:=h;refine⟨Txt.slice x lo hi,?_,WQ o lo hi,Qq (Txt.slice_le x lo hi) l⟩;unfold gS;rw[e];simp only[h1,h2];rw[Qk (ur (by omega))]
theorem SE.add{f g:aA}{k:Nat}(h:SE f ρ m)(h':SE g ρ k)(hm:m+k<=100000):SE (e2 hJ f g) ρ (m+k):=by obtain⟨x,e,o,l⟩:=h;obtain⟨y,e',o',l'⟩:=h';refine⟨x++y,dR e e' ?_,HV o o',by rw[uk];omega⟩;show(if hG (x.length+y.length)=true then _ else _)=_;rw[Qk (ur (by omega))]
theorem SE.ret{f:aA}(h:SE f ρ m)(hm:m<=900):∃ t,aS f ρ=some (.rt (.str t) 9)/\cw t/\t.length<=900:=by obtain⟨x,e,o,l⟩:=h;exact⟨x,fR e,o,by omega⟩
theorem WR(h:g ρ=some (ds,ac))(hl:ds.length<=1000):cF g ρ=some (.lst ds,1,ac):=by unfold cF;rw[h];exact Qk hl
theorem WS{a:aA}{q:Nat}(h:a ρ=some (.lst ds,q,ac))(hb:b ac=some (.int k,q',ad))(ha:L2.dC ds k=some d)(hd:d.cI=false):cf a b ρ=some (d,9,ad):=by unfold cf;rw[h];simp only[hb];show(match L2.dC ds k with|some d=>some (d,bq d,ad)|none=>none)=_;rw[ha];simp[hd]
abbrev sg:Str:=" 0123456789\nplacesbeginladder"
theorem WT:sg.length=29/\(∀ i,i<29->∃ c,(cl sg)[i]? = some c/\c<128):=by
 have h:sg.length=29/\cw sg:=by unfold cw;decide +kernel
 refine⟨h.1,λi hi=>?_⟩;have fG:i<(cl sg).length:=by rw[<- mW,h.1];exact hi
 exact⟨(cl sg)[i],Qz fG,h.2 _ (Ze fG)⟩
abbrev G7 (T:Str)(k:Nat)(a b c d:OD):aV:=[some (.str T,9),i9 k,some (.str sg,9),a,b,c,d]
theorem xg{b:Nat}(h:0<b):g9 (iD a) (iD b)=some (iD (a % b)):=by
 have h1:(0:Int)<Int.ofNat b:=by show(0:Int)<(b:Int);omega
 unfold g9 gI;show(if _ then some (D.int (Int.ofNat a % Int.ofNat b))else none)=_;rw[Qk h1];rfl
theorem Dd{b:Nat}(h:0<b)(h':b<1000000):j4 (iD a) (iD b)=some (iD (a / b)):=by
 have h1:(0:Int)<Int.ofNat b:=by show(0:Int)<(b:Int);omega
 have h3:Int.ofNat b<1073741824:=by show(b:Int)<1073741824;omega
 unfold j4 gI;show(if _ then some (D.int (Int.ofNat a / Int.ofNat b))else none)=_;rw[Qk ⟨h1,h3⟩];rfl
theorem IV(h:ρ[i]? = some (some (.str x,9)))(hl:x.length<=100000):eB oZ (ae (aa i) af) ρ=some ((iD x.length),9,ρ):=qs (cB (CA h rfl)) (by show(if hG x.length=true then _ else _)=_;rw[Qk (ur hl)];rfl)
theorem WU{T:Str}(ok:cw T)(hl:T.length<=400)(k:Nat):∃ t,wG [.str T,iD k,.str sg]=some (.str t,9)/\cw t/\t.length<=900:=by
 obtain⟨WV,WW⟩:=WT
 suffices hs:∃ t,Cw (G7 T k none none none none)=some (.rt (.str t) 9)/\cw t/\t.length<=900 by obtain⟨t,e,o⟩:=hs;exact⟨t,dJ e,o⟩
 unfold Cw;obtain⟨a,ha⟩:∃ a,a=k % (T.length+1):=⟨_,rfl⟩;have s3:aY 3 (e2 g9 (aa 1) (e2 bG (eB oZ (ae (aa 0) af)) (eC (.int 1)))) (G7 T k none none none none)=some (.nx (G7 T k (iN a) none none none)):=by rw[ha];exact fI (dR (fa:=aa 1) (q:=9) rfl (dR (IV (i:=0) rfl (by omega)) (fb:=eC (.int 1)) (q':=9) rfl (rfl:bG (iD T.length) (.int 1)=some (iD (T.length+1)))) (xg (Nat.succ_pos _))) rfl
 rw[aZ s3];obtain⟨c,hc,WX⟩:=WW (k / 1000 % 29) (Nat.mod_lt _ (by decide));have s4:aY 4 (vU 2 (e2 g9 (e2 j4 (aa 1) (eC (.int 1000))) (eB oZ (ae (aa 2) af)))) (G7 T k (iN a) none none none)=some (.nx (G7 T k (iN a) (some (.str ⟨#[c]⟩,9)) none none)):=by
  have hb:e2 g9 (e2 j4 (aa 1) (eC (.int 1000))) (eB oZ (ae (aa 2) af)) (G7 T k (iN a) none none none)=some ((iD (k / 1000 % 29)),9,G7 T k (iN a) none none none):=by have l2:=IV (i:=2) (x:=sg) (ρ:=G7 T k (iN a) none none none) rfl (by omega);rw[WV]at l2;exact dR (dR (fa:=aa 1) (fb:=eC (.int 1000)) (q:=9) (q':=9) rfl rfl (Dd (a:=k) (b:=1000) (by decide) (by decide))) l2 (xg (by decide))
  have tT:L2.dC (cl sg) (Int.ofNat (k / 1000 % 29))=some c:=DW hc;refine fI (d:=.str ⟨#[c]⟩) (q:=9) (ac:=G7 T k (iN a) none none none) ?_ rfl;unfold vU;show(match e2 g9 (e2 j4 (aa 1) (eC (.int 1000))) (eB oZ (ae (aa 2) af)) (G7 T k (iN a) none none none)with|some (.int i,_,ad)=>_|_=>none)=_;rw[hb];show(if sg.length<=1000 then(match L2.dC (cl sg) (Int.ofNat (k / 1000 % 29))with|some c=>some (D.str ⟨#[c]⟩,9,G7 T k (iN a) none none none)|none=>none)else none)=_;rw[Qk (by omega),tT]
 rw[aZ s4];have o1:cw ⟨#[c]⟩:=λx hx=>by
  have:x=c:=by simpa using hx
  rw[this];exact WX
 have o2:(⟨#[c]⟩:Str).length<=1:=Qf 1;generalize (⟨#[c]⟩:Str)=si at o1 o2 ⊢;obtain⟨o,ho⟩:∃ o,o=a+1+k / 7 % 9:=⟨_,rfl⟩;have s5:aY 5 (e2 bG (e2 bG (aa 3) (eC (.int 1))) (e2 g9 (e2 j4 (aa 1) (eC (.int 7))) (eC (.int 9)))) (G7 T k (iN a) (some (.str si,9)) none none)=some (.nx (G7 T k (iN a) (some (.str si,9)) (iN o) none)):=by rw[ho];exact fI (dR (dR (fa:=aa 3) (fb:=eC (.int 1)) (q:=9) (q':=9) rfl rfl (rfl:bG (iD a) (.int 1)=some (iD (a+1)))) (dR (dR (fa:=aa 1) (fb:=eC (.int 7)) (q:=9) (q':=9) rfl rfl (Dd (a:=k) (b:=7) (by decide) (by decide))) (fb:=eC (.int 9)) (q':=9) rfl (xg (a:=k / 7) (b:=9) (by decide))) (rfl:bG (iD (a+1)) (iD (k / 7 % 9))=some (iD (a+1+k / 7 % 9)))) rfl
 rw[aZ s5];obtain⟨w,hw⟩:∃ w,w=k / 100000 % 8:=⟨_,rfl⟩;have s6:aY 6 (e2 g9 (e2 j4 (aa 1) (eC (.int 100000))) (eC (.int 8))) (G7 T k (iN a) (some (.str si,9)) (iN o) none)=some (.nx (G7 T k (iN a) (some (.str si,9)) (iN o) (iN w))):=by rw[hw];exact fI (dR (dR (fa:=aa 1) (fb:=eC (.int 100000)) (q:=9) (q':=9) rfl rfl (Dd (a:=k) (b:=100000) (by decide) (by decide))) (fb:=eC (.int 8)) (q':=9) rfl (xg (a:=k / 100000) (b:=8) (by decide))) rfl
 rw[aZ s6];have vT:SE (aa 0) (G7 T k (iN a) (some (.str si,9)) (iN o) (iN w)) 400:=⟨T,rfl,ok,hl⟩;have vs:SE (aa 4) (G7 T k (iN a) (some (.str si,9)) (iN o) (iN w)) 1:=⟨si,rfl,o1,o2⟩;have vb:SE (eC (.str " ")) (G7 T k (iN a) (some (.str si,9)) (iN o) (iN w)) 1:=⟨" ",rfl,by unfold cw;decide +kernel,by decide +kernel⟩;have ve:SE (eC (.str "")) (G7 T k (iN a) (some (.str si,9)) (iN o) (iN w)) 0:=⟨"",rfl,by unfold cw;decide +kernel,by decide +kernel⟩;have hA:SE (gS (aa 0) gA (cu (aa 3))) (G7 T k (iN a) (some (.str si,9)) (iN o) (iN w)) 400:=vT.sl (by decide) rfl rfl;have tA:SE (gS (aa 0) (cu (aa 3)) gA) (G7 T k (iN a) (some (.str si,9)) (iN o) (iN w)) 400:=vT.sl (by decide) rfl rfl;have tB:SE (gS (aa 0) (cu (e2 bG (aa 3) (eC (.int 1)))) gA) (G7 T k (iN a) (some (.str si,9)) (iN o) (iN w)) 400:=vT.sl (by decide) rfl rfl;have tO:SE (gS (aa 0) (cu (aa 5)) gA) (G7 T k (iN a) (some (.str si,9)) (iN o) (iN w)) 400:=vT.sl (by decide) rfl rfl;have hO:SE (gS (aa 0) gA (cu (aa 5))) (G7 T k (iN a) (some (.str si,9)) (iN o) (iN w)) 400:=vT.sl (by decide) rfl rfl;have br:∀ {g:cy} {b:Bool} {f:aA} {cb:aH} {m:Nat},g (G7 T k (iN a) (some (.str si,9)) (iN o) (iN w))=some (b,G7 T k (iN a) (some (.str si,9)) (iN o) (iN w))->SE f (G7 T k (iN a) (some (.str si,9)) (iN o) (iN w)) m->m<=900->(∃ t,cb (G7 T k (iN a) (some (.str si,9)) (iN o) (iN w))=some (.rt (.str t) 9)/\cw t/\t.length<=900)->
   ∃ t,aE (cj g (aS f) cz) cb (G7 T k (iN a) (some (.str si,9)) (iN o) (iN w))=some (.rt (.str t) 9)/\cw t/\t.length<=900:=λ{g b f cb m} hg hf hm hr=>by
  cases b with
  | true=>
   obtain⟨t,e,q⟩:=hf.ret hm;exact⟨t,kh ((qp hg).trans e),q⟩
  | false=>
   obtain⟨t,e,q⟩:=hr;exact⟨t,(aZ ((o9 hg).trans rfl)).trans e,q⟩
 refine br (kn (dR (fa:=aa 6) (fb:=eC (.int 2)) (q:=9) (q':=9) rfl rfl (rfl:jB (iD w) (.int 2)=some (.bl (decide (Int.ofNat w<2)))))) ((hA.add vs (by decide)).add tA (by decide)) (by decide) ?_;refine br (kn (dR (fa:=aa 6) (fb:=eC (.int 2)) (q:=9) (q':=9) rfl rfl (vX (Int.ofNat w) 2))) (hA.add tB (by decide)) (by decide) ?_;refine br (kn (dR (fa:=aa 6) (fb:=eC (.int 5)) (q:=9) (q':=9) rfl rfl (rfl:jB (iD w) (.int 5)=some (.bl (decide (Int.ofNat w<5)))))) ((hA.add vs (by decide)).add tB (by decide)) (by decide) ?_;refine br (kn (dR (fa:=aa 6) (fb:=eC (.int 5)) (q:=9) (q':=9) rfl rfl (vX (Int.ofNat w) 5))) (hA.add tO (by decide)) (by decide) ?_;refine br (kn (dR (fa:=aa 6) (fb:=eC (.int 6)) (q:=9) (q':=9) rfl rfl (vX (Int.ofNat w) 6))) (hO.add tA (by decide)) (by decide) ?_;obtain⟨x0,q0,r0,l0⟩:=vT.add vb (by decide);obtain⟨x1,q1,r1,l1⟩:=vb.add vT (by decide);obtain⟨x2,q2,r2,l2⟩:=tA.add hA (by decide);obtain⟨x3,q3,r3,l3⟩:=ve;obtain⟨x4,q4,r4,l4⟩:=vT.add vT (by decide);have el:=eE q0 (eE q1 (eE q2 (eE q3 (cB q4))));obtain⟨x,hx,ox,lx⟩:∃ x,L2.dC [D.str x0,.str x1,.str x2,.str x3,.str x4] (Int.ofNat (k % 5))=some (.str x)/\cw x/\x.length<=900:=by
  have h5:k % 5<5:=Nat.mod_lt _ (by decide);generalize k % 5=j at h5
  match j,h5 with
  | 0,_=>exact⟨x0,rfl,r0,by omega⟩
  | 1,_=>exact⟨x1,rfl,r1,by omega⟩
  | 2,_=>exact⟨x2,rfl,r2,by omega⟩
  | 3,_=>exact⟨x3,rfl,r3,by omega⟩
  | 4,_=>exact⟨x4,rfl,r4,by omega⟩
 refine⟨x,fR (ac:=G7 T k (iN a) (some (.str si,9)) (iN o) (iN w)) ?_,ox,lx⟩;have e5:=dR (fa:=aa 1) (fb:=eC (.int 5)) (q:=9) (q':=9) (ρ:=G7 T k (iN a) (some (.str si,9)) (iN o) (iN w)) rfl rfl (xg (a:=k) (b:=5) (by decide));exact WS (WR el (show 5<=1000 by decide)) e5 hx rfl
theorem WY:∀ n,n<10->(b_ n).length=1:=by decide +kernel
theorem De{ns:List Nat}(h:∀ n∈ns,n<10):(aX ns).length<=2*ns.length:=by
 have h1:((ns.map b_).map (·.length)).sum<=1*(ns.map b_).length:=w9 λl hl=>by obtain⟨n,hn,rfl⟩:=Qm.mp hl;exact YM (WY n (h n hn))
 rw[Qa]at h1;unfold aX;cases ns with
 | nil=>exact Qf _
 | cons n ns=>
  rw[Qr,Qr,ZJ]at h1;rw[Qr];unfold spS;rw[mW,mX,Qe,za,<- mW,Qa,QK];rw[QK]at h1;omega
theorem WZ:∀ ls:List Str,(fB ls).length=(ls.map (·.length)).sum+ls.length:=λls=>by
 rw[mW,zj];induction ls with
 | nil=>rfl
 | cons x ls ih=>
  rw[Qr,QR,Qe,ih,Qr,ZJ,QK,Qe,mW];show _+1+_=_;omega
theorem W0(n:Nat)(f:Nat->Nat->Nat):PyData.eqv (cn (bN n f)) (cn (bN n f))=true:=qF λd hd=>by obtain⟨i,_,rfl⟩:=Qm.mp hd;exact H0 n (λj=>f i j)
theorem W1(n:Nat)(f:Nat->Nat->Nat)(C:mV):dE (.tup [bN n f,gG n C]) (.tup [bN n f,gG n C])=some (.bl false):=by have sh:Sh 5 (.tup [bN n f,gG n C]):=.tup (zg ⟨(BV n f).1,Qq (BV n f).2 (by decide)⟩ (We n C));unfold dE;rw[Qk ⟨sh.ok,sh.ok⟩];show some (D.bl (!PyData.eqv (cn (.tup [bN n f,gG n C])) (cn (.tup [bN n f,gG n C]))))=_;rw[qF (zg (W0 n f) (Wd n C))];rfl
abbrev O5 (ns:List Int)(n:Nat)(f:Nat->Nat->Nat)(C:mV)(T:Str)(a:OD):aV:=[n0 ns,t9 n f,c9 n C,some (.str T,9),a]
theorem W3(ns:List Int):sG [fT ns]=(b9 true):=by
 obtain⟨n,f,L,XN,hL⟩:=Va ns 0 (Int.le_refl 0);obtain⟨z,hz,bz⟩:=L.bot;obtain⟨C,hC,XQ,W5,W6,W7⟩:=VW L hz bz ns 20 (by decide);have D4:=L.lo;obtain⟨rows,m8⟩:∃ rows:List (List Nat),rows=(range n).map λi=>(range n).map λj=>f i j:=⟨_,rfl⟩;obtain⟨W,hW⟩:∃ W:List WN,W=C.W.map λw=>(w.1,w.2.1,(range n).map w.2.2):=⟨_,rfl⟩;obtain⟨bs,Df⟩:∃ bs:List (List Nat),bs=C.B.map λb=>[b.1,b.2]:=⟨_,rfl⟩;have eT:bN n f=bI rows:=by rw[m8];unfold bN bI;rw[QG];rfl
 have zu:gG n C=dM C.p W bs:=by rw[hW,Df];unfold gG dM;rw[QG,QG];rfl
 have rK:∀ r∈rows,r.length=n/\∀ x∈r,x<8:=λr hr=>by rw[m8]at hr;obtain⟨i,hi,rfl⟩:=Qm.mp hr;refine⟨by rw[Qa,Q1],λx hx=>?_⟩;obtain⟨j,hj,rfl⟩:=Qm.mp hx;have:=L.cl i j (QN.mp hi) (QN.mp hj);show f i j<8;omega
 have wK:∀ w∈W,(cJ w).length=n+2/\∀ x∈cJ w,x<8:=λw hw=>by
  rw[hW]at hw;obtain⟨v,hv,rfl⟩:=Qm.mp hw;have k:=hC.ws v hv;refine⟨by show((range n).map v.2.2).length+1+1=_;rw[Qa,Q1],λx hx=>?_⟩;rcases Qp.mp hx with q|q
  .rw[q];have:=k.1;show v.1<8;omega
  .rcases Qp.mp q with q|q
   .rw[q];have:=k.2.1;show v.2.1<8;omega
   .obtain⟨i,hi,rfl⟩:=Qm.mp q;have:=k.2.2.1 i (QN.mp hi);omega
 have bK:∀ b∈bs,b.length=2/\∀ x∈b,x<8:=λb hb=>by
  rw[Df]at hb;obtain⟨v,hv,rfl⟩:=Qm.mp hb;have k:=hC.bs v hv;refine⟨rfl,λx hx=>?_⟩;rcases Qp.mp hx with q|q
  .rw[q];have:=k.1;omega
  .rw[Qu.mp q];have:=k.2;omega
 have lr:rows.length=n:=by rw[m8,Qa,Q1]
 have lw:W.length<=7:=by rw[hW,Qa];exact W5
 have lb:bs.length<=3:=by rw[Df,Qa];exact W6
 have tx:ja rows C.p W bs:=⟨λr hr=>⟨λx hx=>Zj ((rK r hr).2 x hx) (by decide),by rw[(rK r hr).1];omega⟩,by omega,λw hw=>⟨λx hx=>Zj ((wK w hw).2 x hx) (by decide),by rw[(wK w hw).1];omega⟩,λb hb=>⟨λx hx=>Zj ((bK b hb).2 x hx) (by decide),by rw[(bK b hb).1];omega⟩,by omega,by omega,by omega⟩;have tl:(fB (ck rows C.p W bs)).length<=400:=by
  have six:eF.length=6/\cW.length=6:=by decide +kernel
  have pl:(fg++b_ C.p).length<=9:=C1 tx;have s1:((rows.map aX).map (·.length)).sum<=16*(rows.map aX).length:=w9 λl hl=>by obtain⟨r,hr,rfl⟩:=Qm.mp hl;have:=De (ns:=r) λx hx=>Zj ((rK r hr).2 x hx) (by decide);rw[(rK r hr).1]at this;omega
  have s2:((W.map λw=>aX (cJ w)).map (·.length)).sum<=20*(W.map λw=>aX (cJ w)).length:=w9 λl hl=>by obtain⟨w,hw,rfl⟩:=Qm.mp hl;have:=De (ns:=cJ w) λx hx=>Zj ((wK w hw).2 x hx) (by decide);rw[(wK w hw).1]at this;omega
  have s3:((bs.map aX).map (·.length)).sum<=4*(bs.map aX).length:=w9 λl hl=>by obtain⟨b,hb,rfl⟩:=Qm.mp hl;have:=De (ns:=b) λx hx=>Zj ((bK b hb).2 x hx) (by decide);rw[(bK b hb).1]at this;omega
  rw[Qa]at s1 s2 s3;rw[WZ];unfold ck;simp only[Q6,List.sum_append,Qe,Qa,Qr,Z7,ZJ,List.sum_nil,QK,List.length_nil];simp only[QG]at s1 s2 s3 ⊢;omega
 have ok:=(zq tx).2;have W8:gE [bI rows]=(b9 true):=by rw[<- eT];have:=HI (n:=n) (f:=f) D4 L.hi L.cl;rw[Ww L]at this;exact this
 have W9:iQ [bI rows,dM C.p W bs]=(b9 true):=by rw[<- eT,<- zu];have:=HM (n:=n) (f:=f) (by omega) (gG n C);rw[V3 hC]at this;exact this
 have wr:jL [bN n f,gG n C]=some (.str (fB (ck rows C.p W bs)),9):=by rw[eT,zu];exact C3 tx
 have lt:qw [bN n f,gG n C]=some (.str (fB (ck rows C.p W bs)),9):=by rw[eT,zu];exact IH tx
 have rb:mO [.str (fB (ck rows C.p W bs))]=some (.tup [bN n f,gG n C],9):=by rw[eT,zu];exact WM tx (λr hr z=>by have:=(rK r hr).1;rw[z]at this;have:0=n:=this;omega) (λb hb z=>by have:=(bK b hb).1;rw[z]at this;cases this) (by omega) W8 W9
 generalize fB (ck rows C.p W bs)=T at tl ok wr lt rb;unfold sG Hm;refine dJ ?_;show aE _ _ [n0 ns,none,none,none,none]=_;refine(aZ (ac:=[n0 ns,t9 n f,none,none,none]) (fI (bY (ds:=[fT ns,.int 0]) rfl rfl hL) rfl)).trans ?_;refine(aZ (ac:=[n0 ns,t9 n f,c9 n C,none,none]) (fI (bY (ds:=[fT ns,.int 20,bN n f,.bl false]) rfl rfl W7) rfl)).trans ?_;refine(aZ (ac:=O5 ns n f C T none) (fI (bY (ds:=[bN n f,gG n C]) rfl rfl lt) rfl)).trans ?_;have dn:=CL ok ok;rw[Qt rfl]at dn;have c1:bM (e2 dE (ay jL 2 (ae (aa 1) (ae (aa 2) af))) (aa 3)) (O5 ns n f C T none)=some (false,O5 ns n f C T none):=kn (dR (bY (ds:=[bN n f,gG n C]) rfl rfl wr) (fb:=aa 3) (q':=9) rfl dn);have c2:bM (e2 dE (ay mO 1 (ae (aa 3) af)) (fZ (ae (aa 1) (ae (aa 2) af)))) (O5 ns n f C T none)=some (false,O5 ns n f C T none):=kn (dR (bY (ds:=[.str T]) rfl rfl rb) (fb:=fZ (ae (aa 1) (ae (aa 2) af))) (y:=.tup [bN n f,gG n C]) (q':=9) rfl (W1 n f C));refine(aZ ((o9 ((qB c1).trans c2)).trans rfl)).trans ?_;have hr:bW (ae (eC (.int 3)) af) (O5 ns n f C T none)=some (cq 3,O5 ns n f C T none):=yZ (m:=3) (by decide) (q:=9) rfl;obtain⟨aB,e,a,rfl⟩:=nJ (pt:=ax 4) (body:=Hl) (cq 3) (λi ρ=>∃ a,ρ=O5 ns n f C T a) (O5 ns n f C T none) (λi hi ρ ak=>by
  obtain⟨a,rfl⟩:=ak;rw[dX]at hi;have W_:(0:Int)<=200+Int.ofNat i:=by show(0:Int)<=200+(i:Int);omega
  obtain⟨v,_,ev⟩:=qE ns W_ (m:=1000000000) (by decide);obtain⟨t,et,ot,lt'⟩:=WU ok tl v;have pw:e2 Bh (eC (.int 10)) (eC (.int 9)) (O5 ns n f C T (iN i))=some (.int 1000000000,9,O5 ns n f C T (iN i)):=dR (fa:=eC (.int 10)) (fb:=eC (.int 9)) (q:=9) (q':=9) rfl rfl (by kernel_rfl);have ea:e2 bG (eC (.int 200)) (aa 4) (O5 ns n f C T (iN i))=some (.int (200+Int.ofNat i),9,O5 ns n f C T (iN i)):=dR (fa:=eC (.int 200)) (fb:=aa 4) (q:=9) (q':=9) rfl rfl rfl;have t1:=wL (ui (bY (F:=ud) (n:=1) (cB (bY (F:=wG) (n:=3) (eE (f:=aa 3) (q:=9) (ρ:=O5 ns n f C T (iN i)) rfl (eE (bY (F:=dS) (n:=3) (eE (f:=aa 0) (q:=0) rfl (eE ea (cB pw))) rfl ev) (cB (f:=eC (.str sg)) (q:=9) rfl))) rfl et)) rfl (WC ot lt')));exact⟨O5 ns n f C T (iN i),_,by rw[qA];rfl,.inl ((o9 t1).trans rfl),iN i,rfl⟩) ⟨none,rfl⟩
 exact(aZ ((fS hr).trans e)).trans rfl
theorem m9(ns:List Int)(HP:ns.length<=63):∃ q,ue [.lst (ns.map D.int)]=some (.bl true,q):=by obtain⟨x,e⟩:=V5 HP (m:=3) (by decide) W3;refine⟨9,?_⟩;unfold ue Hn;refine dJ ?_;exact(aZ e).trans rfl
def A0 (K:PySem.W.Frag)(mg:Str->Option Value)(x:Str)(st:Stmt):Prop:=∃ f fd,lT K x x st f fd/\mg x=some (.ref f)
theorem A0.mk{K:PySem.W.Frag}{h:Heap}{mg:Str->Option Value}{f:Addr}{od an:Option Addr}{sl:Array (Option Value)}{oc kV dc pm cd ct:Value}(X:K.In h)(G:h.Ns mainGlobals mg)(a:W.nsIn K mainGlobals x=some (some (.ref f)))(l:K.lookup f=some ⟨oc,od,.func (W.fnOf x x (pJ st) (jk st) (bh st) .none kV dc pm an cd ct),sl⟩)(c:W.codeIn K cd x=true)(k:W.keepIn K (.ref f)=true):A0 K mg x st:=⟨_,_,D7 l c k,QI X G a⟩
theorem A0.at{K:PySem.W.Frag}{mg:Str->Option Value}{ps:List Str}(a:A0 K mg x st)(h:∀ (kV doc pm:Value) (an:Option Addr) (b6 ct:Value) (us:List Value),us.length=ps.length->bindArgs (W.fnOf x x (pJ st) (jk st) (bh st) .none kV doc pm an b6 ct) ⟨us,[]⟩=pure (ps.zip us):=by intro _ _ _ _ _ _ us h;first|(obtain⟨_,rfl⟩:=L3.gB h;rfl)|(obtain⟨_,_,rfl⟩:=L3.iz h;rfl)|(obtain⟨_,_,_,rfl⟩:=L3.mH h;rfl)|(obtain⟨_,_,_,_,rfl⟩:=L3.RN h;rfl)):At K mg x st ps:=by obtain⟨f,fd,F,m⟩:=a;exact⟨f,fd,F,m,F.binds h⟩
theorem all_mk{l:PySem.W.OpenLaw}{w:World}{K:PySem.W.Frag}{h:Heap}{mg:Str->Option Value}{fa:Addr}{Dg:Addr}{Dh xh:Option Addr}{Di:Array (Option Value)}{Dj xi xj xk sS xl:Value}{xr ft y0 y1 y2 y3 y4 y5:Addr}(X:K.In h)(G:h.Ns mainGlobals mg)(Xa:mg "law" = some (.ref fa))
  (A1:A0 K mg "_law_cell" (top 47))
  (A2:A0 K mg "_law_pick" (top 48))
  (A3:A0 K mg "_law_chain" (top 49))
  (A4:A0 K mg "_law_couples" (top 50))
  (A5:A0 K mg "_law_side_by_side" (top 51))
  (A6:A0 K mg "_law_base" (top 52))
  (A7:A0 K mg "_law_ladder" (top 53))
  (A8:A0 K mg "_law_low" (top 54))
  (A9:A0 K mg "_law_join" (top 55))
  (A10:A0 K mg "_law_under" (top 56))
  (A11:A0 K mg "_law_rule" (top 57))
  (A12:A0 K mg "_law_spreads" (top 58))
  (A13:A0 K mg "_law_spread_rule" (top 59))
  (A14:A0 K mg "_law_chart" (top 60))
  (A15:A0 K mg "_law_text" (top 62))
  (A16:A0 K mg "line_of" (top 40))
  (A17:A0 K mg "written" (top 39))
  (A18:A0 K mg "line_beginning" (top 42))
  (A19:A0 K mg "number_of" (top 44))
  (A20:A0 K mg "numbers_of" (top 43))
  (A21:A0 K mg "way_of" (top 45))
  (A22:A0 K mg "joins_are_from_either_end" (top 18))
  (A23:A0 K mg "row_of_least" (top 19))
  (A24:A0 K mg "has_least" (top 20))
  (A25:A0 K mg "joins_with_itself_stay" (top 16))
  (A26:A0 K mg "joins_are_either_way" (top 17))
  (A27:A0 K mg "is_whole" (top 10))
  (A28:A0 K mg "is_number_of" (top 11))
  (A29:A0 K mg "is_row_of" (top 12))
  (A30:A0 K mg "is_ladder" (top 15))
  (A31:A0 K mg "is_many_places" (top 32))
  (A32:A0 K mg "goes_between" (top 35))
  (A33:A0 K mg "is_rule" (top 24))
  (A34:A0 K mg "is_below" (top 21))
  (A35:A0 K mg "below" (top 22))
  (A36:A0 K mg "rises" (top 25))
  (A37:A0 K mg "is_rising_rule" (top 26))
  (A38:A0 K mg "is_way" (top 34))
  (A39:A0 K mg "are_ways" (top 33))
  (A40:A0 K mg "is_begin" (top 37))
  (A41:A0 K mg "are_begins" (top 36))
  (A42:A0 K mg "is_chart" (top 31))
  (A43:A0 K mg "read" (top 41))
  (A44:A0 K mg "_law_holds" (top 63))
  (A45:A0 K mg "_law_spoilt" (top 61))
  (A46:A0 K mg "_law_once" (top 64))
  (a47:W.nsIn K mainGlobals "law" = some (some (.ref Dg))) (l47:K.lookup Dg=some ⟨Dj,Dh,.func (W.fnOf "law" "law" (pJ (top 65)) (jk (top 65)) (bh (top 65)) .none xi xj xk xh sS xl),Di⟩) (c47:W.codeIn K sS "law" = true) (k47:W.keepIn K (.ref Dg)=true)
  (z1:W.nsIn K mainGlobals "ValueError" = some none) (z2:W.nsIn K mainGlobals "all" = some none) (z3:W.nsIn K mainGlobals "bool" = some none) (z4:W.nsIn K mainGlobals "enumerate" = some none) (z5:W.nsIn K mainGlobals "int" = some none) (z6:W.nsIn K mainGlobals "isinstance" = some none) (z7:W.nsIn K mainGlobals "len" = some none) (z8:W.nsIn K mainGlobals "list" = some none) (z9:W.nsIn K mainGlobals "max" = some none) (z10:W.nsIn K mainGlobals "range" = some none) (z11:W.nsIn K mainGlobals "str" = some none) (z12:W.nsIn K mainGlobals "tuple" = some none) {Xb:Tok} (v1:W.nsIn K mainGlobals "MOST_BEGINS" = some (some (.int 60 Xb))) {Xc:Tok} (v2:W.nsIn K mainGlobals "MOST_PLACES" = some (some (.int 8 Xc))) {Xd:Tok} (v3:W.nsIn K mainGlobals "MOST_WAYS" = some (some (.int 60 Xd))) {Xe:Tok} (v4:W.nsIn K mainGlobals "MOST_WORTHS" = some (some (.int 16 Xe))) (xrN:W.nsIn K mainGlobals "RiseError" = some (some (.ref xr))) (xcg:W.specialIn K (.builtin "object.__class__") "__get__" = some (some (.builtin "getset_descriptor.__get__"))) (xct:W.takesIn K (.builtin "object.__class__")=some true) (xrg:W.findIn K (.ref xr) "__getattribute__" = some (some (.builtin "BaseException.__getattribute__"))) (xrt:W.findIn K (.ref xr) "__getattr__" = some none) (xrc:W.findIn K (.ref xr) "__class__" = some (some (.builtin "object.__class__"))) (xro:W.mroIn K xr (.type "object")=some true) (xrb:W.mroIn K xr (.type "BaseException")=some true) (xrT:W.typeIn K (.ref xr)=some (.type "type")) (xe0N:W.nsIn K mainGlobals "NoText" = some (some (.ref ft))) (xe0g:W.findIn K (.ref ft) "__getattribute__" = some (some (.builtin "BaseException.__getattribute__"))) (xe0t:W.findIn K (.ref ft) "__getattr__" = some none) (xe0c:W.findIn K (.ref ft) "__class__" = some (some (.builtin "object.__class__"))) (xe0o:W.mroIn K ft (.type "object")=some true) (xe0b:W.mroIn K ft (.type "BaseException")=some true) (xe0V:W.mroIn K ft (.type "ValueError")=some true) (xe0n0:W.mroIn K ft (.type "int")=some false) (xe0n1:W.mroIn K ft (.type "bool")=some false) (xe0n2:W.mroIn K ft (.type "tuple")=some false) (xe0n3:W.mroIn K ft (.type "list")=some false) (xe0n4:W.mroIn K ft (.type "str")=some false) (xe0R:W.mroIn K ft (.ref xr)=some true) (xe0X:W.excIn K ft L3.Ay "ValueError.__new__" = true) (y0N:W.nsIn K mainGlobals "NoHouse" = some (some (.ref y0))) (y0O:W.mroIn K y0 (.type "object")=some true) (y0T:W.typeIn K (.ref y0)=some (.type "type")) (y0Sxe0:W.mroIn K ft (.ref y0)=some false) (y0Dxe0:ft≠y0) (y1N:W.nsIn K mainGlobals "NoMap" = some (some (.ref y1))) (y1O:W.mroIn K y1 (.type "object")=some true) (y1T:W.typeIn K (.ref y1)=some (.type "type")) (y1Sxe0:W.mroIn K ft (.ref y1)=some false) (y1Dxe0:ft≠y1) (y2N:W.nsIn K mainGlobals "NoPlace" = some (some (.ref y2))) (y2O:W.mroIn K y2 (.type "object")=some true) (y2T:W.typeIn K (.ref y2)=some (.type "type")) (y2Sxe0:W.mroIn K ft (.ref y2)=some false) (y2Dxe0:ft≠y2) (y3N:W.nsIn K mainGlobals "NoRule" = some (some (.ref y3))) (y3O:W.mroIn K y3 (.type "object")=some true) (y3T:W.typeIn K (.ref y3)=some (.type "type")) (y3Sxe0:W.mroIn K ft (.ref y3)=some false) (y3Dxe0:ft≠y3) (y4N:W.nsIn K mainGlobals "NoStep" = some (some (.ref y4))) (y4O:W.mroIn K y4 (.type "object")=some true) (y4T:W.typeIn K (.ref y4)=some (.type "type")) (y4Sxe0:W.mroIn K ft (.ref y4)=some false) (y4Dxe0:ft≠y4) (y5N:W.nsIn K mainGlobals "TooGreat" = some (some (.ref y5))) (y5O:W.mroIn K y5 (.type "object")=some true) (y5T:W.typeIn K (.ref y5)=some (.type "type")) (y5Sxe0:W.mroIn K ft (.ref y5)=some false) (y5Dxe0:ft≠y5) :
  ∃ fd:FuncData,(∀ (s:Shared) (v:Value),BindsTo s fd ⟨[v],[]⟩ [("_law_script",v)])/\∀ base:Heap,K.In base->base.Ns mainGlobals mg->eG l.prog w K mg base jl 12 fa fd [bd] (kH K 1 ue):=by have e:=Xa.symm.trans (QI X G a47);cases e;have B:Bt mg:=⟨QZ X G z1,QZ X G z2,QZ X G z3,QZ X G z4,QZ X G z5,QZ X G z6,QZ X G z7,QZ X G z8,QZ X G z9,QZ X G z10,QZ X G z11,QZ X G z12,⟨_,QI X G v1⟩,⟨_,QI X G v2⟩,⟨_,QI X G v3⟩,⟨_,QI X G v4⟩⟩;have m_:iX K "NoText" ft:=iX.of xe0N ⟨L3.BM xe0o,xe0g,xe0t,xe0c,xcg,xct,xe0o,xe0b⟩ xe0X xe0V xe0n0 xe0n1 xe0n2 xe0n3 xe0n4;have T:Xt K mg:=⟨oO.cons (oO.nil ⟨L3.BM xro,xrg,xrt,xrc,xcg,xct,xro,xrb⟩ xrT (QI X G xrN)) (QI X G xrN) m_ xe0R,⟨ft,⟨m_,QI X G xe0N⟩⟩,eR.other (eR.nil (QI X G y0N)) xe0N (QI X G y0N) (by decide) y0Dxe0 y0T y0O y0Sxe0,eR.other (eR.nil (QI X G y1N)) xe0N (QI X G y1N) (by decide) y1Dxe0 y1T y1O y1Sxe0,eR.other (eR.nil (QI X G y2N)) xe0N (QI X G y2N) (by decide) y2Dxe0 y2T y2O y2Sxe0,eR.other (eR.nil (QI X G y3N)) xe0N (QI X G y3N) (by decide) y3Dxe0 y3T y3O y3Sxe0,eR.other (eR.nil (QI X G y4N)) xe0N (QI X G y4N) (by decide) y4Dxe0 y4T y4O y4Sxe0,eR.self (eR.nil (QI X G xe0N)) xe0N (QI X G xe0N),eR.other (eR.nil (QI X G y5N)) xe0N (QI X G y5N) (by decide) y5Dxe0 y5T y5O y5Sxe0⟩;refine⟨W.fnOf "law" "law" (pJ (top 65)) (jk (top 65)) (bh (top 65)) .none xi xj xk xh sS xl,λs v=>.of_eq rfl,λbase KX NG=>?_⟩;have jc:=RU (P:=l.prog) (w:=w) (base:=base) B A1.at;have bO:=RV B jc A2.at;have iC:=R0 (P:=l.prog) (w:=w) (base:=base) B A3.at;have gk:=R5 (P:=l.prog) (w:=w) (base:=base) B A4.at;have d5:=Sb (P:=l.prog) (w:=w) (base:=base) B A5.at;have jd:=Sd B bO iC gk d5 A6.at;have gW:=Sj B jd bO A7.at;have gp:=Sn (P:=l.prog) (w:=w) (base:=base) B A8.at;have je:=Sr B gp A9.at;have iE:=Sv (P:=l.prog) (w:=w) (base:=base) B A10.at;have fK:=Sx B gp bO je iE A11.at;have gq:=SG (P:=l.prog) (w:=w) (base:=base) B A12.at;have eK:=SJ B fK gq bO A13.at;have iF:=SM B bO fK eK A14.at;have fL:=SS (P:=l.prog) (w:=w) (base:=base) B A15.at;have kW:=SW (P:=l.prog) (w:=w) (base:=base) B A16.at;have fC:=S1 B kW A17.at;have dg:=S2 (P:=l.prog) (w:=w) (base:=base) B A18.at;have fi:=S4 (P:=l.prog) (w:=w) (base:=base) B T A18.at;have cT:=S5 (P:=l.prog) (w:=w) (base:=base) B A19.at;have fj:=S6 (P:=l.prog) (w:=w) (base:=base) B T A19.at;have fk:=S7 B cT A20.at;have gX:=S9 B T cT fj A20.at;have jf:=Ta (P:=l.prog) (w:=w) (base:=base) B A21.at;have cD:=Te (P:=l.prog) (w:=w) (base:=base) B A22.at;have gr:=Tg (P:=l.prog) (w:=w) (base:=base) B A23.at;have jg:=Ti B gr A24.at;have cX:=Tp (P:=l.prog) (w:=w) (base:=base) B A25.at;have du:=Ts (P:=l.prog) (w:=w) (base:=base) B A26.at;have gu:=Tu (P:=l.prog) (w:=w) (base:=base) B A27.at;have cK:=Tw B gu A28.at;have fM:=TC B cK A29.at;have dU:=TH B fM cX du cD jg A30.at;have fD:=TQ B gu A31.at;have gw:=TU B cK A32.at;have kX:=TX B fM A33.at;have gy:=TZ (P:=l.prog) (w:=w) (base:=base) B A34.at;have pz:=T3 B gy A35.at;have pA:=T8 B pz gy A36.at;have fE:=Ua B kX pA A37.at;have nc:=Ue B gw fE A38.at;have jQ:=Uk B nc A39.at;have jR:=Uo B cK A40.at;have iG:=Ur B jR A41.at;have eM:=Uu B fD jQ iG A42.at;have ng:=Uy B dg fk jf cT dU eM fC A43.at;have pB:=Uz B T fk jf dU eM fC cT dg fi gX fj A43.at;have iH:=UA B T ng dU eM fL pB A44.at;have gY:=UC (P:=l.prog) (w:=w) (base:=base) B A45.at;have jh:=UD B gW iF fL fC ng iH gY bO A46.at;exact UK B jh (D7 (st:=top 65) l47 c47 k47)
theorem walk{l:PySem.W.OpenLaw}{q:Program}{loose:List Str}{XP:(Str->Option Value)->Heap->Prop}{YP:World->Heap->Prop}{d:DefRec}{K:Params->PySem.W.Frag}(hn:l.most=some 63)(uW:d.params.defaults=[])
  (hY:∀ (w:World) (h:Heap),YP w h->(K w.params).In h)
  (F:∀ (w:World) (mg:Str->Option Value) (fa:Addr) (h:Heap),(K w.params).In h->h.Ns mainGlobals mg->mg d.name=some (.ref fa)->(∀ x∈tz,W.tabIn (K w.params) x=none) /\
    ∃ fd:FuncData,(∀ (s:Shared) (u:Value),BindsTo s fd ⟨[u],[]⟩ [("_law_script",u)])/\∀ base:Heap,(K w.params).In base->base.Ns mainGlobals mg->eG l.prog w (K w.params) mg base jl 12 fa fd [bd] (kH (K w.params) 1 ue)) :
  PySem.W.WalkO q loose XP YP l.row.toRowW d [] (λf vs=>PySem.call f vs):=
 Rv (n:=63) (k:=12) (x:="_law_script") (F0:=ue) hn (by decide) uW ⟨rfl,by decide,by decide⟩ hY F λ_ _ a ns hl tb hS=>N9 m9 hl hS tb
end My
namespace PySem.W
structure Fast:Prop where(tw10015484658573965081 tw10041585578662192977 tw10041720633792221403 tw10093751342952486222 tw10113109154721675077 tw10132582971094233116 tw10214313496512926369 tw10216206033017305644 tw1023860296623852695 tw10273773157868992778 tw10275639498798965259 tw1029344891190565084 tw10312976708494832666 tw10327410256239076112 tw10344375819844296838 tw10391246112769180398 tw10403163208799029378 tw10570247609688714699 tw10578408198141664908 tw106237423182711020 tw10662484077548241275 tw10719724250377627474 tw10736290877525583172 tw10788954674659119556 tw10801858369980459354 tw10803761403189209757 tw10817092229448159534 tw10824260982408768515 tw10911371482610414695 tw10923437291590025922 tw10975619775168076860 tw10981479861538370058 tw11129043789509800726 tw11160512736887495487 tw11391281557834968463 tw11540621567419157219 tw11550460177767731579 tw11603509980428979075 tw11717206327290223009 tw11729008733184530312 tw11806007924239792747 tw11899898829119999723 tw11968594660281639398 tw11995643217413171770 tw12033905800052698083 tw12034641549716747789 tw1203571363648189743 tw12042783839255377683 tw12107270573569176789 tw12135756417088244116 tw1213836341211448621 tw12156517164503819908 tw1218323962183470907 tw12223660512136806294 tw12232876984868776665 tw12280251366026672751 tw12286255743707780280 tw12382347246708230845 tw12392811505027417138 tw12394562790217912096 tw12398337277395055341 tw12428879939240817597 tw12462909459063950186 tw12471042911288726383 tw12539426945986798364 tw12544551494997376518 tw12566506890079113305 tw12596206858585322577 tw12655673504584635598 tw12675177176793747754 tw12795239142563194386 tw128316112205579264 tw12869304602857549385 tw129278714513229133 tw12932849681051259466 tw12975499642617374498 tw12980309431063770726 tw12999224623367204838 tw1301706619198301307 tw13144586611982220728 tw13274235659768857943 tw13327039273281088766 tw13374517984156056736 tw13407326369685795887 tw13537901935273029194 tw13574507937876078882 tw13607499177976479730 tw13611392300537324314 tw13646378071582291544 tw1369491976586317384 tw13722775678689236437 tw13801861615850233832 tw13818955332749293003 tw13856502774183168559 tw13873415198797208237 tw13927151701415918035 tw13992087082385389318 tw1408438852587552294 tw14085942304700173735 tw14158396694370868815 tw14352375504547718436 tw14423634603931260493 tw14498798609783265596 tw14501190720432360913 tw14551322370674847098 tw14593007923462978028 tw14595745677197675285 tw14596987085998451408 tw14624376877794044474 tw1470963175276589363 tw14743303262978456179 tw14763010357904565511 tw14810898030888866308 tw14813506457559317434 tw14950367579292578603 tw15053030314140258496 tw15127353348734081305 tw15191012650022734307 tw151956795899891052 tw15238146906139592148 tw15274328102759914539 tw15276012516886411314 tw1531685324076288425 tw15326793714516383854 tw15497987508491364995 tw15562961494361120688 tw1557900433302089065 tw15580211572975356 tw15589888330345015857 tw1566035820926482395 tw15702361883243027159 tw15740172798273238163 tw15803038713547846436 tw1580837802424250325 tw15846137722384441735 tw15890574226751597352 tw15953821755266418806 tw15976620750632939940 tw16079917858631226922 tw16113464792935029526 tw16135455448100859768 tw16172136377732578384 tw16284792022512372126 tw1635408577936527829 tw16443433018344912873 tw16556555821285344518 tw16557687718080427824 tw16565059050392188758 tw16664703426397809627 tw16674645972627054183 tw16709483523678249537 tw16779642610898101037 tw16787969414005855556 tw16828181846986444622 tw16857848132673085446 tw16936865064615515878 tw16940674640339159220 tw16998355569125126505 tw170045950449636243 tw17158813519143241175 tw17177964916755553683 tw17202995334954611132 tw17299231293825506133 tw17309387158299453887 tw17351049178806394252 tw17438078166217629413 tw1748952443448432349 tw1751244643935338633 tw17540524732507690993 tw17569344297083268545 tw17606200454158670879 tw17640318791133753988 tw17825206745069118989 tw17835206955044099183 tw1784814975711739804 tw17850860181461178083 tw17915085346686225781 tw17989472898097222992 tw18014762964734806188 tw18039779316570185774 tw18039978622642858994 tw18101036096094652400 tw18176532928973315606 tw1821069997602761573 tw18379999287206243825 tw1860302059630378631 tw1895769133624685676 tw194436743090949973 tw1955770495268633630 tw1982560556544183313 tw1983418738502650540 tw2027628153695551155 tw204426818737009227 tw2056149604009334037 tw2126351277385031366 tw2128079086031416155 tw2131692822708534760 tw2191944089722225932 tw2231994728047049098 tw2240641005726826101 tw2295301859387230655 tw2325902040269980423 tw2414892019358561922 tw2461723245220527159 tw2462110372662388312 tw2494260672103314403 tw2501925983188195014 tw2520431073526331457 tw2640867243268054964 tw269814649116361795 tw2709368978134804336 tw2718245157818506276 tw272974368421054527 tw2771985043618889734 tw280674229704105969 tw2812774315114178615 tw2818875092701895643 tw2915437244517341484 tw2938769162495032794 tw2951214792143954578 tw2982681161525952763 tw298307318439423153 tw2983723391529060381 tw3032115039428362451 tw3075396321700517601 tw3184756292883882397 tw3232878128493013330 tw3247748040224047954 tw3248951904462103952 tw3273425909222157298 tw3413523656835865734 tw3429912462877293607 tw3456451287849447927 tw3469915347259968531 tw3528834070628717545 tw354174131026592920 tw361822302680040990 tw3651924599987713273 tw3685892112908483442 tw3712135481300134166 tw3726948972698036016 tw3735937816159975263 tw3785708286898569671 tw3816766425802226555 tw3840096587681174566 tw385919627478183501 tw3869157267735079353 tw3880163926868679422 tw3906754121460007880 tw3957199864025739435 tw398022393259331090 tw3997726469321103330 tw4009872877046678660 tw4164908976274806229 tw4217598817013868332 tw4224713217371503751 tw4251164535005102407 tw4276518878715471580 tw4281827205009409246 tw4345487102342113390 tw4346790889893263675 tw4391221750011466897 tw442759064920962849 tw4434457867922142946 tw4465363328665973639 tw4475856385916973767 tw4492862326453850855 tw4496368836379555578 tw4497291116155078514 tw4681031643337313074 tw4712092360351160181 tw4719151426198779400 tw4795602281814520811 tw4805796684799139173 tw4842339572601157687 tw4878946513103251885 tw4917435434465355691 tw4952287292826796401 tw4998286369363135835 tw5151680627580185596 tw5161528892307058848 tw5162487486368753876 tw5173553401012756901 tw5200895819071114181 tw5216160153900610222 tw5272401697037062499 tw5319548679020344610 tw5361243897888233393 tw5415650234075742665 tw5450623222506379202 tw5488954056873282719 tw5498873589876876338 tw5603660879048667877 tw5626074720115134044 tw5632787354610140724 tw5660562604703693836 tw5720745477776865754 tw5751489526154609404 tw5768142065770642177 tw5975154025552167537 tw5999709539972616311 tw6006634493183558104 tw6007672994320493338 tw6165249871519329146 tw6290884002539860486 tw6301840215423585785 tw6328649495007146530 tw6343373186578991498 tw6448715213722075296 tw6598910515892368324 tw6644867359275787660 tw6677504936511474597 tw6740924751172278545 tw6750425348365705714 tw6754437534617358905 tw6795874883240706163 tw6940304398958036151 tw6944676419444026229 tw6959013422171348536 tw6995455266818359343 tw6995835625438354754 tw7004115864333483244 tw7021190217478284674 tw7038833861761231569 tw7080000126623480867 tw7113851553642003507 tw7152426262061518644 tw7184306525695829803 tw7190333800450758250 tw7232224609151306015 tw724973608840515506 tw7285464119126916596 tw7327206566799597722 tw7385690804095088209 tw750614279951300717 tw7508990319614066604 tw764662721803040315 tw7735535109693894909 tw7769547195674515313 tw7854686573595303693 tw7869234482927929156 tw7903391824365884217 tw7959202918200350808 tw7993135389704455965 tw8077151625591217381 tw8093215056063408588 tw8093284567951611600 tw8120398234934962028 tw8146196769204016146 tw8394749952176651802 tw845863031321350283 tw8533300400485712504 tw8573417375718646618 tw8588309406466149007 tw8651341333001057575 tw8676591993331181232 tw869619942404991117 tw8754278472950124700 tw8852585415773679829 tw887641230823202628 tw8893719474366184658 tw8919174003168667259 tw8926541278856625587 tw9052902705502636683 tw9062453119506314081 tw9098491926140359002 tw9131589401720146220 tw9144489977224542178 tw9176346130738590994 tw9196015435505681296 tw925373006805128145 tw9339018881898036708 tw9349148635449282569 tw9522407461828425455 tw953527835342241544 tw956934285883707152 tw957529137434737206 tw9715414949027572414 tw9723043409501305610 tw9770212000456919547 tw9853417943582884256 tw9858138337232586283 tw9886878888036073426 tw9924272792288014633 tw9953737771926193801 tw9958965105301077409 tw9995641057745777097:True)
end PySem.W
open PySem PySem.W PyProof.Rows
set_option maxRecDepth 100000 in
set_option maxHeartbeats 0 in
theorem PySem.Challenge.cw_ladderhall_k95_whole_texts_holds : PySem.Challenge.rw_ladderhall_k95_whole_texts.Holds := by
  w_on; o_law; k_head; (case hw => w_witness2)
  k_fill
  refine My.walk (l := PySem.Challenge.rw_ladderhall_k95_whole_texts) rfl rfl (fun w h Y => PySem.W.kIn_of Y) ?F
  case F =>
    intro w mg fa h KX G hmg
    refine' ⟨L3.T0.of ?r1 ?r2 ?r3 ?r4 ?r5 ?r6, ?al⟩
    (case r1 => refine' L3.j5e ?_; k_is)
    (case r2 => refine' L3.j5e ?_; k_is)
    (case r3 => refine' L3.j5e ?_; k_is)
    (case r4 => refine' L3.j5e ?_; k_is)
    (case r5 => refine' L3.j5e ?_; k_is)
    (case r6 => refine' L3.j5e ?_; k_is)
    refine' My.all_mk KX G hmg ?A1 ?A2 ?A3 ?A4 ?A5 ?A6 ?A7 ?A8 ?A9 ?A10 ?A11 ?A12 ?A13 ?A14 ?A15 ?A16 ?A17 ?A18 ?A19 ?A20 ?A21 ?A22 ?A23 ?A24 ?A25 ?A26 ?A27 ?A28 ?A29 ?A30 ?A31 ?A32 ?A33 ?A34 ?A35 ?A36 ?A37 ?A38 ?A39 ?A40 ?A41 ?A42 ?A43 ?A44 ?A45 ?A46 ?a47 ?l47 ?c47 ?k47 ?z1 ?z2 ?z3 ?z4 ?z5 ?z6 ?z7 ?z8 ?z9 ?z10 ?z11 ?z12 ?v1 ?v2 ?v3 ?v4 ?xrN ?xcg ?xct ?xrg ?xrt ?xrc ?xro ?xrb ?xrT ?xe0N ?xe0g ?xe0t ?xe0c ?xe0o ?xe0b ?xe0V ?xe0n0 ?xe0n1 ?xe0n2 ?xe0n3 ?xe0n4 ?xe0R ?xe0X ?y0N ?y0O ?y0T ?y0Sxe0 ?y0Dxe0 ?y1N ?y1O ?y1T ?y1Sxe0 ?y1Dxe0 ?y2N ?y2O ?y2T ?y2Sxe0 ?y2Dxe0 ?y3N ?y3O ?y3T ?y3Sxe0 ?y3Dxe0 ?y4N ?y4O ?y4T ?y4Sxe0 ?y4Dxe0 ?y5N ?y5O ?y5T ?y5Sxe0 ?y5Dxe0
    (case A1 | A2 | A3 | A4 | A5 | A6 | A7 | A8 | A9 | A10 | A11 | A12 | A13 | A14 | A15 | A16 | A17 | A18 | A19 | A20 | A21 | A22 | A23 | A24 | A25 | A26 | A27 | A28 | A29 | A30 | A31 | A32 | A33 | A34 | A35 | A36 | A37 | A38 | A39 | A40 | A41 | A42 | A43 | A44 | A45 | A46 => refine' My.A0.mk KX G ?a ?l ?c ?k; (case a => k_is); (case l => k_is); (case c => k_is); (case k => k_is))
    (case a47 | l47 | c47 | k47 | z1 | z2 | z3 | z4 | z5 | z6 | z7 | z8 | z9 | z10 | z11 | z12 | v1 | v2 | v3 | v4 | xrN | xcg | xct | xrg | xrt | xrc | xro | xrb | xrT | xe0N | xe0g | xe0t | xe0c | xe0o | xe0b | xe0V | xe0n0 | xe0n1 | xe0n2 | xe0n3 | xe0n4 | xe0R | y0N | y0O | y0T | y0Sxe0 | y1N | y1O | y1T | y1Sxe0 | y2N | y2O | y2T | y2Sxe0 | y3N | y3O | y3T | y3Sxe0 | y4N | y4O | y4T | y4Sxe0 | y5N | y5O | y5T | y5Sxe0 => k_is)
    (case xe0X => k_exc)
    (case y0Dxe0 | y1Dxe0 | y2Dxe0 | y3Dxe0 | y4Dxe0 | y5Dxe0 => decide)
