import PyProof.Rows.All
import Wide.All
import OpenK.AllK
import Wide.FinOn
import Lean
import PyProof.EqAt
import PyProof.EqKinds
import PyProof.TupleCall
import KE.KIsNot
import PyProof.ExcArgs
import OpenK.KOwn
import KE.LcSums
import PyProof.EnumMake
import PyProof.Draws
import PyProof.Rows.EnumRows
import PyProof.ExcBaseAll.ValueError
import PyProof.NsDelKeeps
import PyProof.Rows.SetFrom
import PyProof.WalksMore
import KE.KDictSum
import PyProof.Rows.MinMaxN
import PyProof.Rows.CallKwBuiltin
import KE.KMinKey
import KE.KSortKey
import PyProof.DictWalks
import PySem.Challenge.RW_ladderhall_k83_whole_copies
set_option Elab.async false
set_option linter.all false
set_option maxRecDepth 100000
set_option maxHeartbeats 0
noncomputable section
open List (range replicate)
open Int (ofNat_eq_natCast)
abbrev Tk:=PySem.Value->PySem.Shared->Prop
def Qa:=@PySem.wpAny_bind
def Qb:=@List.mem_cons_of_mem
def Qc:=@List.mem_cons_self
def Qd:=@PySem.Heap.get?_push_of_some
def Qe:=@PySem.wpAny_pure
def Qf:=@Nat.le_refl
def Qg:=@List.length_map
def Qh:=@List.getD_eq_getElem?_getD
def Qi:=@List.getElem?_eq_getElem
def Qj:=@List.length_append
def Qk:=@List.size_toArray
def Ql:=@if_pos
def Qm:=@List.mem_append_right
def Qn:=@PySem.Heap.lt_size
def Qo:=@Nat.lt_of_lt_of_le
def Qp:=@PyProof.Rows.boot_tuple
def Qq:=@List.getElem?_eq_some_iff
def Qr:=@List.mem_cons
def Qs:=@List.mem_singleton
def Qt:=@if_neg
def Qu:=@List.mem_map
def Qv:=@PySem.Heap.get?_push_size
def Qw:=@List.getElem?_map
def Qx:=@List.mem_append_left
def Qy:=@List.getElem?_set_ne
def Qz:=@List.getElem?_set_self
def QA:=@List.length_set
def QB:=@decide_eq_false
def QC:=@decide_eq_true
def QF:=@Nat.le_trans
def QG:=@PySem.PassesOwn.never
def QH:=@Nat.ne_of_lt
def QI:=@List.mem_append
def QJ:=@Option.some.inj
def QK:=@List.not_mem_nil
def QL:=@List.getElem?_append_left
def QM:=@PySem.mem_of_lookup
def QN:=@List.length_cons
def QO:=@List.getElem?_eq_none
def QP:=@PySem.W.mg_none_of
def QR:=@List.length_range
def QS:=@List.getElem_mem
def QT:=@Nat.lt_irrefl
def QU:=@List.map_map
def QV:=@PySem.SeqAt.canLay_of_shaped
def QW:=@List.append_assoc
def QX:=@List.getElem?_append_right
def QY:=@PySem.W.mg_of
def QZ:=@List.map_append
def Q0:=@List.mem_range
def Q1:=@PySem.wpAny_newObj_type
def Q2:=@PyProof.Rows.slot_tuple_getitem
def Q3:=@List.length_replicate
def Q4:=@PySem.W.kia_one
def Q5:=@List.append_nil
def Q7:=@List.length_take
def Q8:=@List.getElem?_replicate
def Q9:=@List.lookup_cons
def Za:=@List.filter_cons_of_pos
def Zb:=@Bool.and_eq_true_iff
def Zc:=@List.map_congr_left
def Zd:=@List.flatten_replicate_singleton
def Ze:=@Bool.false_eq_true
def Zf:=@List.map_cons
def Zg:=@Nat.lt_succ_self
def Zh:=@Nat.lt_succ_of_lt
def Zi:=@List.ext_getElem?
def Zj:=@List.length_filter_le
def Zk:=@PySem.wpAny_holding
def Zl:=@PySem.F.called_set
def Zm:=@PySem.wpAny_callSpecial?_slot
def Zn:=@PySem.wpAny_call_entry
def Zo:=@Bool.and_eq_true
def Zp:=@PySem.F.plainAttrs_list
def Zq:=@List.length_eq_zero_iff
def Zr:=@List.filter_cons_of_neg
def Zs:=@PySem.wpAny_mono
def Zt:=@PySem.wpAny_truthy_bool
def Zu:=@PySem.Heap.size_push
def Zv:=@List.replicate_succ
def Zw:=@List.getElem?_range
def Zx:=@List.mem_filter
def Zy:=@Bool.false_ne_true
def Zz:=@Option.isSome_iff_exists
def ZA:=@Nat.zero_le
def ZB:=@beq_iff_eq
def ZC:=@PySem.codeAny_builtin
def ZD:=@Array.length_toList
def ZE:=@PyProof.Rows.F.plain_set_update_loop
def ZF:=@Nat.le_of_lt
def ZG:=@PyProof.Rows.callWith_type1
def ZH:=@PyProof.Rows.boot_list
def ZI:=@PySem.F.slot_tuple_iterator_next
def ZJ:=@List.findIdx?_eq_some_iff_getElem
def ZK:=@PySem.wpAny_passesOwn
def ZL:=@Option.map_some
def ZM:=@List.flatten_cons
def ZN:=@PySem.codeAny_call_builtin
def ZO:=@PySem.Around.under_plainId
def ZP:=@List.mem_of_mem_take
def ZQ:=@PySem.call_meets
def ZR:=@congrArg
def ZS:=@Nat.le_succ
def ZT:=@PySem.W.cellsFrom_some
def ZU:=@List.map_nil
def ZV:=@PySem.wpAny_pyIter_tuple
def ZW:=@Array.getElem?_eq_none
def ZX:=@List.nodup_cons
def ZY:=@List.foldl_cons
def ZZ:=@List.find?_cons
def Z0:=@PyProof.Rows.boot_isinstance
def Z1:=@PySem.Heap.get?_update_self
def Z2:=@PySem.builtinLookup_eq_fast
def Z3:=@PyProof.Rows.boot_int
def Z4:=@of_decide_eq_true
def Z5:=@PySem.F.typeOf_object_class
def Z6:=@PySem.codeAny_mono
def Z7:=@if_true
def Z8:=@List.length_drop
def Z9:=@beq_self_eq_true
def Ja:=@PySem.Heap.SameBut.update
def Jb:=@PyProof.Rows.F.entry_set_update_loop
def Jc:=@List.filter_eq_self
def Jd:=@List.mem_map_of_mem
def Je:=@List.getElem?_take_of_lt
def Jf:=@PySem.F.args_tuple_add_2
def Jg:=@PySem.wpAny_execs_nil
def Jh:=@PySem.pushCells_keeps
def Ji:=@PySem.Calls.spliced_cons
def Jj:=@PySem.wpAny_Call_Name_kw
def Jk:=@Nat.lt_of_le_of_lt
def Jl:=@PySem.F.entry_tuple_add
def Jm:=@PySem.wpAny_field
def Jn:=@Ne.symm
def Jo:=@PySem.F.slot_tuple_add
def Jp:=@PySem.Heap.get?_update_other
def Jq:=@PySem.isSubtype_type
def Jr:=@PyProof.Rows.room_in_shaped
def Js:=@decide_eq_true_eq
def Jt:=@Function.comp_def
def Ju:=@List.foldl_append
def Jv:=@Nat.mul_le_mul
def Jw:=@Array.getElem?_toList
def Jx:=@PySem.F.slot_dict_get
def Jy:=@PySem.wpAny_execs_cons
def Jz:=@Nat.le_add_right
def JA:=@List.take_length
def JB:=@PySem.F.slot_tuple_mul
def JC:=@PySem.W.Looks.of_pure
def JD:=@PySem.Calls.evalArgs_plain
def JE:=@Nat.mul_le_mul_right
def JF:=@PySem.F.slot_int_rmul
def JG:=@List.length_nil
def JH:=@PySem.typeLookup_type
def JI:=@PySem.F.args_tuple_iterator_next_1
def JJ:=@beq_eq_false_iff_ne
def JK:=@List.filterMap_cons
def JL:=@Nat.add_le_add_left
def JM:=@PySem.F.slot_gs_get
def JN:=@List.length_pos_iff
def JO:=@PySem.wpAny_typeOf
def JP:=@Nat.succ_mul
def JQ:=@PySem.F.entry_tuple_iterator_next
def JR:=@List.idxOf_lt_length_of_mem
def JS:=@Nat.succ.inj
def JT:=@PySem.Calls.Name_function_global
def JU:=@List.mem_filterMap
def JV:=@if_false
def JW:=@PySem.Code.quiet_builtin
def JX:=@PySem.F.excAttr_ValueError
def JY:=@List.getElem?_take_eq_none
def JZ:=@PySem.SeqAt.readsAll_map
def J0:=@PySem.F.excBase_ValueError
def J1:=@Int.emod_lt_of_pos
def J2:=@PySem.wpAny_binaryOp_repeat_ref
def J4:=@List.drop_eq_getElem_cons
def J6:=@List.ne_nil_of_length_pos
def J9:=@Array.getElem?_eq_getElem
def Ya:=@PySem.W.kitx_list
def Yb:=@PySem.Calls.spliced_nil
def Yc:=@Int.toNat_natCast
def Yd:=@PySem.wpAny_pyIter_list
def Ye:=@PySem.wpAny_attempt
def Yf:=@Bool.not_true
def Yg:=@PySem.F.slot_tuple_index
def Yh:=@PySem.F.slot_list_append
def Yi:=@PySem.F.type_list_append
def Yj:=@List.map_take
def Yk:=@PySem.noFill_tuple_add
def Yl:=@Nat.succ_le_succ
def Ym:=@PySem.F.args_dict_get_3
def Yn:=@List.all_eq_true
def Yo:=@PySem.isinstance_outer
def Yp:=@PySem.SeqAt.items_eqAt
def Yq:=@PySem.F.slot_list_count
def Yr:=@PySem.F.slot_list_index
def Ys:=@PySem.wpAny_askSetting
def Yt:=@List.getElem?_cons_succ
def Yu:=@Int.eq_ofNat_of_zero_le
def Yv:=@List.mem_zipIdx'
def Yw:=@PySem.wpAny_call
def Yx:=@PySem.concat_meets
def Yy:=@PySem.typeIs_int
def Yz:=@Nat.lt_trans
def YA:=@PySem.F.entry_dict_get
def YB:=@Option.map_eq_some_iff
def YC:=@PySem.intKind_is
def YD:=@List.take_of_length_le
def YE:=@List.of_mem_zip
def YF:=@Bool.or_eq_true
def YG:=@PySem.call_isinstance
def YH:=@Nat.not_lt_zero
def YI:=@List.map_const'
def YJ:=@List.range_succ
def YK:=@List.set_append
def YL:=@Int.emod_nonneg
def YM:=@List.take_append_drop
def YN:=@PySem.F.plain_set_new
def YO:=@List.Perm.append_left
def YQ:=@PySem.F.slot_set_iter
def YR:=@PyProof.Rows.boot_max
def YS:=@List.contains_iff_mem
def YT:=@PySem.sizeLine_eq
def YU:=@List.mem_of_getElem?
def YV:=@PySem.W.looks_subIn
def YW:=@PySem.boot_len
def YX:=@List.drop_zero
def YY:=@or_false
def YZ:=@List.getElem?_zipIdx
def Y0:=@Option.map_map
def Y1:=@List.length_eraseIdx
def Y2:=@List.any_cons
def Y3:=@Nat.mod_lt
def Y4:=@Nat.ne_of_gt
def Y5:=@Nat.mul_comm
def Y6:=@Nat.sub_zero
def Y7:=@Nat.lt_or_ge
def Y8:=@Nat.sub_self
def Y9:=@Nat.zero_add
def Va:=@Sum.inr.inj
namespace L2
open PySem PySem.Spec PyProof.Rows
variable {A:Around}{C a b dx it:Addr}{E:Tk}{K:PySem.W.Frag}{M:Model}{N ps:List Str}{P:Program}{Q:Unit->Shared->Prop}{base h:Heap}{body:List Stmt}{c tg:Expr}{es:List Expr}{f:Value->Value->Sem Value}{fp:List Addr}{g:Int->Int->Int}{i j n:Nat}{kindOf:Str->Option NameKind}{mA mg:Str->Option Value}{o:Obj}{op kX:CmpOp}{Uf:List (Addr×Obj)}{qual x:Str}{s s':Shared}{sc scope:Scope}{u v:Value}{us:List Value}{w:World}
abbrev Key:=Sum Int Str
def tF:Key->Value->Bool
 | .inl k,v=>Value.isInt k v
 | .inr x,v=>Value.isStrOf x v
def LF (w:World):Key->Int
 | .inl k=>hashInt k
 | .inr x=>hashStr w x
theorem om:∀ {k:Key} {v:Value},tF k v=true->(∃ i t,k=Sum.inl i/\v=Value.int i t)\/(∃ x t,k=Sum.inr x/\v=Value.str x t)
 | .inl i,v,h=>by obtain⟨t,e⟩:=Value.isInt_shape (k:=i) (v:=v) h;exact .inl ⟨i,t,rfl,e⟩
 | .inr x,v,h=>by obtain⟨t,e⟩:=Value.isStrOf_shape (x:=x) (v:=v) h;exact .inr ⟨x,t,rfl,e⟩
theorem LG(i:Int)(t:Tok):tF (.inl i) (.int i t)=true:=by simp[tF,Value.isInt]
theorem LH(x:Str)(t:Tok):tF (.inr x) (.str x t)=true:=by simp[tF,Value.isStrOf]
theorem LJ(a b:Int):decide ((Sum.inl a:Key)=Sum.inl b)=(a==b):=by
 by_cases e:a=b
 .subst e;simp
 .have h:¬ (Sum.inl a:Key)=Sum.inl b:=λq=>e (Sum.inl.inj q);rw[QB h];exact(JJ.mpr e).symm
theorem LK(a b:Str):decide ((Sum.inr a:Key)=Sum.inr b)=decide (a=b):=by
 by_cases e:a=b
 .subst e;simp
 .have h:¬ (Sum.inr a:Key)=Sum.inr b:=λq=>e (Va q);rw[QB h,QB e]
theorem LL(a:Int)(b:Str):decide ((Sum.inl a:Key)=Sum.inr b)=false:=QB (λq=>nomatch q)
theorem LM(a:Str)(b:Int):decide ((Sum.inr a:Key)=Sum.inl b)=false:=QB (λq=>nomatch q)
def jc (prog:Program)(w:World):PySem.KeyKind prog w Key where
 is:=tF
 hash:=LF w
 inj:=λv a b ha hb=>by
  rcases om ha with⟨i,t,rfl,rfl⟩|⟨x,t,rfl,rfl⟩
  .rcases om hb with⟨j,u,rfl,e⟩|⟨y,u,rfl,e⟩
   .injection e with e1 _;rw[e1]
   .exact nomatch e
  .rcases om hb with⟨j,u,rfl,e⟩|⟨y,u,rfl,e⟩
   .exact nomatch e
   .injection e with e1 _;rw[e1]
 byValue:=λk v h=>by rcases om h with⟨i,t,rfl,rfl⟩|⟨x,t,rfl,rfl⟩<;>rfl
 pyHash:=λhv h=>by
  rcases om hv with⟨i,t,rfl,rfl⟩|⟨x,t,rfl,rfl⟩
  .exact wpAny_pyHash_int h
  .exact wpAny_pyHash_str h
 eqBool:=λhu hv h=>by
  rcases om hu with⟨i,t,rfl,rfl⟩|⟨x,t,rfl,rfl⟩
  .rcases om hv with⟨j,u,rfl,rfl⟩|⟨y,u,rfl,rfl⟩
   .rw[LJ]at h;exact wpAny_eqBool_int h
   .rw[LL]at h;exact SeqAt.EqAt.int_str i t y u _ _ _ _ h
  .rcases om hv with⟨j,u,rfl,rfl⟩|⟨y,u,rfl,rfl⟩
   .rw[LM]at h;exact SeqAt.EqAt.str_int x t j u _ _ _ _ h
   .rw[LK]at h;exact wpAny_eqBool_str h
 «strs»:=λk x t v h=>by
  rcases om h with⟨i,u,rfl,e⟩|⟨y,u,rfl,e⟩
  .exact nomatch e
  .injection e with e1 _;subst e1;cases v<;>rfl
theorem LN(prog:Program)(w:World)(i:Int)(t:Tok):(jc prog w).is (.inl i) (.int i t)=true:=LG i t
theorem LO(prog:Program)(w:World)(x:Str)(t:Tok):(jc prog w).is (.inr x) (.str x t)=true:=LH x t
inductive V where
 | aF|bl (b:Bool)|int (i:Int)|str (x:Str)|uU (b:Array UInt8)|tG (b:UInt64)|ref (a:Addr)|ty (n:String)
 deriving DecidableEq
def bT:V->Value->Prop
 | .aF,u=>u=Value.none
 | .bl b,u=>u=Value.bool b
 | .int i,u=>∃ t,u=Value.int i t
 | .str x,u=>∃ t,u=Value.str x t
 | .uU b,u=>∃ t,u=Value.bytes b t
 | .tG b,u=>∃ t,u=Value.float b t
 | .ref a,u=>u=Value.ref a
 | .ty n,u=>u=Value.type n
abbrev bo:List V->List Value->Prop:=Paired bT
theorem bo.length{xs:List V}(r:bo xs us):xs.length=us.length:=Paired.length r
theorem bo.get:∀ {xs:List V} {us:List Value} {i:Nat} {x:V},bo xs us->xs[i]? = some x->∃ u,us[i]? = some u/\bT x u
 | _,_,_,_,.nil,e=>by simp at e
 | _,_,0,_,.cons r _,e=>by simp at e;subst e;exact⟨_,rfl,r⟩
 | _,_,i+1,x,.cons _ t,e=>by obtain⟨u,h1,h2⟩:=bo.get (i:=i) (x:=x) t (by simpa using e);exact⟨u,by simpa using h1,h2⟩
theorem bo.set{x:V}(r:bT x u):∀ {xs:List V} {us:List Value} (i:Nat),bo xs us->bo (xs.set i x) (us.set i u)
 | _,_,_,.nil=>.nil
 | _,_,0,.cons _ t=>.cons r t
 | _,_,i+1,.cons q t=>.cons q (bo.set r i t)
theorem bo.append:∀ {xs ys:List V} {us ws:List Value},bo xs us->bo ys ws->bo (xs++ys) (us++ws)
 | _,_,_,_,.nil,s=>s
 | _,_,_,_,.cons r t,s=>.cons r (bo.append t s)
theorem bo.take:∀ {xs:List V} {us:List Value} (n:Nat),bo xs us->bo (xs.take n) (us.take n)
 | _,_,0,_=>.nil
 | _,_,_+1,.nil=>.nil
 | _,_,n+1,.cons r t=>.cons r (bo.take n t)
theorem bo.drop:∀ {xs:List V} {us:List Value} (n:Nat),bo xs us->bo (xs.drop n) (us.drop n)
 | _,_,0,r=>r
 | _,_,_+1,.nil=>.nil
 | _,_,n+1,.cons _ t=>bo.drop n t
def qV:Option V->Option Value->Prop
 | some v,some u=>bT v u
 | none,none=>True
 | _,_=>False
def KV {κ:Type}:List (κ×V)->List (κ×Value)->Prop:=Paired λ(p:κ×V) (q:κ×Value)=>p.1=q.1/\bT p.2 q.2
def kV:Key->V
 | .inl i=>.int i
 | .inr x=>.str x
inductive HO where
 | lst (xs:List V)
 | tup (xs:List V)
 | dK (aG:List (Key×V))|dT (aG:List (List Key×V))
 | set (S:Int->Bool) (n:Nat)
 | ins (C dx:Addr) (fs:List (Str×V))
 | own (x:Addr)
 | xd (fs:List (Str×V))
 | met (f x:Addr)
 | lR (lo hi:Int)
 | fM (o:Obj) (u:HO)
 | jE (ps:Array Value)
 | ext (φ:Heap->Prop)
abbrev Hp:=Addr->Option HO
def upd (H:Hp)(a:Addr)(o:HO):Hp:=λb=>if b=a then some o else H b
theorem gM{H:Hp}{o:HO}:upd H a o a=some o:=by unfold upd;rw[Ql rfl]
theorem bw{H:Hp}{o:HO}(h:b≠a):upd H a o b=H b:=by unfold upd;rw[Qt h]
theorem LP{H:Hp}{o u:HO}:upd (upd H a o) a u=upd H a u:=by funext b;unfold upd;split<;>rfl
theorem iF{H:Hp}{o:HO}(h:H a=some o)(h':H b=none):a≠b:=by intro e;subst e;rw[h]at h';cases h'
def kY (h:Heap)(a:Addr)(items:Array Value):Prop:=∃ o,h.get? a=some o/\o.cls=.type "tuple" /\ (∃ n,o.data=.seq items n)/\o.dict=none
theorem kY.tup{h:Heap}{a:Addr}{items:Array Value}(x:kY h a items):IsTup h a items:=let ⟨o,e,c,n,_⟩:=x;⟨o,e,c,n⟩
theorem kY.new(h:Heap)(items:Array Value):kY (h.push { cls:=.type "tuple",data:=.seq items }) h.objs.size items:=⟨_,Qv _ rfl,rfl,⟨_,rfl⟩,rfl⟩
theorem kY.lt{items:Array Value}(x:kY h a items):a<h.objs.size:=let ⟨_,e,_⟩:=x;Qn e
section
variable (P:Program)(w:World)
def dh (H:Hp)(h:Heap)(a:Addr):HO->Prop
 | .lst xs=>xs.length<=sizeLine/\∃ (ar:List Value) (n:Nat),bo xs ar/\h.get? a=some { cls:=.type "list",data:=.seq ar.toArray n }
 | .tup xs=>xs.length<=sizeLine/\∃ ar:List Value,bo xs ar/\kY h a ar.toArray
 | .dK aG=>aG.length<=sizeLine/\(a==sysModules)=false/\∃ vs,KV aG vs/\h.DictOf (jc P w) a vs
 | .dT aG=>aG.length<=sizeLine/\(a==sysModules)=false/\∃ xs:List (List Key×Addr×Value),
   Paired (λ(p:List Key×V) (q:List Key×Addr×Value)=>p.1=q.1/\H q.2.1=some (.tup (p.1.map kV))/\bT p.2 q.2.2) aG xs /\
   ∃ o es ep,h.get? a=some o/\o.ExactDict/\o.data=.dict es ep/\es.toList=xs.map (entryOfKey (tupleKind (jc P w)))/\(xs.map (·.1)).Nodup
 | .set S n=>h.SetOf (intKind P w) a S n
 | .ins C dx fs=>H dx=some (.own a)/\fs.length<=1000/\dx≠a/\h.get? a=some (W.instObj C dx) /\
   ∃ mA,h.Ns1 dx mA/\(∀ f,qV (fs.lookup f) (mA f))/\PySem.Within mA (fs.map (·.1))
 | .own _=>∃ o,h.get? a=some o
 | .xd fs=>∃ mA,h.Ns1 a mA/\∀ f,qV (fs.lookup f) (mA f)
 | .lR lo hi=>∃ t u v,h.get? a=some { cls:=.type "range",data:=.fields #[.int lo t,.int hi u,.int 1 v] }
 | .fM o u=>h.get? a=some o/\dh H h a u
 | .jE ps=>h.get? a=some { cls:=.none,data:=.fields ps }
 | .met f x=>h.get? a=some (W.methodObj (.ref f) (.ref x))
 | .ext φ=>φ h/\(∃ o,h.get? a=some o)/\∀ h1 h2:Heap,φ h1->(∀ o,h1.get? a=some o->h2.get? a=some o)->φ h2
def di (H:Hp)(h:Heap):Prop:=∀ a o,H a=some o->dh P w H h a o
end
section
variable {P:Program}{w:World}{H H':Hp}{h h':Heap}{a:Addr}{o:HO}
theorem dh.lt(x:dh P w H h a o):a<h.objs.size:=by
 cases o with
 | lst xs=>obtain⟨_,_,_,_,e⟩:=x;exact Qn e
 | tup xs=>obtain⟨_,_,_,p⟩:=x;exact p.lt
 | dK aG=>obtain⟨_,_,_,_,o,_,_,e,_⟩:=x;exact Qn e
 | dT aG=>obtain⟨_,_,_,_,o,_,_,e,_⟩:=x;exact Qn e
 | set S n=>obtain⟨o,_,_,_,e,_⟩:=x;exact Qn e
 | ins C dx fs=>obtain⟨_,_,_,e,_⟩:=x;exact Qn e
 | own y=>obtain⟨_,e⟩:=x;exact Qn e
 | xd fs=>obtain⟨_,⟨_,_,_,e,_⟩,_⟩:=x;exact Qn e
 | lR lo hi=>obtain⟨_,_,_,e⟩:=x;exact Qn e
 | fM ob u=>obtain⟨e,_⟩:=x;exact Qn e
 | jE ps=>exact Qn (show h.get? a=some _ from x)
 | met f y=>exact Qn (show h.get? a=some _ from x)
 | ext φ=>obtain⟨_,⟨_,e⟩,_⟩:=x;exact Qn e
theorem Paired.uV{α β:Type}{F G:α->β->Prop}:∀ {uW:List α} {uX:List β},Paired F uW uX->(∀ a b,F a b->G a b)->Paired G uW uX
 | _,_,.nil,_=>.nil
 | _,_,.cons r t,f=>.cons (f _ _ r) (Paired.uV t f)
theorem dh.fT(x:dh P w H h a o)(k:∀ b u,(b=a\/H b=some (.own a))->h.get? b=some u->h'.get? b=some u)
  (ho:∀ b,H b=some (.own a)->H' b=some (.own a)) (ht:∀ b xs,H b=some (.tup xs)->H' b=some (.tup xs)):dh P w H' h' a o:=by
 induction o with
 | lst xs=>obtain⟨z,ar,n,r,e⟩:=x;exact⟨z,ar,n,r,k _ _ (.inl rfl) e⟩
 | tup xs=>obtain⟨z,ar,r,ob,e,c⟩:=x;exact⟨z,ar,r,ob,k _ _ (.inl rfl) e,c⟩
 | dK aG=>obtain⟨z,y,vs,r,ob,es,ep,e,c⟩:=x;exact⟨z,y,vs,r,ob,es,ep,k _ _ (.inl rfl) e,c⟩
 | dT aG=>
  obtain⟨z,y,xs,r,ob,es,ep,e,c⟩:=x;exact⟨z,y,xs,Paired.uV r λp q z=>⟨z.1,ht _ _ z.2.1,z.2.2⟩,ob,es,ep,k _ _ (.inl rfl) e,c⟩
 | set S n=>obtain⟨ob,es,ep,t,e,c⟩:=x;exact⟨ob,es,ep,t,k _ _ (.inl rfl) e,c⟩
 | ins C dx fs=>
  obtain⟨d,z,ne,e,mA,⟨od,es,ep,e2,c⟩,r⟩:=x;exact⟨ho _ d,z,ne,k _ _ (.inl rfl) e,mA,⟨od,es,ep,k _ _ (.inr d) e2,c⟩,r⟩
 | own y=>obtain⟨ob,e⟩:=x;exact⟨ob,k _ _ (.inl rfl) e⟩
 | xd fs=>obtain⟨mA,⟨od,es,ep,e,c⟩,r⟩:=x;exact⟨mA,⟨od,es,ep,k _ _ (.inl rfl) e,c⟩,r⟩
 | lR lo hi=>obtain⟨t,u,v,e⟩:=x;exact⟨t,u,v,k _ _ (.inl rfl) e⟩
 | fM ob u ih=>obtain⟨e,q⟩:=x;exact⟨k _ _ (.inl rfl) e,ih q⟩
 | jE ps=>
  have e:h.get? a=some { cls:=.none,data:=.fields ps }:=x;show h'.get? a=some { cls:=.none,data:=.fields ps };exact k a _ (.inl rfl) e
 | met f y=>
  have e:h.get? a=some (W.methodObj (.ref f) (.ref y)):=x;show h'.get? a=some (W.methodObj (.ref f) (.ref y));exact k a _ (.inl rfl) e
 | ext φ=>obtain⟨p,⟨o,e⟩,st⟩:=x;exact⟨st _ _ p λo q=>k _ _ (.inl rfl) q,⟨o,k _ _ (.inl rfl) e⟩,st⟩
theorem di.lt(x:di P w H h)(e:H a=some o):a<h.objs.size:=(x a o e).lt
theorem di.fresh(x:di P w H h)(e:h.objs.size<=a):H a=none:=by
 cases q:H a with
 | none=>rfl
 | some u=>exact absurd (Qo (x.lt q) e) (QT _)
theorem di.kept(x:di P w H h)(k:∀ b u,h.get? b=some u->h'.get? b=some u):di P w H h':=λa o e=>
 (x a o e).fT (λb u _ q=>k b u q) (λ_ q=>q) λ_ _ q=>q
theorem di.laid(x:di P w H h)(k:∀ b u,h.get? b=some u->h'.get? b=some u)(hp:h.objs.size<=a)(new:dh P w (upd H a o) h' a o):di P w (upd H a o) h':=λb u e=>by
 have hn:=x.fresh hp;by_cases hb:b=a
 .subst hb;rw[gM]at e;cases e;exact new
 .rw[bw hb]at e;exact(x b u e).fT (λc v _ q=>k c v q) (λc q=>by rw[bw (iF q hn)];exact q) λc xs q=>by rw[bw (iF q hn)];exact q
end
def Rd (H:Hp)(a:Addr)(u:HO):Prop:=H a=some u\/∃ o,H a=some (.fM o u)
theorem Rd.of{H:Hp}{u:HO}(h:H a=some u):Rd H a u:=.inl h
theorem Rd.ok{H:Hp}{u:HO}(r:Rd H a u)(x:di P w H h):dh P w H h a u:=by
 rcases r with r|⟨o,r⟩
 .exact x a u r
 .obtain⟨_,q⟩:=x a _ r;exact q
def uY:Option HO->Prop
 | some (.lst _)=>True
 | some (.dK _)=>True
 | some (.dT _)=>True
 | some (.set _ _)=>True
 | some (.ins _ _ _)=>True
 | some (.ext _)=>True
 | _=>False
section
variable {P:Program}{w:World}{H:Hp}{h h':Heap}{x e:Addr}{o':HO}
theorem di.write(ok:di P w H h)(mu:uY (H x))(he:e=x\/H e=some (.own x))(k:∀ b u,b≠e->h.get? b=some u->h'.get? b=some u)(tH:∃ u,h'.get? e=some u)
  (new:dh P w (upd H x o') h' x o'):di P w (upd H x o') h':=λb u q=>by
 have uZ:∀ c y,H c=some (.own y)->c≠x:=λc y r z=>by subst z;rw[r]at mu;exact mu
 have zQ:∀ c xs,H c=some (.tup xs)->c≠x:=λc xs r z=>by subst z;rw[r]at mu;exact mu
 by_cases hb:b=x
 .subst hb;rw[gM]at q;cases q;exact new
 .rw[bw hb]at q;by_cases qW:b=e
  .have q':H b=some (.own x):=by
    rcases he with z|z
    .exact absurd (qW.trans z) hb
    .rw[qW];exact z
   rw[q]at q';cases q';obtain⟨v,hv⟩:=tH;exact⟨v,by rw[qW];exact hv⟩
  .refine(ok b u q).fT (λc v hc r=>k c v ?_ r) (λc r=>by rw[bw (uZ c b r)];exact r) λc xs r=>by rw[bw (zQ c xs r)];exact r
   rcases hc with rfl|hc
   .exact qW
   .rintro rfl;rcases he with z|z
    .exact uZ c b hc z
    .rw[hc]at z;cases z;exact hb rfl
end
structure Un (fs ex:List Addr) (H H':Hp) (h h':Heap):Prop where
 keep:∀ b o,h.get? b=some o->H b=none->b ∉ fs->b ∉ ex->h'.get? b=some o
 slot:∀ b o,h.get? b=some o->H b=none->b∈fs->b ∉ ex->∃ sl,h'.get? b=some { o with slots:=sl }
 free:∀ b o,h.get? b=some o->H b=none->b ∉ ex->H' b=none
 there:∀ b o,h.get? b=some o->b ∉ ex->∃ o',h'.get? b=some o'
 d8:∀ b xs,H b=some (.tup xs)->H' b=some (.tup xs)
 dR:∀ b o u,H b=some (.fM o u)->H' b=some (.fM o u)
 d9:∀ b ps,H b=some (.jE ps)->∃ more,H' b=some (.jE (ps++more))
section
variable {fs LQ ex ex':List Addr}{H H1 H2:Hp}{h h1 h2 h':Heap}{a x e:Addr}{o:HO}
theorem Un.any(u:Un fs ex H H1 h h1){ob:Obj}(q:h.get? b=some ob)(n:H b=none)(hx:b ∉ ex):∃ sl,h1.get? b=some { ob with slots:=sl }:=by
 by_cases hb:b∈fs
 .exact u.slot b ob q n hb hx
 .exact⟨ob.slots,u.keep b ob q n hb hx⟩
theorem Un.kept(k:∀ b u,h.get? b=some u->h'.get? b=some u):Un fs ex H H h h':=
 ⟨λb ob q _ _ _=>k b ob q,λb ob q _ _ _=>⟨ob.slots,k b ob q⟩,λ_ _ _ n _=>n,λb ob q _=>⟨ob,k b ob q⟩,λ_ _ q=>q,λ_ _ _ q=>q,λ_ ps q=>⟨#[],by rw[q];simp⟩⟩
theorem Un.refl:Un fs ex H H h h:=Un.kept λ_ _ q=>q
theorem Un.laid(k:∀ b u,h.get? b=some u->h'.get? b=some u)(hp:h.objs.size<=a)(hn:H a=none):Un fs ex H (upd H a o) h h' where
 keep:=λb u q _ _ _=>k b u q
 slot:=λb u q _ _ _=>⟨u.slots,k b u q⟩
 free:=λb u q n _=>by rw[bw (QH (Qo (Qn q) hp))];exact n
 there:=λb u q _=>⟨u,k b u q⟩
 d8:=λb xs q=>by rw[bw (iF q hn)];exact q
 dR:=λb u xs q=>by rw[bw (iF q hn)];exact q
 d9:=λb ps q=>⟨#[],by rw[bw (iF q hn),q];simp⟩
theorem Un.write(mu:uY (H x))(he:e=x\/H e=some (.own x))(k:∀ b u,b≠e->h.get? b=some u->h'.get? b=some u)(tH:∃ u,h'.get? e=some u):Un fs ex H (upd H x o) h h':=by
 have hx:∀ b,H b=none->b≠x:=λb n z=>by subst z;rw[n]at mu;exact mu
 have hb:∀ b,H b=none->b≠e:=λb n z=>by
  subst z;rcases he with r|r
  .exact hx b n r
  .rw[n]at r;cases r
 have hm:∀ b u,H b=some u->¬ uY (some u)->b≠x:=λb u q nm z=>by subst z;rw[q]at mu;exact nm mu
 refine⟨λb u q n _ _=>k b u (hb b n) q,λb u q n _ _=>⟨u.slots,k b u (hb b n) q⟩,λb u q n _=>by rw[bw (hx b n)];exact n,λb u q _=>?_,
  λb xs q=>by rw[bw (hm b _ q λz=>z)];exact q,λb u xs q=>by rw[bw (hm b _ q λz=>z)];exact q,λb ps q=>⟨#[],by rw[bw (hm b _ q λz=>z),q];simp⟩⟩
 by_cases qW:b=e
 .subst qW;exact tH
 .exact⟨u,k b u qW q⟩
end
def mn (h:Heap)(H:Hp):List Addr:=(range h.objs.size).filter λa=>(H a).isSome
def oo (h:Heap)(H:Hp):Heap:=W.hideAll h (mn h H)
theorem LR(h:Heap)(H:Hp):(oo h H).objs.size=h.objs.size:=W.hideAll_size _ _
theorem LS{H:Hp}(e:h.get? b=some o)(n:H b=none):(oo h H).get? b=some o:=
 W.hideAll_get _ e λhm=>by have q:(H b).isSome=true:=(Zx.mp hm).2;rw[n]at q;simp at q
theorem LU{H:Hp}(e:(oo h H).get? b=some o):h.get? b=some o/\H b=none:=by
 have e':h.get? b=some o:=W.of_hideAll (mn h H) e;refine⟨e',?_⟩;cases q:H b with
 | none=>rfl
 | some x=>
  have hm:b∈mn h H:=Zx.mpr ⟨Q0.mpr (Qn e'),by simp[q]⟩;have z:(oo h H).get? b=none:=W.hideAll_none (mn h H) hm;rw[z]at e;cases e
def LV (g h:Heap)(L:Addr):List (Addr×Obj):=(range h.objs.size).filterMap λa=>if a=L\/(g.get? a).isSome=true then none else(h.get? a).map λo=>(a,o)
def bI (g h:Heap)(L d:Addr):List (Addr×Obj):=(LV g h L).filter λp=>decide (p.1≠d)
structure Mod (K:PySem.W.Frag) (mg:Str->Option Value) (base:Heap):Prop where
 u3:K.In base
 glob:base.Ns mainGlobals mg
 blt:∃ mb,base.Ns builtinsNs mb/\∀ x:Str,x ≠ "__name__"->mb x=bootBuiltins x
 nolimit:base.NoLimit
structure Cx where
 prog:Program
 w:World
 K:PySem.W.Frag
 mg:Str->Option Value
 base:Heap
 A:Around
 N:List Str
 aC:Shared
 bM:Hp
 env:Env
 outer:List Env
 stack:List Env
 ex:List Addr
 fn:Str->Bool
 calm:Bool
 pn:List (Addr×Obj)
 xe:Tk
def df (l:List Env):List Addr:=l.filterMap (·.frame)
abbrev Cx.fs (X:Cx):List Addr:=df X.outer
def tI (sc:Scope)(x:Str):Prop:=sc.names.lookup x=some .local\/sc.names.lookup x=some .cell\/sc.names.lookup x=some .free
def Loc (sc:Scope)(x:Str):Prop:=sc.names.lookup x=some .local\/sc.names.lookup x=some .cell
def LW (env:Env)(h:Heap)(m:Str->Option Value)(x:Str)(u:Value):Prop:=
 (env.kindOf x=some .local/\m x=some u)\/((env.kindOf x=some .cell\/env.kindOf x=some .free)/\∃ c,env.cells.lookup x=some c/\h.IsCell c (some u))
structure Cx.Ok (X:Cx):Prop where
 mod:Mod X.K X.mg X.base
 kind:X.env.scope.kind=.function
 glob:X.env.globals=mainGlobals
 blt:X.env.builtins=builtinsNs
 above:X.aC.heap.objs.size<=X.env.locals
 inj:∀ x y c,X.env.cells.lookup x=some c->X.env.cells.lookup y=some c->x=y
 has:∀ x,(X.env.kindOf x=some .cell\/X.env.kindOf x=some .free)->∃ c,X.env.cells.lookup x=some c
 tJ:∀ x c,X.fn x=true->X.env.cells.lookup x=some c->X.aC.heap.objs.size<=c
 hd:X.calm=true->X.A.handled=none
 frames:X.A.frames=some X.stack
 u4:X.stack=X.outer\/(X.stack=X.env::X.outer/\X.env.frame=some X.env.locals)
 xQ:∀ b∈X.ex,b≠X.env.locals/\∀ x c,X.env.cells.lookup x=some c->c≠b
 bs:∀ b o,X.base.get? b=some o->X.aC.heap.get? b=some o/\X.bM b=none
 mq:X.base.objs.size<=X.aC.heap.objs.size
 kZ:∀ b o,X.base.get? b=some o->b ∉ X.ex
 k4:∀ b∈X.ex,b ∉ X.fs
 fB:X.aC.heap.FunFrames X.base X.outer
 qX:∀ b∈X.fs,X.bM b=none
structure Inv (X:Cx) (Uf:List (Addr×Obj)) (σ:List (Option V)) (H:Hp) (s:Shared):Prop where
 ok:X.Ok
 os:s.os=X.aC.os
 bare:AllBare s.gens
 base:Un X.fs X.ex X.bM H X.aC.heap s.heap
 loc:∃ m,s.heap.Ns X.env.locals m/\∀ (i:Nat) (x:Str) (v:V),X.N[i]? = some x->σ[i]? = some (some v)->tI X.env.scope x->∃ u,bT v u/\LW X.env s.heap m x u
 cell:∀ x c,X.env.cells.lookup x=some c->∃ v,s.heap.IsCell c v
 free:H X.env.locals=none
 cT:∀ x c,X.env.cells.lookup x=some c->H c=none
 pin:∀ p∈X.pn++Uf,s.heap.get? p.1=some p.2/\H p.1=none/\p.1≠X.env.locals/\p.1 ∉ X.fs/\∀ v,p.2.data ≠ .cell v
 aP:di X.prog X.w H s.heap
 len:σ.length=X.N.length
section
variable {X:Cx}{Uf:List (Addr×Obj)}{σ:List (Option V)}{H H':Hp}{s:Shared}{h':Heap}
theorem Cx.Ok.zR(ok:X.Ok)(e:X.base.get? b=some o):b ∉ X.fs:=λhb=>by have:=(ok.fB.mem hb).1;rw[e]at this;cases this
theorem Inv.bs(I:Inv X Uf σ H s):∀ b o,X.base.get? b=some o->s.heap.get? b=some o/\H b=none:=λb o e=>
 ⟨I.base.keep b o (I.ok.bs b o e).1 (I.ok.bs b o e).2 (I.ok.zR e) (I.ok.kZ b o e),I.base.free b o (I.ok.bs b o e).1 (I.ok.bs b o e).2 (I.ok.kZ b o e)⟩
theorem Inv.bk(I:Inv X Uf σ H s):∀ b o,X.base.get? b=some o->s.heap.get? b=some o:=λb o e=>(I.bs b o e).1
theorem Inv.mod(I:Inv X Uf σ H s):Mod X.K X.mg X.base:=I.ok.mod
theorem Inv.fC(I:Inv X Uf σ H s):X.K.In s.heap:=I.ok.mod.u3.keeps I.bk
theorem Inv.fr(I:Inv X Uf σ H s):∃ m,Fr X.base X.env.locals s.heap m:=
 let ⟨m,hn,_⟩:=I.loc
 ⟨m,hn,I.bk,QF I.ok.mq I.ok.above⟩
theorem Inv.lt(I:Inv X Uf σ H s):X.env.locals<s.heap.objs.size:=let ⟨_,hn,_⟩:=I.loc;hn.lt
theorem Inv.sz(I:Inv X Uf σ H s):X.aC.heap.objs.size<=s.heap.objs.size:=QF I.ok.above (ZF I.lt)
theorem Inv.u5(I:Inv X Uf σ H s)(h:s.heap.objs.size<=a):a ∉ X.fs:=λhb=>by obtain⟨_,o,ho,_⟩:=I.ok.fB.mem hb;exact absurd (Qo (Qn ho) (QF I.sz h)) (QT _)
theorem Inv.mr(I:Inv X Uf σ H s):∀ x c,X.env.cells.lookup x=some c->c≠X.env.locals:=λx c e z=>by obtain⟨v,o,ho,hd⟩:=I.cell x c e;obtain⟨m,⟨o',es,ep,gU,nC,_⟩,_⟩:=I.loc;rw[z,gU]at ho;cases ho;rw[nC]at hd;cases hd
theorem Inv.fB(I:Inv X Uf σ H s):s.heap.FunFrames X.base X.outer:=by
 have all:∀ (l:List Env),(∀ b∈df l,b∈X.fs)->X.aC.heap.FunFrames X.base l->s.heap.FunFrames X.base l:=by
  intro l;induction l with
  | nil=>intro _ _;trivial
  | cons env r ih=>
   intro hs hl;obtain⟨hk,⟨L,o,hf,hn,ho,hd⟩,hr⟩:=hl;have hL:L∈X.fs:=hs L (by unfold df;rw[JK,hf];exact Qc);obtain⟨sl,e⟩:=I.base.slot L o ho (I.ok.qX L hL) hL λz=>I.ok.k4 L z hL;exact⟨hk,⟨L,_,hf,hn,e,hd⟩,ih (λb hb=>hs b (by unfold df;rw[JK,hf];exact Qb _ hb)) hr⟩
 exact all X.outer (λ_ hb=>hb) I.ok.fB
theorem Inv.stack(I:Inv X Uf σ H s):s.heap.FunFrames X.base X.stack:=by
 rcases I.ok.u4 with e|⟨e,hf⟩
 .rw[e];exact I.fB
 .rw[e];obtain⟨m,hn,_⟩:=I.loc;refine .cons (by rw[I.ok.kind];decide) hf hn ?_ I.fB;exact Heap.get?_none_of_le (QF I.ok.mq I.ok.above)
theorem Inv.iG(I:Inv X Uf σ H s):∀ b∈df X.stack,b∈X.env.locals::X.fs:=λb hb=>by
 rcases I.ok.u4 with e|⟨e,hf⟩
 .rw[e]at hb;exact Qb _ hb
 .rw[e]at hb;unfold df at hb;rw[JK,hf]at hb;exact hb
theorem Inv.eU(I:Inv X Uf σ H s):∀ b∈df X.stack,H b=none:=λb hb=>by
 rcases Qr.mp (I.iG b hb)with e|hb
 .rw[e];exact I.free
 .obtain⟨_,o,ho,_⟩:=I.ok.fB.mem hb;exact I.base.free b o ho (I.ok.qX b hb) λz=>I.ok.k4 b z hb
theorem Inv.step{g':Array GenState}{t':Nat}{d':Drawn}{ch:List Addr}(I:Inv X Uf σ H s)
  (nE:∀ b∈ch,(b∈X.ex\/X.aC.heap.objs.size<=b)/\b≠X.env.locals/\(∀ x c,X.env.cells.lookup x=some c->c≠b)/\∀ p∈X.pn++Uf,p.1≠b)
  (keep:∀ b o,b≠X.env.locals->b ∉ X.fs->b ∉ ch->s.heap.get? b=some o->H b=none->h'.get? b=some o)
  (slot:∀ b o,b≠X.env.locals->b∈X.fs->b ∉ ch->s.heap.get? b=some o->H b=none->∃ sl,h'.get? b=some { o with slots:=sl }) (free:∀ b o,b ∉ ch->s.heap.get? b=some o->H b=none->H' b=none)
  (there:∀ b o,b ∉ ch->s.heap.get? b=some o->∃ o',h'.get? b=some o')
  (d8:∀ b xs,H b=some (.tup xs)->H' b=some (.tup xs)) (dR:∀ b o u,H b=some (.fM o u)->H' b=some (.fM o u)) (d9:∀ b ps,H b=some (.jE ps)->∃ more,H' b=some (.jE (ps++more)))
  (ns:∀ m,s.heap.Ns X.env.locals m->h'.Ns X.env.locals m) (aP:di X.prog X.w H' h') (hg:AllBare g') :
  Inv X Uf σ H' { s with heap:=h',gens:=g',drawn:=d',toks:=t' }:=by
 have Ek:∀ b o,X.aC.heap.get? b=some o->b≠X.env.locals:=λb o e=>QH (Qo (Qn e) I.ok.above);have xR:∀ b o,X.aC.heap.get? b=some o->b ∉ X.ex->b ∉ ch:=λb o e hx hb=>by
  rcases(nE b hb).1 with z|z
  .exact hx z
  .exact absurd (Qo (Qn e) z) (QT _)
 have cellK:∀ x c,X.env.cells.lookup x=some c->∀ v,s.heap.IsCell c v->h'.IsCell c v:=λx c e v ao=>by
  obtain⟨o,ho,hd⟩:=ao;have u6:c ∉ ch:=λz=>(nE c z).2.2.1 x c e rfl;by_cases hc:c∈X.fs
  .obtain⟨sl,q⟩:=slot c o (I.mr x c e) hc u6 ho (I.cT x c e);exact⟨_,q,hd⟩
  .exact⟨o,keep c o (I.mr x c e) hc u6 ho (I.cT x c e),hd⟩
 refine⟨I.ok,I.os,hg,⟨λb o e n hb hx=>?_,λb o e n hb hx=>?_,λb o e n hx=>?_,λb o e hx=>?_,λb xs e=>d8 b xs (I.base.d8 b xs e),λb o xs e=>dR b o xs (I.base.dR b o xs e),λb ps e=>?_⟩,?_,λx c e=>?_,?_,λx c e=>?_,λp hp=>?_,aP,I.len⟩
 .exact keep b o (Ek b o e) hb (xR b o e hx) (I.base.keep b o e n hb hx) (I.base.free b o e n hx)
 .obtain⟨sl,e1⟩:=I.base.slot b o e n hb hx;obtain⟨nF,e2⟩:=slot b _ (Ek b o e) hb (xR b o e hx) e1 (I.base.free b o e n hx);exact⟨nF,e2⟩
 .obtain⟨o',e1⟩:=I.base.there b o e hx;exact free b o' (xR b o e hx) e1 (I.base.free b o e n hx)
 .obtain⟨o',e1⟩:=I.base.there b o e hx;exact there b o' (xR b o e hx) e1
 .obtain⟨m1,e1⟩:=I.base.d9 b ps e;obtain⟨m2,e2⟩:=d9 b _ e1;exact⟨m1++m2,by rw[e2,Array.append_assoc]⟩
 .obtain⟨m,hn,hl⟩:=I.loc;refine⟨m,ns m hn,λi x v e1 e2 e3=>?_⟩;obtain⟨u,r,l⟩:=hl i x v e1 e2 e3;refine⟨u,r,?_⟩;rcases l with l|⟨k,c,e,z⟩
  .exact .inl l
  .exact .inr ⟨k,c,e,cellK x c e _ z⟩
 .obtain⟨v,z⟩:=I.cell x c e;exact⟨v,cellK x c e v z⟩
 .obtain⟨m,⟨o,_,_,ho,_⟩,_⟩:=I.loc;exact free _ o (λz=>(nE _ z).2.1 rfl) ho I.free
 .obtain⟨v,o,ho,hd⟩:=I.cell x c e;exact free c o (λz=>(nE c z).2.2.1 x c e rfl) ho (I.cT x c e)
 .obtain⟨e,n,ne,nf,d⟩:=I.pin p hp;have u6:p.1 ∉ ch:=λz=>(nE p.1 z).2.2.2 p hp rfl;exact⟨keep p.1 p.2 ne nf u6 e n,free p.1 p.2 u6 e n,ne,nf,d⟩
theorem Inv.un{t':Nat}(I:Inv X Uf σ H s)(u:Un X.fs [] H H' s.heap h')(aP:di X.prog X.w H' h'):Inv X Uf σ H' { s with heap:=h',toks:=t' }:=by
 obtain⟨m,⟨o,es,ep,ho,r⟩,_⟩:=id I.loc;obtain⟨sl,hL⟩:=u.any ho I.free (by simp);exact I.step (g':=s.gens) (d':=s.drawn) (ch:=[]) (λ_ z=>nomatch z) (λb o _ hb _ e n=>u.keep b o e n hb (by simp)) (λb o _ hb _ e n=>u.slot b o e n hb (by simp)) (λb o _ e n=>u.free b o e n (by simp)) (λb o _ e=>u.there b o e (by simp)) u.d8 u.dR u.d9 (λm' hm=>by obtain⟨o',u7,k6,gU,r'⟩:=hm;rw[ho]at gU;cases gU;exact⟨_,u7,k6,hL,r'⟩) aP I.bare
theorem Inv.call{g':Array GenState}{t':Nat}{d':Drawn}{ch:List Addr}(I:Inv X Uf σ H s)(u:Un (df X.stack) ch H H' s.heap h')(aP:di X.prog X.w H' h')(hg:AllBare g')
  (nE:∀ b∈ch,(b∈X.ex\/X.aC.heap.objs.size<=b)/\b≠X.env.locals/\(∀ x c,X.env.cells.lookup x=some c->c≠b)/\∀ p∈X.pn++Uf,p.1≠b) :
  Inv X Uf σ H' { s with heap:=h',gens:=g',drawn:=d',toks:=t' }:=by
 obtain⟨m,⟨o,es,ep,ho,r⟩,_⟩:=id I.loc;obtain⟨sl,hL⟩:=u.any ho I.free λz=>(nE _ z).2.1 rfl;exact I.step (ch:=ch) nE (λb o hL hb hc e n=>u.keep b o e n (λz=>(Qr.mp (I.iG b z)).elim hL hb) hc) (λb o _ _ hc e n=>u.any e n hc) (λb o hc e n=>u.free b o e n hc) (λb o hc e=>u.there b o e hc) u.d8 u.dR u.d9 (λm' hm=>by obtain⟨o',u7,k6,gU,r'⟩:=hm;rw[ho]at gU;cases gU;exact⟨_,u7,k6,hL,r'⟩) aP hg
theorem Inv.turned{t':Nat}(I:Inv X Uf σ H s)(k:∀ b o,b≠it->s.heap.get? b=some o->h'.get? b=some o)(hn:H it=none)(hL:it≠X.env.locals)
  (h1:it∈X.ex\/X.aC.heap.objs.size<=it) (h2:∀ x c,X.env.cells.lookup x=some c->c≠it) (h3:∀ p∈X.pn++Uf,p.1≠it):Inv X Uf σ H { s with heap:=h',toks:=t' }:=by
 have u9:∀ b u,H b=some u->b≠it:=λb u e z=>by rw[z,hn]at e;cases e
 refine I.step (g':=s.gens) (d':=s.drawn) (ch:=[it]) (λb hb=>?_) (λb o _ _ hc e _=>k b o (λz=>hc (by simp[z])) e) (λb o _ _ hc e _=>⟨o.slots,k b o (λz=>hc (by simp[z])) e⟩) (λ_ _ _ _ n=>n)
  (λb o hc e=>⟨o,k b o (λz=>hc (by simp[z])) e⟩) (λ_ _ e=>e) (λ_ _ _ e=>e) (λb ps e=>⟨#[],by rw[e];simp⟩) (λm hm=>?_) (λb u e=>?_) I.bare
 .have e:b=it:=by simpa using hb
  subst e;exact⟨h1,hL,h2,h3⟩
 .obtain⟨o,es,ep,ho,r⟩:=hm;exact⟨o,es,ep,k _ o (Jn hL) ho,r⟩
 .refine(I.aP b u e).fT (λc v hc q=>k c v ?_ q) (λ_ q=>q) λ_ _ q=>q;rcases hc with z|z
  .rw[z];exact u9 b u e
  .exact u9 c _ z
theorem Inv.tok(I:Inv X Uf σ H s)(t:Nat):Inv X Uf σ H { s with toks:=t }:=I.un (h':=s.heap) (t':=t) Un.refl I.aP
theorem Inv.kept{t':Nat}(I:Inv X Uf σ H s)(k:∀ b u,s.heap.get? b=some u->h'.get? b=some u):Inv X Uf σ H { s with heap:=h',toks:=t' }:=I.un (Un.kept k) (I.aP.kept k)
theorem Inv.laid{o:HO}{t':Nat}(I:Inv X Uf σ H s)(k:∀ b u,s.heap.get? b=some u->h'.get? b=some u)(hp:s.heap.objs.size<=a)(new:dh X.prog X.w (upd H a o) h' a o) :
  Inv X Uf σ (upd H a o) { s with heap:=h',toks:=t' }:=I.un (Un.laid k hp (I.aP.fresh hp)) (I.aP.laid k hp new)
theorem Inv.write{x e:Addr}{o:HO}{t':Nat}(I:Inv X Uf σ H s)(mu:uY (H x))(he:e=x\/H e=some (.own x))(k:∀ b u,b≠e->s.heap.get? b=some u->h'.get? b=some u)(tH:∃ u,h'.get? e=some u)
  (new:dh X.prog X.w (upd H x o) h' x o):Inv X Uf σ (upd H x o) { s with heap:=h',toks:=t' }:=I.un (Un.write mu he k tH) (I.aP.write mu he k tH new)
theorem Inv.weak{aT:List (Option V)}(I:Inv X Uf σ H s)(hl:aT.length=σ.length)(w:∀ (i:Nat) v,aT[i]? = some (some v)->σ[i]? = some (some v)):Inv X Uf aT H s:=
 ⟨I.ok,I.os,I.bare,I.base,let ⟨m,hn,qY⟩:=I.loc;⟨m,hn,λi x v e1 e2 e3=>qY i x v e1 (w i v e2) e3⟩,I.cell,I.free,I.cT,I.pin,I.aP,hl.trans I.len⟩
theorem Inv.gi{pins':List (Addr×Obj)}(I:Inv X Uf σ H s)(h:∀ p∈pins',s.heap.get? p.1=some p.2/\H p.1=none/\p.1≠X.env.locals/\p.1 ∉ X.fs/\∀ v,p.2.data ≠ .cell v):Inv X pins' σ H s:=
 ⟨I.ok,I.os,I.bare,I.base,I.loc,I.cell,I.free,I.cT,λp hp=>(QI.mp hp).elim (λz=>I.pin p (Qx _ z)) (h p),I.aP,I.len⟩
theorem zS(hN:N.Nodup)(a:N[i]? = some x)(b:N[j]? = some x):i=j:=by obtain⟨h1,e1⟩:=Qq.mp a;obtain⟨h2,e2⟩:=Qq.mp b;exact(List.getElem_inj hN).mp (e1.trans e2.symm)
theorem El{M:Model}{A:Around}{E:Tk}{v:V}(I:Inv X Uf σ H s)(hN:X.N.Nodup)(hi:X.N[i]? = some x)(hx:Loc X.env.scope x)(r:bT v u)
  (h:∀ s',Inv X Uf (σ.set i (some v)) H s'->(∃ a,Heap.SameBut a s.heap s'.heap/\(a=X.env.locals\/X.env.cells.lookup x=some a))->Q () s') (hf:X.fn x=true\/X.env.scope.names.lookup x=some .local:=by first|exact .inl rfl|exact .inr rfl|assumption):wpAny M A (storeName X.env x u) Q E s:=by
 obtain⟨m,hn,hl⟩:=id I.loc;have qZ:(X.env.scope.kind == .class||(X.env.scope.kind == .module&&X.env.locals != X.env.globals))=false:=by rw[I.ok.kind];rfl
 have k7:i<σ.length:=by rw[I.len];exact(Qq.mp hi).1
 have mr:=I.mr;have tracked:∀ {a:Addr} {h':Heap},(∃ o,s.heap.get? a=some o/\H a=none)->Heap.SameBut a s.heap h'->di X.prog X.w H h':=λ{a h'} ha hs b ob e=>by
  obtain⟨_,_,pM⟩:=ha;refine(I.aP b ob e).fT (λc w' hc q=>(hs.2 c ?_).trans q) (λ_ q=>q) λ_ _ q=>q;rintro rfl;rcases hc with rfl|hc
  .rw[pM]at e;cases e
  .rw[pM]at hc;cases hc
 rcases hx with hk|hk
 .refine wpAny_storeName_local hk hn (λh' oq hs=>?_) qZ;obtain⟨oL,_,_,tK,_⟩:=id hn;refine h _ ⟨I.ok,I.os,I.bare,⟨λb o e n hb hx=>?_,λb o e n hb hx=>?_,I.base.free,λb o e hx=>?_,I.base.d8,I.base.dR,I.base.d9⟩,⟨_,oq,λj y v' e1 e2 e3=>?_⟩,λy c e=>?_,I.free,I.cT,λp hp=>?_,tracked ⟨oL,tK,I.free⟩ hs,by simpa using I.len⟩ ⟨_,hs,.inl rfl⟩
  .exact(hs.2 b (QH (Qo (Qn e) I.ok.above))).trans (I.base.keep b o e n hb hx)
  .obtain⟨sl,e1⟩:=I.base.slot b o e n hb hx;exact⟨sl,(hs.2 b (QH (Qo (Qn e) I.ok.above))).trans e1⟩
  .obtain⟨o',e1⟩:=I.base.there b o e hx;exact⟨o',(hs.2 b (QH (Qo (Qn e) I.ok.above))).trans e1⟩
  .by_cases hj:j=i
   .subst hj;rw[hi]at e1;cases e1;rw[Qz k7]at e2;cases e2;exact⟨u,r,.inl ⟨hk,by simp⟩⟩
   .rw[Qy (Jn hj)]at e2;obtain⟨u',r',q⟩:=hl j y v' e1 e2 e3;refine⟨u',r',?_⟩;rcases q with⟨k,e⟩|⟨k,c,e,z⟩
    .refine .inl ⟨k,?_⟩;have:y≠x:=λe=>hj (zS hN e1 (e ▸ hi));simp[this,e]
    .exact .inr ⟨k,c,e,z.sameBut hs (mr y c e)⟩
  .obtain⟨w',z⟩:=I.cell y c e;exact⟨w',z.sameBut hs (mr y c e)⟩
  .obtain⟨e,n,ne,nf,d⟩:=I.pin p hp;exact⟨(hs.2 p.1 ne).trans e,n,ne,nf,d⟩
 .have zT:X.fn x=true:=by
   rcases hf with z|z
   .exact z
   .rw[z]at hk;cases hk
  obtain⟨c,hc⟩:=I.ok.has x (.inl hk);obtain⟨w',z⟩:=I.cell x c hc;refine wpAny_storeName_cell I.ok.kind hk hc z (λh' kq hs=>?_);obtain⟨oc,xS,zU⟩:=id z;refine h { s with heap:=h' } ⟨I.ok,I.os,I.bare,⟨λb o e n hb hx=>?_,λb o e n hb hx=>?_,I.base.free,λb o e hx=>?_,I.base.d8,I.base.dR,I.base.d9⟩,⟨m,hn.sameBut hs (Jn (mr x c hc)),λj y v' e1 e2 e3=>?_⟩,λy c' e=>?_,I.free,I.cT,λp hp=>?_,tracked ⟨oc,xS,I.cT x c hc⟩ hs,by simpa using I.len⟩ ⟨c,hs,.inr hc⟩
  .exact(hs.2 b (QH (Qo (Qn e) (I.ok.tJ x c zT hc)))).trans (I.base.keep b o e n hb hx)
  .obtain⟨sl,e1⟩:=I.base.slot b o e n hb hx;exact⟨sl,(hs.2 b (QH (Qo (Qn e) (I.ok.tJ x c zT hc)))).trans e1⟩
  .obtain⟨o',e1⟩:=I.base.there b o e hx;exact⟨o',(hs.2 b (QH (Qo (Qn e) (I.ok.tJ x c zT hc)))).trans e1⟩
  .by_cases hj:j=i
   .subst hj;rw[hi]at e1;cases e1;rw[Qz k7]at e2;cases e2;exact⟨u,r,.inr ⟨.inl hk,c,hc,kq⟩⟩
   .rw[Qy (Jn hj)]at e2;obtain⟨u',r',q⟩:=hl j y v' e1 e2 e3;refine⟨u',r',?_⟩;rcases q with q|⟨k,c',e,z'⟩
    .exact .inl q
    .refine .inr ⟨k,c',e,z'.sameBut hs ?_⟩;rintro rfl;exact hj (zS hN e1 (I.ok.inj _ _ _ e hc ▸ hi))
  .by_cases Em:c'=c
   .subst Em;exact⟨_,kq⟩
   .obtain⟨w2,z2⟩:=I.cell y c' e;exact⟨w2,z2.sameBut hs Em⟩
  .obtain⟨e,n,ne,nf,d⟩:=I.pin p hp;refine⟨(hs.2 p.1 ?_).trans e,n,ne,nf,d⟩;intro q;rw[q,xS]at e;have q':oc=p.2:=QJ e;exact d w' (by rw[<- q'];exact zU)
theorem zV{M:Model}{A:Around}{E:Tk}{v:V}(I:Inv X Uf σ H s)(hN:X.N.Nodup)(hi:X.N[i]? = some x)(hx:Loc X.env.scope x)(r:bT v u)
  (h:∀ s',Inv X Uf (σ.set i (some v)) H s'->Q () s') (hf:X.fn x=true\/X.env.scope.names.lookup x=some .local:=by first|exact .inl rfl|exact .inr rfl|assumption):wpAny M A (storeName X.env x u) Q E s:=
 El I hN hi hx r (λs' I' _=>h s' I') hf
theorem Inv.mv{ch:List Addr}(I:Inv X Uf σ H s)(ho:s'.os=s.os)(u:Un (df X.stack) ch H H' s.heap s'.heap)(aP:di X.prog X.w H' s'.heap)(hg:AllBare s'.gens)
  (nE:∀ b∈ch,(b∈X.ex\/X.aC.heap.objs.size<=b)/\b≠X.env.locals/\(∀ x c,X.env.cells.lookup x=some c->c≠b)/\∀ p∈X.pn++Uf,p.1≠b):Inv X Uf σ H' s':=by obtain⟨h',g',d',t',o'⟩:=s';have e:o'=s.os:=ho;subst e;exact I.call (g':=g') (t':=t') (d':=d') u aP hg nE
end
abbrev XK:=Value->Option Addr->Hp->Prop
abbrev St:=List (Option V)
abbrev VK:=V->Hp->Prop
abbrev TE:=St->Hp->VK->Prop
abbrev TT:=St->Hp->(Bool->Hp->Prop)->Prop
abbrev TA:=St->Hp->(List V->Hp->Prop)->Prop
structure Ends where
 nx:St->Hp->Prop
 rt:VK
 bk:St->Hp->Prop:=λ_ _=>False
 ct:St->Hp->Prop:=λ_ _=>False
abbrev TS:=Ends->St->Hp->Prop
def EP (X:Cx)(Uf:List (Addr×Obj))(σ:St)(Q:VK)(u:Value)(s':Shared):Prop:=∃ v H',Inv X Uf σ H' s'/\bT v u/\Q v H'
def TP (X:Cx)(Uf:List (Addr×Obj))(σ:St)(Q:Bool->Hp->Prop)(b:Bool)(s':Shared):Prop:=∃ H',Inv X Uf σ H' s'/\Q b H'
def AP (X:Cx)(Uf:List (Addr×Obj))(σ:St)(Q:List V->Hp->Prop)(us:List Value)(s':Shared):Prop:=∃ vs H',Inv X Uf σ H' s'/\bo vs us/\Q vs H'
def SP (X:Cx)(Uf:List (Addr×Obj))(D:Ends)(f:Flow)(s':Shared):Prop:=
 match f with
 | .next=>∃ aT H',Inv X Uf aT H' s'/\D.nx aT H'
 | .brk=>∃ aT H',Inv X Uf aT H' s'/\D.bk aT H'
 | .cont=>∃ aT H',Inv X Uf aT H' s'/\D.ct aT H'
 | .ret u=>∃ v aT H',Inv X Uf aT H' s'/\bT v u/\D.rt v H'
def PE (X:Cx)(e:Expr)(t:TE):Prop:=
 ∀ (Uf:List (Addr×Obj)) (s:Shared) (σ:St) (H:Hp) (Q:VK),Inv X Uf σ H s->t σ H Q->wpAny (model X.prog X.w) X.A (eval e X.env) (EP X Uf σ Q) X.xe s
structure QE (X:Cx) (e:Expr) (t:TE):Prop where mk::o:PE X e t
def PT (X:Cx)(e:Expr)(t:TT):Prop:=
 ∀ (Uf:List (Addr×Obj)) (s:Shared) (σ:St) (H:Hp) (Q:Bool->Hp->Prop),Inv X Uf σ H s->t σ H Q->wpAny (model X.prog X.w) X.A (isTrue e X.env (eval e X.env)) (TP X Uf σ Q) X.xe s
def PW (X:Cx)(e:Expr)(t:TT):Prop:=
 ∀ (whole:Sem Value) (Uf:List (Addr×Obj)) (s:Shared) (σ:St) (H:Hp) (Q:Bool->Hp->Prop),Inv X Uf σ H s->t σ H Q->wpAny (model X.prog X.w) X.A (isTrue e X.env whole) (TP X Uf σ Q) X.xe s
theorem PW.pt{X:Cx}{e:Expr}{t:TT}(h:PW X e t):PT X e t:=h _
def PA (X:Cx)(es:List Expr)(t:TA):Prop:=
 ∀ (pos:Pos) (Uf:List (Addr×Obj)) (s:Shared) (σ:St) (H:Hp) (Q:List V->Hp->Prop),Inv X Uf σ H s->t σ H Q->wpAny (model X.prog X.w) X.A (spliced (backTo pos (starEach es X.env))) (AP X Uf σ Q) X.xe s
def PS (X:Cx)(st:Stmt)(t:TS):Prop:=
 ∀ (Uf:List (Addr×Obj)) (s:Shared) (σ:St) (H:Hp) (D:Ends),Inv X Uf σ H s->t D σ H->wpAny (model X.prog X.w) X.A (exec st X.env) (SP X Uf D) X.xe s
def gV (X:Cx)(st:List Stmt)(t:TS):Prop:=
 ∀ (Uf:List (Addr×Obj)) (s:Shared) (σ:St) (H:Hp) (D:Ends),Inv X Uf σ H s->t D σ H->wpAny (model X.prog X.w) X.A (execs st X.env) (SP X Uf D) X.xe s
theorem bg{α:Type}{t:Sem α}{Q Q':α->Shared->Prop}(h:wpAny M A t Q E s)(hQ:∀ a s,Q a s->Q' a s):wpAny M A t Q' E s:=Zs h hQ λ_ _ x=>x
section
variable {X:Cx}
def iH (i:Nat):TE:=λσ H Q=>∃ v,σ[i]? = some (some v)/\Q v H
def tC (v:V):TE:=λ_ H Q=>Q v H
theorem LX{pos:Pos}(hN:X.N[i]? = some x)(hv:tI X.env.scope x)(hd:(x==("__debug__":Str))=false:=by decide)(gX:(x==("__classdict__":Str))=false:=by decide):PE X (.Name x pos) (iH i):=by
 intro Uf s σ H Q I h;obtain⟨v,e,h⟩:=h;obtain⟨m,hn,hl⟩:=I.loc;obtain⟨u,r,l⟩:=hl i x v hN e hv;have fin:EP X Uf σ Q u s:=⟨v,H,I,r,h⟩;rcases l with⟨hk,hm⟩|⟨hk,c,hc,kr⟩
 .exact wpAny_Name (wpAny_loadName_local I.ok.kind hk hn hm fin) hd
 .rcases hk with hk|hk
  .exact wpAny_Name (wpAny_loadName_cell I.ok.kind hk hc kr fin) hd
  .exact wpAny_Name (wpAny_loadName_free I.ok.kind hk hc kr fin gX) hd
theorem En{i j pos}:PE X (.Constant (.int i) j pos) (tC (.int i)):=λ_ _ _ H _ I h=>wpAny_Constant_int ⟨.int i,H,I.tok _,⟨_,rfl⟩,h⟩
theorem LY{b j pos}:PE X (.Constant (.bool b) j pos) (tC (.bl b)):=λ_ _ _ H _ I h=>Constant_bool ⟨.bl b,H,I,rfl,h⟩
theorem LZ{j pos}:PE X (.Constant .none j pos) (tC .aF):=λ_ _ _ H _ I h=>Constant_none ⟨.aF,H,I,rfl,h⟩
theorem xT{x j pos}:PE X (.Constant (.str x) j pos) (tC (.str x)):=λ_ _ _ H _ I h=>Calls.Constant_str ⟨.str x,H,I.tok _,⟨_,rfl⟩,h⟩
def Gl (X:Cx)(x:Str):Prop:=X.env.kindOf x=some .globalImplicit
theorem u_{E:Tk}{σ:St}{H:Hp}{pos:Pos}{Q:Tk}(I:Inv X Uf σ H s)(hg:Gl X x)(hm:X.mg x=some u)(h:Q u s)
  (hd:(x==("__debug__":Str))=false:=by decide):wpAny (model X.prog X.w) X.A (eval (.Name x pos) X.env) Q E s:=
 JT I.ok.kind hg (Calls.loadGlobal_global (by rw[I.ok.glob];exact I.mod.glob.keeps I.bk) hm h) hd
theorem tL{E:Tk}{σ:St}{H:Hp}{pos:Pos}{Q:Tk}(I:Inv X Uf σ H s)(hg:Gl X x)(hm:X.mg x=none)(hv:bootBuiltins x=some u)(h:Q u s)
  (hn:x ≠ "__name__":=by decide) (hd:(x==("__debug__":Str))=false:=by decide):wpAny (model X.prog X.w) X.A (eval (.Name x pos) X.env) Q E s:=by obtain⟨mb,h1,h2⟩:=I.mod.blt;exact JT I.ok.kind hg (Calls.loadGlobal_builtin (by rw[I.ok.glob];exact I.mod.glob.keeps I.bk) hm (by rw[I.ok.blt];exact h1.keeps I.bk) ((h2 x hn).trans hv) h) hd
theorem L6{v:V}{pos:Pos}(hg:Gl X x)(hm:X.mg x=some u)(r:bT v u)(hd:(x==("__debug__":Str))=false:=by decide):PE X (.Name x pos) (tC v):=
 λ_ _ _ H _ I h=>u_ I hg hm ⟨v,H,I,r,h⟩ hd
theorem Eo{v:V}{pos:Pos}(hg:Gl X x)(hm:X.mg x=none)(hv:bootBuiltins x=some u)(r:bT v u)(hn:x ≠ "__name__":=by decide)(hd:(x==("__debug__":Str))=false:=by decide):PE X (.Name x pos) (tC v):=
 λ_ _ _ H _ I h=>tL I hg hm hv ⟨v,H,I,r,h⟩ hn hd
variable {a b:Expr}{ta tb:TE}{pos:Pos}
variable {tA xU:TT}{bI:List Expr}
def L7 (t u:TT):TT:=λσ H Q=>t σ H λc H1=>if c=true then u σ H1 Q else Q false H1
def L8 (t u:TT):TT:=λσ H Q=>t σ H λc H1=>if c=true then Q true H1 else u σ H1 Q
def L9 (t:TT):TT:=λσ H Q=>t σ H λc H1=>Q (!c) H1
theorem L_(ha:PT X a tA):PW X (.BoolOp .And [a] pos) tA:=by
 intro wh Uf s σ H Q I h;refine isTrue_and (bg (ha Uf s σ H Q I h) λc s1 e=>?_);cases c with
 | true=>exact isTrue_and_nil e
 | false=>exact e
theorem Ma(ha:PT X a tA):PW X (.BoolOp .Or [a] pos) tA:=by
 intro wh Uf s σ H Q I h;refine isTrue_or (bg (ha Uf s σ H Q I h) λc s1 e=>?_);cases c with
 | false=>exact isTrue_or_nil e
 | true=>exact e
theorem Mb(ha:PT X a tA)(hb:PW X (.BoolOp .And (b::bI) pos) xU):PW X (.BoolOp .And (a::b::bI) pos) (L7 tA xU):=by
 intro wh Uf s σ H Q I h;refine isTrue_and (bg (ha Uf s σ H _ I h) λc s1 ao=>?_);obtain⟨H1,I1,q1⟩:=ao;cases c with
 | true=>exact hb wh Uf s1 σ H1 Q I1 q1
 | false=>exact⟨H1,I1,q1⟩
theorem Mc(ha:PT X a tA)(hb:PW X (.BoolOp .Or (b::bI) pos) xU):PW X (.BoolOp .Or (a::b::bI) pos) (L8 tA xU):=by
 intro wh Uf s σ H Q I h;refine isTrue_or (bg (ha Uf s σ H _ I h) λc s1 ao=>?_);obtain⟨H1,I1,q1⟩:=ao;cases c with
 | true=>exact⟨H1,I1,q1⟩
 | false=>exact hb wh Uf s1 σ H1 Q I1 q1
theorem Md(ha:PT X a tA):PT X (.UnaryOp .Not a pos) (L9 tA):=by intro Uf s σ H Q I h;exact isTrue_not (ha Uf s σ H (λc H1=>Q (!c) H1) I h)
def Me (ta tb:TE):TE:=λσ H Q=>ta σ H λx H1=>∃ c,x=.bl c/\if c=true then tb σ H1 Q else Q (.bl false) H1
def Mf (ta:TE):TE:=λσ H Q=>ta σ H λx H1=>∃ c,x=.bl c/\Q (.bl (!c)) H1
theorem Mg{op}{t:TE}(h:PE X a t):PE X (.BoolOp op [a] pos) t:=λUf s σ H Q I hw=>BoolOp_one (h Uf s σ H Q I hw)
theorem Mh(ha:PE X a ta)(hb:PE X (.BoolOp .And (b::bI) pos) tb):PE X (.BoolOp .And (a::b::bI) pos) (Me ta tb):=by
 intro Uf s σ H Q I h;refine BoolOp_and (bg (ha Uf s σ H _ I h) λv s1 ao=>?_);obtain⟨x,H1,I1,r1,q1⟩:=ao;obtain⟨c,rfl,q1⟩:=q1;cases r1;refine Zt ?_;cases c with
 | true=>exact hb Uf s1 σ H1 Q I1 q1
 | false=>exact⟨.bl false,H1,I1,rfl,q1⟩
theorem Mi(ha:PE X a ta):PE X (.UnaryOp .Not a pos) (Mf ta):=by intro Uf s σ H Q I h;refine UnaryOp_ (bg (ha Uf s σ H _ I h) λv s1 ao=>?_);obtain⟨x,H1,I1,r1,q1⟩:=ao;obtain⟨c,rfl,q1⟩:=q1;cases r1;exact not_of (Zt ⟨.bl (!c),H1,I1,rfl,q1⟩)
def Mj (t:TT)(ta tb:TE):TE:=λσ H Q=>t σ H λc H1=>if c=true then ta σ H1 Q else tb σ H1 Q
theorem Mk(hc:PT X c tA)(ha:PE X a ta)(hb:PE X b tb):PE X (.IfExp c a b pos) (Mj tA ta tb):=by
 intro Uf s σ H Q I h;refine wpAny_IfExp (bg (hc Uf s σ H _ I h) λd s1 ao=>?_);obtain⟨H1,I1,q1⟩:=ao;cases d with
 | true=>exact ha Uf s1 σ H1 Q I1 q1
 | false=>exact hb Uf s1 σ H1 Q I1 q1
end
def cQ (K:PySem.W.Frag)(H:Hp)(a:Addr)(xs:List V):Prop:=
 Rd H a (.lst xs) \/
  ∃ (o:Obj) (ar:Array Value) (n:Nat),K.lookup a=some o/\o.cls=.type "list" /\ o.dict=none/\o.data=.seq ar n/\ar.size<=sizeLine/\bo xs ar.toList
def du (K:PySem.W.Frag)(H:Hp)(a:Addr)(xs:List V):Prop:=
 Rd H a (.tup xs) \/
  ∃ (o:Obj) (ar:Array Value) (n:Nat),K.lookup a=some o/\o.cls=.type "tuple" /\ o.data=.seq ar n/\ar.size<=sizeLine/\bo xs ar.toList
def Ml:Value->Option V
 | .none=>some .aF
 | .bool b=>some (.bl b)
 | .int i _=>some (.int i)
 | .str x _=>some (.str x)
 | .bytes b _=>some (.uU b)
 | .float b _=>some (.tG b)
 | .ref a=>some (.ref a)
 | .type n=>some (.ty n)
 | _=>none
theorem bT.abs{x:V}(r:bT x u):Ml u=some x:=by
 cases x with
 | aF=>cases r;rfl
 | bl _=>cases r;rfl
 | int _=>obtain⟨t,rfl⟩:=r;rfl
 | str _=>obtain⟨t,rfl⟩:=r;rfl
 | uU _=>obtain⟨t,rfl⟩:=r;rfl
 | tG _=>obtain⟨t,rfl⟩:=r;rfl
 | ref _=>cases r;rfl
 | ty _=>cases r;rfl
theorem bT.inj{x y:V}(r:bT x u)(q:bT y u):x=y:=QJ (r.abs.symm.trans q.abs)
theorem bo.inj:∀ {xs ys:List V} {us:List Value},bo xs us->bo ys us->xs=ys
 | _,_,_,.nil,.nil=>rfl
 | _,_,_,.cons r t,.cons r' t'=>by rw[r.inj r',bo.inj t t']
section
variable {X:Cx}{Uf:List (Addr×Obj)}{σ:St}{H:Hp}{s:Shared}{a:Addr}{xs ys:List V}
theorem cQ.of(h:H a=some (.lst xs)):cQ K H a xs:=.inl (.inl h)
theorem du.of(h:H a=some (.tup xs)):du K H a xs:=.inl (.inl h)
theorem Inv.list(I:Inv X Uf σ H s)(h:cQ X.K H a xs):∃ ar:List Value,bo xs ar/\PlainL s.heap a ar.toArray/\xs.length<=sizeLine:=by
 rcases h with h|⟨o,ar,n,hk,hc,hd,hs,hz,r⟩
 .obtain⟨z,ar,n,r,e⟩:=h.ok I.aP;exact⟨ar,r,⟨_,n,e,rfl,rfl,rfl⟩,z⟩
 .refine⟨ar.toList,r,⟨o,n,I.fC a o hk,hc,hd,by simpa using hs⟩,?_⟩;have e:=r.length;simp only[ZD]at e;omega
theorem Inv.tuple(I:Inv X Uf σ H s)(h:du X.K H a xs):∃ ar:List Value,bo xs ar/\IsTup s.heap a ar.toArray/\xs.length<=sizeLine:=by
 rcases h with h|⟨o,ar,n,hk,hc,hs,hz,r⟩
 .obtain⟨z,ar,r,p⟩:=h.ok I.aP;exact⟨ar,r,p.tup,z⟩
 .refine⟨ar.toList,r,⟨o,I.fC a o hk,hc,n,by simpa using hs⟩,?_⟩;have e:=r.length;simp only[ZD]at e;omega
theorem Inv.jd(I:Inv X Uf σ H s)(h:cQ X.K H a xs)(h':cQ X.K H a ys):xs=ys:=by
 obtain⟨ar,r,⟨o,n,e,_,_,d⟩,_⟩:=I.list h;obtain⟨its',r',⟨o',n',e',_,_,d'⟩,_⟩:=I.list h';rw[e]at e';cases e';rw[d]at d';injection d' with d1 _;have:ar=its':=by simpa using ZR Array.toList d1
 subst this;exact r.inj r'
theorem Inv.iq(I:Inv X Uf σ H s)(h:du X.K H a xs)(h':du X.K H a ys):xs=ys:=by
 obtain⟨ar,r,⟨o,e,_,n,d⟩,_⟩:=I.tuple h;obtain⟨its',r',⟨o',e',_,n',d'⟩,_⟩:=I.tuple h';rw[e]at e';cases e';rw[d]at d';injection d' with d1 _;have:ar=its':=by simpa using ZR Array.toList d1
 subst this;exact r.inj r'
end
abbrev Cx.gY (X:Cx)(E:Tk):Cx:={ X with xe:=E }
abbrev Cx.fU (X:Cx):Cx:=X.gY λ_ _=>False
theorem Cx.Ok.gY{X:Cx}(ok:X.Ok)(E:Tk):(X.gY E).Ok:=
 ⟨ok.mod,ok.kind,ok.glob,ok.blt,ok.above,ok.inj,ok.has,ok.tJ,ok.hd,ok.frames,ok.u4,ok.xQ,ok.bs,ok.mq,ok.kZ,ok.k4,ok.fB,ok.qX⟩
theorem Cx.Ok.dI{X:Cx}(ok:(X.gY E).Ok):X.Ok:=
 ⟨ok.mod,ok.kind,ok.glob,ok.blt,ok.above,ok.inj,ok.has,ok.tJ,ok.hd,ok.frames,ok.u4,ok.xQ,ok.bs,ok.mq,ok.kZ,ok.k4,ok.fB,ok.qX⟩
section
variable {X:Cx}{Uf:List (Addr×Obj)}{σ:St}{H:Hp}{s:Shared}{E:Tk}
theorem Inv.gY(I:Inv X Uf σ H s)(E:Tk):Inv (X.gY E) Uf σ H s:=⟨I.ok.gY E,I.os,I.bare,I.base,I.loc,I.cell,I.free,I.cT,I.pin,I.aP,I.len⟩
theorem Inv.dI(I:Inv (X.gY E) Uf σ H s):Inv X Uf σ H s:=⟨I.ok.dI,I.os,I.bare,I.base,I.loc,I.cell,I.free,I.cT,I.pin,I.aP,I.len⟩
theorem SP.dI{D:Ends}{f:Flow}(h:SP (X.gY E) Uf D f s'):SP X Uf D f s':=by
 cases f with
 | next=>obtain⟨aT,H',I,q⟩:=h;exact⟨aT,H',I.dI,q⟩
 | brk=>obtain⟨aT,H',I,q⟩:=h;exact⟨aT,H',I.dI,q⟩
 | cont=>obtain⟨aT,H',I,q⟩:=h;exact⟨aT,H',I.dI,q⟩
 | ret u=>obtain⟨v,aT,H',I,r,q⟩:=h;exact⟨v,aT,H',I.dI,r,q⟩
theorem gV.fU{st:List Stmt}{t:TS}(h:gV X.fU st t):gV X st t:=λUf s σ H D I hw=>
 Zs (h Uf s σ H D (I.gY _) hw) (λ_ _ q=>q.dI) λ_ _ z=>False.elim z
end
section
variable {X:Cx}{st:Stmt}{bI:List Stmt}{t u:TS}{e:Expr}{te:TE}{pos:Pos}
def Mm:TS:=λD σ H=>D.nx σ H
def xV (t u:TS):TS:=λD σ H=>t { D with nx:=u D } σ H
theorem Mn:gV X [] Mm:=λ_ _ σ H _ I h=>Jg ⟨σ,H,I,h⟩
theorem xW(h1:PS X st t)(h2:gV X bI u):gV X (st::bI) (xV t u):=by
 intro Uf s σ H D I h;refine Jy (bg (h1 Uf s σ H { D with nx:=u D } I h) λf s1 q=>?_);cases f with
 | next=>
  obtain⟨aT,H',I',q⟩:=q;exact h2 Uf s1 aT H' D I' q
 | ret v=>exact q
 | brk=>exact q
 | cont=>exact q
theorem Ep(h1:PS X st t):gV X [st] t:=by
 intro Uf s σ H D I h;refine Jy (bg (h1 Uf s σ H D I h) λf s1 q=>?_);cases f with
 | next=>exact Jg q
 | ret v=>exact q
 | brk=>exact q
 | cont=>exact q
theorem Inv.quiet{σ:St}{H:Hp}(I:Inv X Uf σ H s):interactive X.env=false:=by simp[interactive,I.ok.kind]
def Mp (te:TE):TS:=λD σ H=>te σ H λ_ H1=>D.nx σ H1
theorem Er(he:PE X e te)(hs:swapsWith e none pos.line X.env=pure false:=by rfl):PS X (.Expr e pos) (Mp te):=by intro Uf s σ H D I h;exact wpAny_Expr_any (bg (he Uf s σ H _ I h) λv s1 ⟨x,H1,I1,r1,q1⟩=>⟨σ,H1,I1,q1⟩) I.quiet hs
def Mq (te:TE):TS:=λD σ H=>te σ H D.rt
theorem Mr(he:PE X e te):PS X (.Return (some e) pos) (Mq te):=by intro Uf s σ H D I h;exact wpAny_Return_some (bg (he Uf s σ H _ I h) λv s1 ⟨x,H1,I1,r1,q1⟩=>⟨x,σ,H1,I1,r1,q1⟩)
def Ms (c:TT)(t u:TS):TS:=λD σ H=>c σ H λb H1=>if b=true then t D σ H1 else u D σ H1
theorem Es{a b:List Stmt}{tc:TT}(hc:PT X c tc)(ha:gV X a t)(hb:gV X b u):PS X (.If c a b pos) (Ms tc t u):=by
 intro Uf s σ H D I h;refine wpAny_If (bg (hc Uf s σ H _ I h) λd s1 ao=>?_);obtain⟨H1,I1,q1⟩:=ao;cases d with
 | true=>exact ha Uf s1 σ H1 D I1 q1
 | false=>exact hb Uf s1 σ H1 D I1 q1
def Mt:TS:=λ_ _ _=>False
theorem Mu:PS X st Mt:=λ_ _ _ _ _ _ h=>h.elim
end
abbrev TG:=V->St->Hp->(St->Hp->Prop)->Prop
abbrev ot:=List V->St->Hp->(St->Hp->Prop)->Prop
def PG (X:Cx)(target:Expr)(t:TG):Prop:=
 ∀ (Uf:List (Addr×Obj)) (s:Shared) (σ:St) (H:Hp) (v:V) (u:Value) (Q:St->Hp->Prop),Inv X Uf σ H s->bT v u->t v σ H Q->
  wpAny (model X.prog X.w) X.A (assign target X.env u) (λ_ s'=>∃ aT H',Inv X Uf aT H' s'/\Q aT H') X.xe s
def nG (X:Cx)(ts:List Expr)(t:ot):Prop:=
 ∀ (Uf:List (Addr×Obj)) (s:Shared) (σ:St) (H:Hp) (vs:List V) (us:List Value) (Q:St->Hp->Prop),Inv X Uf σ H s->bo vs us->t vs σ H Q->
  wpAny (model X.prog X.w) X.A (assignInOrder ((assignEach ts X.env).map (·.2)) us) (λ_ s'=>∃ aT H',Inv X Uf aT H' s'/\Q aT H') X.xe s
abbrev zW:=V->V->V->Hp->(Hp->Prop)->Prop
def Et (X:Cx)(t:zW):Prop:=
 ∀ (Uf:List (Addr×Obj)) (s:Shared) (σ:St) (H:Hp) (o i v:V) (ov iv u:Value) (Q:Hp->Prop),Inv X Uf σ H s->bT o ov->bT i iv->bT v u->t o i v H Q->
  wpAny (model X.prog X.w) X.A (setItem ov iv u) (λ_ s'=>∃ H',Inv X Uf σ H' s'/\Q H') X.xe s
section
variable {X:Cx}{pos:Pos}
def zX (i:Nat):TG:=λv σ H Q=>Q (σ.set i (some v)) H
theorem Mv(hN:X.N.Nodup)(hi:X.N[i]? = some x)(hx:Loc X.env.scope x)(hf:X.fn x=true\/X.env.scope.names.lookup x=some .local:=by first|exact .inl rfl|exact .inr rfl|assumption):PG X (.Name x pos) (zX i):=by intro Uf s σ H v u Q I r h;exact wpAny_assign_Name (zV I hN hi hx r (λs' I'=>⟨_,H,I',h⟩) hf)
def Mw:ot:=λvs σ H Q=>vs=[]/\Q σ H
def Mx (t:TG)(u:ot):ot:=λvs σ H Q=>∃ v r,vs=v::r/\t v σ H λaT H'=>u r aT H' Q
theorem Mz:nG X [] Mw:=by intro Uf s σ H vs us Q I r h;obtain⟨e,h⟩:=h;subst e;cases r;exact assignInOrder_nil ⟨σ,H,I,h⟩
theorem MA{e:Expr}{t:TG}{u:ot}(h1:PG X e t)(h2:nG X es u)
  (hs:(assignEach (e::es) X.env).map (·.2)=assign e X.env::(assignEach es X.env).map (·.2):=by rfl):nG X (e::es) (Mx t u):=by
 intro Uf s σ H vs us Q I r h;obtain⟨v,vr,e1,h⟩:=h;subst e1;cases r with
 | cons r rr=>
  rw[hs];refine assignInOrder_cons (bg (h1 Uf s σ H _ _ _ I r h) λ_ s1 ao=>?_);obtain⟨pN,H1,I1,q1⟩:=ao;exact h2 Uf s1 pN H1 _ _ Q I1 rr q1
def MB (K:PySem.W.Frag)(n:Nat)(t:ot):TG:=λv σ H Q=>∃ a xs,v=.ref a/\du K H a xs/\xs.length=n/\t xs σ H Q
theorem MC{k:Nat}{t:ot}(hc:X.calm=true)(h:nG X es t)
  (hn:(assignEach es X.env).length=n:=by rfl) (iI:(assignEach es X.env).findIdx? (·.1)=none:=by rfl):PG X (.Tuple es k pos) (MB X.K n t):=by intro Uf s σ H v u Q I r hw;obtain⟨a,xs,e1,hq,hl,hw⟩:=hw;subst e1;cases r;obtain⟨ar,rv,ht,hz⟩:=I.tuple hq;refine assign_Tuple_tuple (I.ok.hd hc) ht (by simp[hn,<- hl,rv.length]) iI λh' hx=>?_;have I1:Inv X Uf σ H { s with heap:=h' }:=I.kept (t':=s.toks) λb o e=>hx b o (QH (Qn e)) e;exact h Uf _ σ H xs _ Q I1 (by simpa using rv) hw
def MD (to ti:TE)(t:zW):TG:=λv σ H Q=>to σ H λo H1=>ti σ H1 λi H2=>t o i v H2 λH3=>Q σ H3
theorem Eu{o i:Expr}{to ti:TE}{t:zW}(ho:PE X o to)(hi:PE X i ti)(hs:Et X t)
  (ha:∀ v,assign (.Subscript o i pos) X.env v=(do
    let ov <- holding [v] (eval o X.env)
    let iv <- holding [v,ov] (eval i X.env)
    standAt pos
    holding [v,ov,iv] (setItem ov iv v)
    release [v,ov,iv] []):=by intro _;rfl):PG X (.Subscript o i pos) (MD to ti t):=by intro Uf s σ H v u Q I r h;rw[ha];refine Qa (Zk (bg (ho Uf s σ H _ I h) λov s1 ao=>?_));obtain⟨x,H1,I1,r1,q1⟩:=ao;refine Qa (Zk (bg (hi Uf s1 σ H1 _ I1 q1) λiv s2 ao=>?_));obtain⟨y,H2,I2,r2,q2⟩:=ao;refine Qa (wpAny_standAt (Qa (Zk (bg (hs Uf s2 σ H2 x y v ov iv u _ I2 r1 r2 r q2) λ_ s3 ao=>?_))));obtain⟨H3,I3,q3⟩:=ao;exact wpAny_release ⟨σ,H3,I3,q3⟩
def zY (te:TE)(g:TG):TS:=λD σ H=>te σ H λx H1=>g x σ H1 D.nx
theorem zZ{e:Expr}{te:TE}{g:TG}(he:PE X e te)(hg:PG X tg g)(hs:swapsWithSole [tg] e pos.line X.env=pure false:=by rfl)(hw:swappedStores [tg] e X.env=pure none:=by rfl)
  (h1:(assignEach [tg] X.env).map (·.2)=[assign tg X.env]:=by rfl):PS X (.Assign [tg] e pos) (zY te g):=by intro Uf s σ H D I h;refine wpAny_Assign_stores (bg (he Uf s σ H _ I h) λv s1 ⟨x,H1,I1,r1,q1⟩=>?_) hs hw;rw[h1];exact bg (hg Uf s1 σ H1 x v _ I1 r1 q1) λ_ s2 q=>q
theorem Ew{e:Expr}{te:TE}{pos':Pos}(hN:X.N.Nodup)(hi:X.N[i]? = some x)(hx:Loc X.env.scope x)(he:PE X e te)(hs:swapsWith e (some (.Name x pos')) pos.line X.env=pure false:=by rfl)(hf:X.fn x=true\/X.env.scope.names.lookup x=some .local:=by first|exact .inl rfl|exact .inr rfl|assumption) :
  PS X (.Assign [.Name x pos'] e pos) (zY te (zX i)):=by intro Uf s σ H D I h;refine wpAny_Assign_Name (bg (he Uf s σ H _ I h) λv s1 ⟨y,H1,I1,r1,q1⟩=>?_) hs;exact zV I1 hN hi hx r1 (λs2 I2=>⟨_,H1,I2,q1⟩) hf
def ME (c:TT)(tb:TS):TS:=λD σ H=>∃ W:Nat->St->Hp->Prop,(∃ m,W m σ H)/\∀ m σ H,W m σ H->
 c σ H λb H1=>if b=true then ∃ N:St->Hp->Prop,(∀ aT H',N aT H'->∃ m',m'<m/\W m' aT H')/\tb { D with nx:=N,ct:=N,bk:=D.nx } σ H1 else D.nx σ H1
theorem MF{tc:TT}{tb:TS}(hp:PassesOwn (model X.prog X.w) X.A X.env X.xe)(hc:PT X c tc)(hb:gV X body tb):PS X (.While c body [] pos) (ME tc tb):=by
 intro Uf s σ H D I h;obtain⟨W,⟨m0,w0⟩,turn⟩:=h;refine wpAny_While (codeAny_whileLoop (λn s'=>∃ aT H',Inv X Uf aT H' s'/\W n aT H') ?_ m0 ⟨σ,H,I,w0⟩);rintro n s1 ⟨pN,H1,I1,w1⟩;refine ZK hp (bg (hc Uf s1 pN H1 _ I1 (turn n pN H1 w1)) λb s2 ao=>?_);obtain⟨H2,I2,q2⟩:=ao;cases b with
 | true=>
  obtain⟨N,hN,q2⟩:=q2;rw[Ql rfl];refine ZK hp (bg (hb Uf s2 pN H2 _ I2 q2) λf s3 q3=>?_);cases f with
  | next=>
   obtain⟨lS,H3,I3,n3⟩:=q3;obtain⟨m',hm,w3⟩:=hN lS H3 n3;exact⟨m',hm,lS,H3,I3,w3⟩
  | cont=>
   obtain⟨lS,H3,I3,n3⟩:=q3;obtain⟨m',hm,w3⟩:=hN lS H3 n3;exact⟨m',hm,lS,H3,I3,w3⟩
  | brk=>exact q3
  | ret v=>exact q3
 | false=>
  rw[Qt Zy];exact Jg ⟨pN,H2,I2,q2⟩
end
structure It where
 go:Nat->Hp->Prop
 q8:Nat->Hp->V->Hp->Prop
 stop:Nat->Hp->Prop
def mw (X:Cx)(Uf:List (Addr×Obj))(H:Hp)(b:Addr):Prop:=
 H b=none/\b≠X.env.locals/\b ∉ X.fs/\(b∈X.ex\/X.aC.heap.objs.size<=b)/\(∀ x c,X.env.cells.lookup x=some c->c≠b)/\∀ p∈X.pn++Uf,p.1≠b
theorem Inv.ou{X:Cx}{σ:St}{H H':Hp}(I:Inv X Uf σ H s)(hb:s.heap.objs.size<=b)(hn:H' b=none):mw X Uf H' b:=by
 refine⟨hn,Y4 (Qo I.lt hb),I.u5 hb,.inr (QF I.sz hb),λx c e z=>?_,λp hp z=>?_⟩
 .obtain⟨v,q⟩:=I.cell x c e;exact absurd (Qo q.lt (by rw[z];exact hb)) (QT _)
 .exact absurd (Qo (Qn (I.pin p hp).1) (by rw[z];exact hb)) (QT _)
structure Turn (P:Program) (w:World) (K:PySem.W.Frag) (tg:Expr) (J:It) (fp:List Addr) (it:Addr) (tn:Nat->Heap->Prop):Prop where
 mem:it∈fp
 obj:∀ i h,tn i h->∀ b∈fp,∃ o,h.get? b=some o/\∀ v,o.data ≠ .cell v
 keep:∀ i h h',tn i h->(∀ b∈fp,∀ o,h.get? b=some o->h'.get? b=some o)->tn i h'
 item:∀ (X:Cx),X.prog=P->X.w=w->X.K=K->X.calm=true->∀ (i:Nat) (Uf:List (Addr×Obj)) (s:Shared) (σ:St) (H:Hp) (E:Tk),Inv X Uf σ H s->(∀ b∈fp,mw X Uf H b)->tn i s.heap->J.go i H->
  wpAny (model P w) X.A (pyNext (.ref it)) (λr s1=>∃ u,r=some u /\
   wpAny (model P w) X.A (letOwnedTupleGo tg (.ref it) u) (λ_ s2=>∃ x H',Inv X Uf σ H' s2/\bT x u/\J.q8 i H x H'/\tn (i+1) s2.heap/\∀ b∈fp,H' b=none) E s1) E s
 done:∀ (X:Cx),X.prog=P->X.w=w->X.K=K->X.calm=true->∀ (i:Nat) (Uf:List (Addr×Obj)) (s:Shared) (σ:St) (H:Hp) (E:Tk),Inv X Uf σ H s->(∀ b∈fp,mw X Uf H b)->tn i s.heap->J.stop i H->
  wpAny (model P w) X.A (pyNext (.ref it)) (λr s1=>r=none/\Inv X Uf σ H s1) E s
 self:∀ (A:Around) (i:Nat) (s:Shared) (Q:Tk) (E:Tk),tn i s.heap->Q (.ref it) s->wpAny (model P w) A (pyIter (.ref it)) Q E s
abbrev TI:=St->Hp->(It->Hp->Prop)->Prop
def z_ (X:Cx)(Uf:List (Addr×Obj))(σ:St)(tg:Expr)(R:It->Hp->Prop)(xX:Value)(s2:Shared):Prop:=
 ∃ (it:Addr) (fp:List Addr) (tn:Nat->Heap->Prop) (J:It) (H':Hp),xX=.ref it/\Inv X Uf σ H' s2/\Turn X.prog X.w X.K tg J fp it tn/\tn 0 s2.heap/\(∀ b∈fp,mw X Uf H' b)/\R J H'
def PI (X:Cx)(tg iter:Expr)(wi:TI):Prop:=
 ∀ (Uf:List (Addr×Obj)) (s:Shared) (σ:St) (H:Hp) (R:It->Hp->Prop),Inv X Uf σ H s->wi σ H R->
  wpAny (model X.prog X.w) X.A (eval iter X.env) (λv s1=>wpAny (model X.prog X.w) X.A (pyIter v) (z_ X Uf σ tg R) X.xe s1) X.xe s
theorem Aa{n:String}{vs:Array Value}(ho:s.heap.get? it=some o)(hc:o.cls=.type n)(hd:o.data=.fields vs)
  (hn:["enumerate","zip","dict_itemiterator","dict_reverseitemiterator","odict_iterator","itertools.zip_longest","itertools.pairwise"].contains n=false) (hQ:Q () s):wpAny M A (letOwnedTupleGo tg (.ref it) u) Q E s:=by
 unfold letOwnedTupleGo;cases tg<;>first
  | exact Qe hQ
  | (cases u<;>first
      | exact Qe hQ
      | (refine Qa (wpAny_load ho ?_)
         rw[hc,hd];show wpAny M A (if(["enumerate","zip","dict_itemiterator","dict_reverseitemiterator","odict_iterator","itertools.zip_longest","itertools.pairwise"].contains n&&vs[0]? == some (rawInt _))=true then _ else _) Q E s;rw[Qt (by intro h;rw[hn,Bool.false_and]at h;cases h)];exact Qe hQ))
def Ab (K:PySem.W.Frag)(a:Addr):It:=
 ⟨λi H=>∃ xs x,cQ K H a xs/\xs[i]? = some x,λi H x H'=>H'=H/\∀ xs,cQ K H a xs->xs[i]? = some x,λi H=>∃ xs,cQ K H a xs/\xs.length<=i⟩
def Ac (K:PySem.W.Frag)(a:Addr):It:=
 ⟨λi H=>∃ xs x,du K H a xs/\xs[i]? = some x,λi H x H'=>H'=H/\∀ xs,du K H a xs->xs[i]? = some x,λi H=>∃ xs,du K H a xs/\xs.length<=i⟩
def xY (lo:Int)(n:Nat):It:=⟨λi _=>i<n,λi H x H'=>H'=H/\x=.int (lo+i),λi _=>n<=i⟩
theorem MG(a it:Addr):Turn P w K tg (Ab K a) [it] it (λi h=>h.IsListIter it a i) where
 mem:=by simp
 obj:=λi h st b hb=>by
  have e:b=it:=by simpa using hb
  subst e;obtain⟨o,e,c,d⟩:=st;exact⟨o,e,λv z=>by rw[d]at z;cases z⟩
 keep:=λi h h' st k=>st.at λo e=>k it (by simp) o e
 item:=by intro X hP hw hK hc i Uf s σ H E I hf st hg;subst hP hw hK;obtain⟨xs,x,hq,hx⟩:=hg;obtain⟨ar,rv,p,hz⟩:=I.list hq;obtain⟨u,hu,ru⟩:=rv.get hx;obtain⟨f0,f1,f2,f3,f4,f5⟩:=hf it (by simp);refine wpAny_pyNext_list_item st p.isList (x:=u) (by simpa using hu) λh' nH sb=>?_;have I1:Inv X Uf σ H { s with heap:=h' }:=I.turned (t':=s.toks) (λb o hb e=>(sb.2 b hb).trans e) f0 f1 f3 f4 f5;obtain⟨o,e,c,d⟩:=id nH;exact⟨u,rfl,Aa (s:={ s with heap:=h' }) e c d (by decide) ⟨x,H,I1,ru,⟨rfl,λys hy=>by rw[I.jd hy hq];exact hx⟩,nH,λb hb=>(hf b hb).1⟩⟩
 done:=by intro X hP hw hK hc i Uf s σ H E I hf st hg;subst hP hw hK;obtain⟨xs,hq,hx⟩:=hg;obtain⟨ar,rv,p,hz⟩:=I.list hq;obtain⟨f0,f1,f2,f3,f4,f5⟩:=hf it (by simp);have hl:=rv.length;exact wpAny_pyNext_list_end (I.ok.hd hc) st p.isList (by simp;omega) λh' eb=>⟨rfl,I.turned (t':=s.toks) (λb o hb e=>eb b o hb e) f0 f1 f3 f4 f5⟩
 self:=λ_ _ _ _ _ st h=>wpAny_pyIter_listiter st h
theorem MH(a it:Addr):Turn P w K tg (Ac K a) [it] it (λi h=>h.IsTupleIter it a i) where
 mem:=by simp
 obj:=λi h st b hb=>by
  have e:b=it:=by simpa using hb
  subst e;obtain⟨o,e,c,d⟩:=st;exact⟨o,e,λv z=>by rw[d]at z;cases z⟩
 keep:=λi h h' st k=>st.at λo e=>k it (by simp) o e
 item:=by intro X hP hw hK hc i Uf s σ H E I hf st hg;subst hP hw hK;obtain⟨xs,x,hq,hx⟩:=hg;obtain⟨ar,rv,p,hz⟩:=I.tuple hq;obtain⟨u,hu,ru⟩:=rv.get hx;obtain⟨f0,f1,f2,f3,f4,f5⟩:=hf it (by simp);refine wpAny_pyNext_tuple_item st (show s.heap.IsTuple a ar.toArray from p) (x:=u) (by simpa using hu) λh' nH sb=>?_;have I1:Inv X Uf σ H { s with heap:=h' }:=I.turned (t':=s.toks) (λb o hb e=>(sb.2 b hb).trans e) f0 f1 f3 f4 f5;obtain⟨o,e,c,d⟩:=id nH;exact⟨u,rfl,Aa (s:={ s with heap:=h' }) e c d (by decide) ⟨x,H,I1,ru,⟨rfl,λys hy=>by rw[I.iq hy hq];exact hx⟩,nH,λb hb=>(hf b hb).1⟩⟩
 done:=by intro X hP hw hK hc i Uf s σ H E I hf st hg;subst hP hw hK;obtain⟨xs,hq,hx⟩:=hg;obtain⟨ar,rv,p,hz⟩:=I.tuple hq;obtain⟨f0,f1,f2,f3,f4,f5⟩:=hf it (by simp);have hl:=rv.length;exact wpAny_pyNext_tuple_end (I.ok.hd hc) st (show s.heap.IsTuple a ar.toArray from p) (by simp;omega) λh' eb=>⟨rfl,I.turned (t':=s.toks) (λb o hb e=>eb b o hb e) f0 f1 f3 f4 f5⟩
 self:=λ_ _ _ _ _ st h=>wpAny_pyIter_tupleiter st h
theorem MI(it:Addr)(lo:Int)(n:Nat):Turn P w K tg (xY lo n) [it] it (λi h=>IsRangeIter h it (lo+(i:Nat)*1) ((n:Int)-(i:Nat)) 1) where
 mem:=by simp
 obj:=λi h st b hb=>by
  have e:b=it:=by simpa using hb
  subst e;exact⟨_,st,λv z=>by have z':Data.fields _=Data.cell v:=z;cases z'⟩
 keep:=λi h h' st k=>k it (by simp) _ st
 item:=by intro X hP hw hK hc i Uf s σ H E I hf st hg;subst hP hw hK;obtain⟨f0,f1,f2,f3,f4,f5⟩:=hf it (by simp);have W:=Walks.range (prog:=X.prog) (w:=X.w) (I.ok.hd hc) it lo 1 n;refine W.item i s _ _ hg st λv h' tk hv nH kk=>?_;obtain⟨t,rfl⟩:=hv;have I1:Inv X Uf σ H { s with heap:=h',toks:=tk }:=I.turned (λb o hb e=>kk b o (by simpa using hb) e) f0 f1 f3 f4 f5;refine⟨_,rfl,Aa (s:={ s with heap:=h',toks:=tk }) (n:="range_iterator") nH rfl rfl (by decide) ⟨.int (lo+i),H,I1,⟨t,?_⟩,⟨rfl,rfl⟩,nH,λb hb=>(hf b hb).1⟩⟩;rw[Int.mul_one]
 done:=by intro X hP hw hK hc i Uf s σ H E I hf st hg;subst hP hw hK;obtain⟨f0,f1,f2,f3,f4,f5⟩:=hf it (by simp);exact wpAny_pyNext_range_end (I.ok.hd hc) st (by have:n<=i:=hg;omega) λh' eb=>⟨rfl,I.turned (t':=s.toks) (λb o hb e=>eb b o hb e) f0 f1 f3 f4 f5⟩
 self:=λ_ _ _ _ _ st h=>wpAny_pyIter_rangeiter st h
section
variable {X:Cx}{tg:Expr}
theorem MJ{σ:St}{H:Hp}{R:It->Hp->Prop}{lo hi:Int}{t u v:Tok}{tk:Nat}(I:Inv X Uf σ H s)(h1:-(2 ^ 62)<=lo)(h2:lo<2 ^ 62)(h3:-(2 ^ 62)<=hi)(h4:hi<2 ^ 62)
  (q:R (xY lo (hi-lo).toNat) H):wpAny (model X.prog X.w) X.A (pyIter (.ref s.heap.objs.size)) (z_ X Uf σ tg R) E { s with heap:=s.heap.push { cls:=.type "range",data:=.fields #[.int lo t,.int hi u,.int 1 v] },toks:=tk }:=by
 refine wpAny_pyIter_range (IsRange.new ..) (small_one h1 h2 h3 h4) ?_;have I1:Inv X Uf σ H { s with heap:=s.heap.push { cls:=.type "range",data:=.fields #[.int lo t,.int hi u,.int 1 v] },toks:=tk }:=I.kept λb o e=>Qd _ e;refine⟨(s.heap.push { cls:=.type "range",data:=.fields #[.int lo t,.int hi u,.int 1 v] }).objs.size,[(s.heap.push { cls:=.type "range",data:=.fields #[.int lo t,.int hi u,.int 1 v] }).objs.size],_,_,H,rfl,
  I1.kept (t':=tk) λb o e=>Qd _ e,MI _ lo (hi-lo).toNat,?_,λb hb=>?_,q⟩
 .have e1:lo+((0:Nat):Int)*1=lo:=by simp
  have e2:(((hi-lo).toNat:Nat):Int)-((0:Nat):Int)=Builtin.Range.rangeSize lo hi 1:=by rw[rangeSize_one];split<;>omega
  show IsRangeIter _ _ (lo+((0:Nat):Int)*1) ((((hi-lo).toNat:Nat):Int)-((0:Nat):Int)) 1;rw[e1,e2];exact Qv _ rfl
 .have e:b=(s.heap.push { cls:=.type "range",data:=.fields #[.int lo t,.int hi u,.int 1 v] }).objs.size:=by simpa using hb
  subst e;exact I1.ou (Qf _) (I1.aP.fresh (Qf _))
def ML (ta:TA):TI:=λσ H R=>ta σ H λvs H1=>∃ j:Int,vs=[.int j] /\ -(2 ^ 62)<=j/\j<2 ^ 62/\R (xY 0 j.toNat) H1
theorem MM{a:Expr}{ta:TA}{p pos:Pos}(hg:Gl X "range")(hm:X.mg "range" = none)(ha:PA X [a] ta)(hs:starEach [a] X.env=[(false,eval a X.env)]:=by rfl):PI X tg (.Call (.Name "range" p) [a] [] pos) (ML ta):=by
 intro Uf s σ H R I h;refine Call_ (tL I hg hm boot_range (ZG (bg (ha pos Uf s σ H _ I h) λus s1 ⟨vs,H1,I1,r1,q1⟩=>?_) hs rfl));obtain⟨j,e,q1,q2,q⟩:=q1;subst e;cases r1 with
 | cons r rr=>
  cases rr;obtain⟨t,rfl⟩:=r;exact call_range_1 (MJ I1 (by omega) (by omega) q1 q2 (by simpa using q))
def MN (wi:TI)(g:TG)(tb:TS):TS:=λD σ H=>wi σ H λJ H1=>∃ W:Nat->Nat->St->Hp->Prop,(∃ m,W 0 m σ H1)/\∀ i m σ H,W i m σ H->
 (J.stop i H/\D.nx σ H)\/(J.go i H/\∃ N:St->Hp->Prop,(∀ aT H',N aT H'->∃ m',m'<m/\W (i+1) m' aT H')/\∀ x H',J.q8 i H x H'->g x σ H' λlT H2=>tb { D with nx:=N,ct:=N,bk:=D.nx } lT H2)
def pO (fp:List Addr)(h:Heap):List (Addr×Obj):=fp.filterMap λb=>(h.get? b).map λo=>(b,o)
theorem xZ(hb:b∈fp)(e:h.get? b=some o):(b,o)∈pO fp h:=JU.mpr ⟨b,hb,by rw[e];rfl⟩
theorem Ex{p:Addr×Obj}(hp:p∈pO fp h):p.1∈fp/\h.get? p.1=some p.2:=by
 obtain⟨b,hb,e⟩:=JU.mp hp;cases q:h.get? b with
 | none=>rw[q]at e;cases e
 | some o=>
  rw[q]at e;have e':(b,o)=p:=QJ e;subst e';exact⟨hb,q⟩
theorem Inv.pinned{σ:St}{H:Hp}(I:Inv X Uf σ H s)(hf:∀ b∈fp,mw X Uf H b)(ho:∀ b∈fp,∃ o,s.heap.get? b=some o/\∀ v,o.data ≠ .cell v):Inv X (Uf++pO fp s.heap) σ H s:=
 I.gi λp hp=>(QI.mp hp).elim (λz=>I.pin p (Qm _ z)) λz=>by obtain⟨hb,e⟩:=Ex z;obtain⟨f0,f1,f2,_⟩:=hf p.1 hb;obtain⟨o,e',d⟩:=ho p.1 hb;rw[e]at e';cases e';exact⟨e,f0,f1,f2,d⟩
theorem Inv.eV{pl:List (Addr×Obj)}{σ:St}{H:Hp}(I:Inv X (Uf++pl) σ H s):Inv X Uf σ H s:=I.gi λp hp=>I.pin p (Qm _ (Qx _ hp))
theorem MO{iter:Expr}{wi:TI}{g:TG}{tb:TS}{pos:Pos}(hp:PassesOwn (model X.prog X.w) X.A X.env X.xe)(hc:X.calm=true)(hi:PI X tg iter wi)(hg:PG X tg g)(hb:gV X body tb)
  (hs:∀ x,foldedSetIterable iter X.env x=pure x:=by intro _;rfl):PS X (.For tg iter body [] pos) (MN wi g tb):=by
 intro Uf s σ H D I h;refine wpAny_For (bg (hi Uf s σ H _ I h) λv s1 h1=>bg h1 λxX s2 h2=>?_) hs;obtain⟨it,fp,tn,J,H2,e,I2,T,nI,f2,W,⟨m0,w0⟩,turn⟩:=h2;subst e;have jT:∀ {H':Hp},(∀ b∈fp,H' b=none)->∀ b∈fp,mw X Uf H' b:=λhn b hb=>⟨hn b hb,(f2 b hb).2⟩;refine codeAny_forLoop_any (λn s'=>∃ i aT H',Inv X Uf aT H' s'/\tn i s'.heap/\(∀ b∈fp,H' b=none)/\W i n aT H') ?_ m0 ⟨0,σ,H2,I2,nI,λb hb=>(f2 b hb).1,w0⟩;rintro n s3 ⟨i,lS,H3,I3,va,Ey,w3⟩;rcases turn i n lS H3 w3 with⟨stop,qn⟩|⟨go,N,hN,step⟩
 .refine ZK hp (bg (T.done X rfl rfl rfl hc i Uf s3 lS H3 X.xe I3 (jT Ey) va stop) λr s4 ⟨hr,I4⟩=>?_);subst hr;exact Jg ⟨lS,H3,I4,qn⟩
 .refine ZK hp (bg (T.item X rfl rfl rfl hc i Uf s3 lS H3 X.xe I3 (jT Ey) va go) λr s4 ⟨u,hr,h4⟩=>?_);subst hr;refine ZK hp (bg h4 λ_ s5 ao=>?_);obtain⟨x,H5,I5,r5,y5,q9,Ad⟩:=ao;have Ae:=I5.pinned (jT Ad) (T.obj _ _ q9);refine ZK hp (bg (hg _ s5 lS H5 x u _ Ae r5 (step x H5 y5)) λ_ s6 ao=>?_);obtain⟨Ez,H6,I6,q6⟩:=ao;refine ZK hp (bg (hb _ s6 Ez H6 _ I6 q6) λf s7 q7=>?_);have again:∀ {mx:St} {H7:Hp},Inv X (Uf++pO fp s5.heap) mx H7 s7->N mx H7->∃ m,m<n/\∃ i aT H',Inv X Uf aT H' s7/\tn i s7.heap/\(∀ b∈fp,H' b=none)/\W i m aT H':=λ{mx H7} I7 n7=>by obtain⟨m',hm,w7⟩:=hN mx H7 n7;refine⟨m',hm,i+1,mx,H7,I7.eV,T.keep _ _ _ q9 λb hb o e=>(I7.pin (b,o) (Qm _ (Qm _ (xZ hb e)))).1,λb hb=>?_,w7⟩;obtain⟨o,e,d⟩:=T.obj _ _ q9 b hb;exact(I7.pin (b,o) (Qm _ (Qm _ (xZ hb e)))).2.1
  cases f with
  | next=>obtain⟨mx,H7,I7,n7⟩:=q7;exact again I7 n7
  | cont=>obtain⟨mx,H7,I7,n7⟩:=q7;exact again I7 n7
  | brk=>obtain⟨mx,H7,I7,q7⟩:=q7;exact⟨mx,H7,I7.eV,q7⟩
  | ret v=>obtain⟨x7,mx,H7,I7,r7,q7⟩:=q7;exact⟨x7,mx,H7,I7.eV,r7,q7⟩
end
abbrev R2:=V->V->Hp->VK->Prop
def cU (X:Cx)(f:Value->Value->Sem Value)(r:R2):Prop:=
 ∀ (Uf:List (Addr×Obj)) (s:Shared) (σ:St) (H:Hp) (x y:V) (v u:Value) (Q:VK),Inv X Uf σ H s->bT x v->bT y u->r x y H Q->
  wpAny (model X.prog X.w) X.A (f v u) (EP X Uf σ Q) X.xe s
def Af (X:Cx)(f:Value->Sem Value)(r:V->Hp->VK->Prop):Prop:=
 ∀ (Uf:List (Addr×Obj)) (s:Shared) (σ:St) (H:Hp) (x:V) (v:Value) (Q:VK),Inv X Uf σ H s->bT x v->r x H Q->
  wpAny (model X.prog X.w) X.A (f v) (EP X Uf σ Q) X.xe s
def jU (X:Cx)(f:Value)(r:List V->Hp->VK->Prop):Prop:=
 ∀ (Uf:List (Addr×Obj)) (s:Shared) (σ:St) (H:Hp) (xs:List V) (us:List Value) (Q:VK),Inv X Uf σ H s->bo xs us->r xs H Q->
  wpAny (model X.prog X.w) X.A (call f us) (EP X Uf σ Q) X.xe s
def MP (X:Cx)(r:V->Hp->(Bool->Hp->Prop)->Prop):Prop:=
 ∀ (Uf:List (Addr×Obj)) (s:Shared) (σ:St) (H:Hp) (x:V) (v:Value) (Q:Bool->Hp->Prop),Inv X Uf σ H s->bT x v->r x H Q->
  wpAny (model X.prog X.w) X.A (truthy v) (TP X Uf σ Q) X.xe s
def jF (r:R2)(ta tb:TE):TE:=λσ H Q=>ta σ H λx H1=>tb σ H1 λy H2=>r x y H2 Q
def MQ (r:V->Hp->VK->Prop)(ta:TE):TE:=λσ H Q=>ta σ H λx H1=>r x H1 Q
def rI (C:Int->Int->Prop)(g:Int->Int->V):R2:=λx y H Q=>∃ i j,x=.int i/\y=.int j/\C i j/\Q (g i j) H
def jG (g:Int->Int->V):R2:=λx y H Q=>∃ i j,x=.int i/\y=.int j/\Q (g i j) H
def rU (g:Int->V):V->Hp->VK->Prop:=λx H Q=>∃ i,x=.int i/\Q (g i) H
section
variable {X:Cx}{a b c:Expr}{ta tb tc:TE}{pos:Pos}
theorem Ag(ha:PE X a ta)(hb:PE X b tb){σ:St}{H:Hp}{R:V->V->Hp->Prop}(I:Inv X Uf σ H s)
  (h:ta σ H λx H1=>tb σ H1 λy H2=>R x y H2) {Q:Tk} 
  (hf:∀ v u s2 x y H2,Inv X Uf σ H2 s2->bT x v->bT y u->R x y H2->wpAny (model X.prog X.w) X.A (f v u) Q X.xe s2) :
  wpAny (model X.prog X.w) X.A (eval a X.env) (λv ba=>wpAny (model X.prog X.w) X.A (eval b X.env) (λu k9=>wpAny (model X.prog X.w) X.A (f v u) Q X.xe k9) X.xe ba) X.xe s:=by refine bg (ha Uf s σ H _ I h) λv s1 ao=>?_;obtain⟨x,H1,I1,r1,q1⟩:=ao;refine bg (hb Uf s1 σ H1 _ I1 q1) λu s2 ao=>?_;obtain⟨y,H2,I2,r2,q2⟩:=ao;exact hf v u s2 x y H2 I2 r1 r2 q2
theorem oz{op:Operator}{r:R2}(ho:cU X (binaryOp op) r)(ha:PE X a ta)(hb:PE X b tb):PE X (.BinOp a op b pos) (jF r ta tb):=by intro Uf s σ H Q I h;exact wpAny_BinOp (Ag ha hb I h λv u s2 x y H2 I2 rx ry q=>ho Uf s2 σ H2 x y v u Q I2 rx ry q)
theorem MR{op:UnaryOp}{r:V->Hp->VK->Prop}(ho:Af X (unaryOp op) r)(ha:PE X a ta):PE X (.UnaryOp op a pos) (MQ r ta):=by intro Uf s σ H Q I h;exact UnaryOp_ (bg (ha Uf s σ H _ I h) λv s1 ⟨x,H1,I1,r1,q1⟩=>ho Uf s1 σ H1 x v Q I1 r1 q1)
theorem Ah{f:Value->Value->Sem Value}{C:Int->Int->Prop}
  (rule:∀ (i j:Int) (t u:Tok) (s:Shared) (Q:Tk) (E:Tk),C i j->Q (.int (g i j) s.toks) { s with toks:=s.toks+1 }->wpAny (model X.prog X.w) X.A (f (.int i t) (.int j u)) Q E s) :
  cU X f (rI C λi j=>.int (g i j)):=by intro Uf s σ H x y v u Q I rx ry h;obtain⟨i,j,rfl,rfl,hc,q⟩:=h;obtain⟨t,rfl⟩:=rx;obtain⟨t',rfl⟩:=ry;exact rule i j t t' s _ _ hc ⟨.int (g i j),H,I.tok _,⟨_,rfl⟩,q⟩
theorem EA{f:Value->Value->Sem Value}
  (rule:∀ (i j:Int) (t u:Tok) (s:Shared) (Q:Tk) (E:Tk),Q (.int (g i j) s.toks) { s with toks:=s.toks+1 }->wpAny (model X.prog X.w) X.A (f (.int i t) (.int j u)) Q E s) :
  cU X f (jG λi j=>.int (g i j)):=by intro Uf s σ H x y v u Q I rx ry h;obtain⟨i,j,rfl,rfl,q⟩:=h;obtain⟨t,rfl⟩:=rx;obtain⟨t',rfl⟩:=ry;exact rule i j t t' s _ _ ⟨.int (g i j),H,I.tok _,⟨_,rfl⟩,q⟩
theorem x3{g:Int->Int->Bool}
  (rule:∀ (i j:Int) (t u:Tok) (s:Shared) (Q:Tk) (E:Tk),Q (.bool (g i j)) s->wpAny (model X.prog X.w) X.A (f (.int i t) (.int j u)) Q E s) :
  cU X f (jG λi j=>.bl (g i j)):=by intro Uf s σ H x y v u Q I rx ry h;obtain⟨i,j,rfl,rfl,q⟩:=h;obtain⟨t,rfl⟩:=rx;obtain⟨t',rfl⟩:=ry;exact rule i j t t' s _ _ ⟨.bl (g i j),H,I,rfl,q⟩
def MS (i j:Int):Prop:=0<j/\j<1073741824
def Ai (i j:Int):Prop:=(-(2 ^ 64)<i/\i<2 ^ 64)\/(-(2 ^ 64)<j/\j<2 ^ 64)
theorem Ai.ok{i j:Int}(h:Ai i j):IntMulOk i j:=by
 rcases h with⟨h1,h2⟩|⟨h1,h2⟩
 .exact .of_left (intBits_le_64 h1 h2)
 .exact .of_right (intBits_le_64 h1 h2)
theorem MT:cU X (binaryOp .Add) (jG λi j=>.int (i+j)):=EA λ_ _ _ _ _ _ _ q=>add_int q
theorem MU:cU X (binaryOp .Sub) (jG λi j=>.int (i-j)):=EA λ_ _ _ _ _ _ _ q=>sub_int q
theorem MV:cU X (binaryOp .Mult) (rI Ai λi j=>.int (i*j)):=Ah λ_ _ _ _ _ _ _ hc q=>mul_int q hc.ok
theorem MW:cU X (binaryOp .FloorDiv) (rI MS λi j=>.int (i / j)):=Ah λi j _ _ _ _ _ hc q=>by have h1:(0:Int)<j:=hc.1;have h2:j<1073741824:=hc.2;exact floordiv_int (by omega) (by rw[Int.fdiv_eq_ediv_of_nonneg i (by omega)];exact q) (.inl (PyProof.noPylong_small (by omega)))
theorem MX:cU X (binaryOp .Mod) (rI (λ_ j=>0<j) λi j=>.int (i % j)):=Ah λi j _ _ _ _ _ hc q=>by have h1:(0:Int)<j:=hc;exact mod_int' (by omega) (by rw[Int.fmod_eq_emod_of_nonneg i (by omega)];exact q)
theorem MY{f:Value->Sem Value}{g:Int->Int}
  (rule:∀ (i:Int) (t:Tok) (s:Shared) (Q:Tk) (E:Tk),Q (.int (g i) s.toks) { s with toks:=s.toks+1 }->wpAny (model X.prog X.w) X.A (f (.int i t)) Q E s) :
  Af X f (rU λi=>.int (g i)):=by intro Uf s σ H x v Q I rx h;obtain⟨i,rfl,q⟩:=h;obtain⟨t,rfl⟩:=rx;exact rule i t s _ _ ⟨.int (g i),H,I.tok _,⟨_,rfl⟩,q⟩
theorem MZ:Af X (unaryOp .USub) (rU λi=>.int (-i)):=MY λ_ _ _ _ _ q=>neg_int q
theorem M0{σ:St}{H:Hp}{Q:VK}{k k':Bool}(I:Inv X Uf σ H s)(q:Q (.bl k) H)(e:k=k'):EP X Uf σ Q (.bool k') s:=by subst e;exact⟨.bl k,H,I,rfl,q⟩
theorem Aj:cU X (compareOp .Lt) (jG λi j=>.bl (decide (i<j))):=x3 λ_ _ _ _ _ _ _ q=>lt_int q
theorem EB:cU X (compareOp .LtE) (jG λi j=>.bl (decide (i<=j))):=x3 λ_ _ _ _ _ _ _ q=>le_int q
theorem M1:cU X (compareOp .Gt) (jG λi j=>.bl (decide (j<i))):=x3 λ_ _ _ _ _ _ _ q=>gt_int q
theorem M3:cU X (compareOp .GtE) (jG λi j=>.bl (decide (j<=i))):=x3 λ_ _ _ _ _ _ _ q=>ge_int q
theorem EC:cU X (compareOp .Is) (λx y H Q=>y=.aF/\Q (.bl (decide (x=.aF))) H):=by
 intro Uf s σ H x y v u Q I rx ry h;obtain⟨rfl,q⟩:=h;cases ry;refine is_none_gen (M0 I q ?_);cases x<;>first
  | (cases rx;rfl)
  | (obtain⟨t,rfl⟩:=rx;rfl)
theorem cU.or{r r':R2}(h:cU X f r)(h':cU X f r'):cU X f (λx y H Q=>r x y H Q\/r' x y H Q):=by
 intro Uf s σ H x y v u Q I rx ry q;rcases q with q|q
 .exact h Uf s σ H x y v u Q I rx ry q
 .exact h' Uf s σ H x y v u Q I rx ry q
theorem q_(b:Expr)(h:op ≠ .In:=by decide)(h2:op ≠ .NotIn:=by decide):behindInMarks op b=false:=by
 have e1:(op==CmpOp.In)=false:=by cases op<;>first|rfl|exact absurd rfl h
 have e2:(op==CmpOp.NotIn)=false:=by cases op<;>first|rfl|exact absurd rfl h2
 cases b<;>simp[behindInMarks,e1,e2]
theorem M4{r:R2}(ho:cU X (compareOp op) r)(ha:PE X a ta)(hb:PE X b tb)(hm:behindInMarks op b=false):PE X (.Compare a [op] [b] pos) (jF r ta tb):=by intro Uf s σ H Q I h;exact wpAny_Compare1 (Ag ha hb I h λv u s2 x y H2 I2 rx ry q=>ho Uf s2 σ H2 x y v u Q I2 rx ry q) hm
def Ak (t:TE):TT:=λσ H Q=>t σ H λx H'=>∃ k,x=.bl k/\Q k H'
theorem M5{r:R2}(ho:cU X (compareOp op) r)(ha:PE X a ta)(hb:PE X b tb)(hm:behindInMarks op b=false):PT X (.Compare a [op] [b] pos) (Ak (jF r ta tb)):=by
 intro Uf s σ H Q I h;refine wpAny_isTrue_Compare1 (bg (ha Uf s σ H _ I h) λv s1 ⟨x,H1,I1,r1,q1⟩=>bg (hb Uf s1 σ H1 _ I1 q1) λu s2 ⟨y,H2,I2,r2,q2⟩=>
  bg (ho Uf s2 σ H2 x y v u _ I2 r1 r2 q2) λc s3 ⟨z,H3,I3,r3,k,e,q3⟩=>?_) hm
 subst e;cases r3;exact Zt ⟨H3,I3,q3⟩
def ED (r r':R2)(ta tb tc:TE):TE:=λσ H Q=>ta σ H λx H1=>tb σ H1 λy H2=>r x y H2 λz H3=>∃ k,z=.bl k /\
 (if k=true then tc σ H3 λw' H4=>r' y w' H4 Q else Q (.bl false) H3)
theorem M6{r r':R2}(ho:cU X (compareOp op) r)(gU:cU X (compareOp kX) r')(ha:PE X a ta)(hb:PE X b tb)(hc:PE X c tc)
  (hm:lastMarks [op,kX] [b,c]=false:=by with_unfolding_all rfl):PE X (.Compare a [op,kX] [b,c] pos) (ED r r' ta tb tc):=by
 intro Uf s σ H Q I h;refine Compare_chain (bg (ha Uf s σ H _ I h) λv s1 ⟨x,H1,I1,r1,q1⟩=>chain_link (bg (hb Uf s1 σ H1 _ I1 q1) λu s2 ⟨y,H2,I2,r2,q2⟩=>
  bg (ho Uf s2 σ H2 x y v u _ I2 r1 r2 q2) λd s3 ⟨z,H3,I3,r3,k,e,q3⟩=>?_)) hm
 subst e;cases r3;refine Zt ?_;cases k with
 | false=>exact ite_ff ⟨.bl false,H3,I3,rfl,q3⟩
 | true=>exact ite_tt (chain_last (bg (hc Uf s3 σ H3 _ I3 q3) λw' s4 ⟨z',H4,I4,r4,q4⟩=>gU Uf s4 σ H4 y z' u w' Q I4 r2 r4 q4))
theorem M7{r r':R2}(ho:cU X (compareOp op) r)(gU:cU X (compareOp kX) r')(ha:PE X a ta)(hb:PE X b tb)(hc:PE X c tc)
  (hm:lastMarks [op,kX] [b,c]=false:=by with_unfolding_all rfl):PT X (.Compare a [op,kX] [b,c] pos) (Ak (ED r r' ta tb tc)):=by
 intro Uf s σ H Q I h;refine isTrue_chain (bg (ha Uf s σ H _ I h) λv s1 ⟨x,H1,I1,r1,q1⟩=>test_link (bg (hb Uf s1 σ H1 _ I1 q1) λu s2 ⟨y,H2,I2,r2,q2⟩=>
  bg (ho Uf s2 σ H2 x y v u _ I2 r1 r2 q2) λd s3 ⟨z,H3,I3,r3,k,e,q3⟩=>?_)) hm
 subst e;cases r3;refine Zt ?_;cases k with
 | false=>
  obtain⟨k',e',q'⟩:=q3;cases e';exact ite_ff ⟨H3,I3,q'⟩
 | true=>
  refine ite_tt (test_last (bg (hc Uf s3 σ H3 _ I3 q3) λw' s4 ⟨z',H4,I4,r4,q4⟩=>bg (gU Uf s4 σ H4 y z' u w' _ I4 r2 r4 q4) λd' s5 ao=>?_));obtain⟨z2,H5,I5,r5,k2,e2,q5⟩:=ao;subst e2;cases r5;exact Zt ⟨H5,I5,q5⟩
def EE (K:PySem.W.Frag)(x:V)(H:Hp)(k:Bool):Prop:=
 match x with
 | .aF=>k=false
 | .bl b=>k=b
 | .int i=>k=(i != 0)
 | .str y=>y.length<=sizeLine/\k=((y.length:Int) != 0)
 | .uU y=>y.size<=sizeLine/\k=((y.size:Int) != 0)
 | .ref p=>(∃ xs,cQ K H p xs/\k = !xs.isEmpty)\/(∃ xs,du K H p xs/\k = !xs.isEmpty)\/∃ aG,H p=some (.dK aG)/\k = !aG.isEmpty
 | _=>False
theorem M8{κ:Type}{aG:List (κ×V)}{vs:List (κ×Value)}(r:KV aG vs):(!vs.isEmpty) = !aG.isEmpty:=by cases r<;>rfl
theorem EF{xs:List V}{ar:List Value}(r:bo xs ar):(!ar.toArray.isEmpty) = !xs.isEmpty:=by cases r<;>simp
theorem tM:(sizeLine:Nat)<2 ^ 63:=by rw[YT];decide
theorem M9:MP X (λx H Q=>∃ k,EE X.K x H k/\Q k H):=by
 intro Uf s σ H x v Q I rx h;obtain⟨k,e,q⟩:=h;have hl:=tM;have hs:sizeLine=16777216:=YT;cases x with
 | aF=>
  cases rx;have e':k=false:=e;subst e';exact truthy_none ⟨H,I,q⟩
 | bl b=>
  cases rx;have e':k=b:=e;subst e';exact Zt ⟨H,I,q⟩
 | int i=>
  obtain⟨t,rfl⟩:=rx;have e':k=(i != 0):=e;subst e';exact PySem.P.truthy_int ⟨H,I,q⟩
 | str y=>
  obtain⟨t,rfl⟩:=rx;obtain⟨hy,e'⟩:y.length<=sizeLine/\k=((y.length:Int) != 0):=e;subst e';exact PySem.P.truthy_str (by omega) ⟨H,I.tok _,q⟩
 | uU y=>
  obtain⟨t,rfl⟩:=rx;obtain⟨hy,e'⟩:y.size<=sizeLine/\k=((y.size:Int) != 0):=e;subst e';exact W.truthy_bytes (by omega) ⟨H,I.tok _,q⟩
 | ref p=>
  cases rx;have e':(∃ xs,cQ X.K H p xs/\k = !xs.isEmpty)\/(∃ xs,du X.K H p xs/\k = !xs.isEmpty)\/∃ aG,H p=some (.dK aG)/\k = !aG.isEmpty:=e;rcases e' with⟨xs,hx,e'⟩|⟨xs,hx,e'⟩|⟨aG,hx,e'⟩
  .subst e';obtain⟨ar,r,pl,hz⟩:=I.list hx;have hlen:=r.length;exact wpAny_truthy_list pl.isList (by simp only[Qk];omega) ⟨H,I.tok _,by rw[EF r];exact q⟩
  .subst e';obtain⟨ar,r,pl,hz⟩:=I.tuple hx;have hlen:=r.length;exact truthy_tuple pl (by simp only[Qk];omega) ⟨H,I.tok _,by rw[EF r];exact q⟩
  .subst e';obtain⟨hz,hS,vs,r,m⟩:aG.length<=sizeLine/\(p==sysModules)=false/\∃ vs,KV aG vs/\s.heap.DictOf (jc X.prog X.w) p vs:=I.aP p _ hx;have hlen:aG.length=vs.length:=Paired.length r;exact wpAny_truthy_dict hS m (by omega) ⟨H,I.tok _,by rw[M8 r];exact q⟩
 | _=>exact(show False from e).elim
theorem M_(ha:PE X a ta)(he:∀ whole,isTrue a X.env whole=(do let v <- whole;standAt a.pos;holding [v] (truthy v))) :
  PT X a (λσ H Q=>ta σ H λx H'=>∃ k,EE X.K x H' k/\Q k H'):=by intro Uf s σ H Q I h;exact isTrue_plain (bg (ha Uf s σ H _ I h) λv s1 ⟨x,H1,I1,r1,q1⟩=>M9 Uf s1 σ H1 x v Q I1 r1 q1) (he _)
theorem my{x:V}(r:bo [x] us):∃ u,us=[u]/\bT x u:=by
 cases r with
 | cons r1 r2=>cases r2;exact⟨_,rfl,r1⟩
theorem vb{x y:V}(r:bo [x,y] us):∃ u w',us=[u,w']/\bT x u/\bT y w':=by
 cases r with
 | cons r1 r2=>
  cases r2 with
  | cons r3 r4=>cases r4;exact⟨_,_,rfl,r1,r3⟩
theorem Na(hc:X.calm=true):jU X (.builtin "max") (λxs H Q=>∃ i j,xs=[.int i,.int j]/\Q (.int (if j > i then j else i)) H):=by
 intro Uf s σ H xs us Q I r h;obtain⟨i,j,rfl,q⟩:=h;obtain⟨u,w',rfl,⟨t,rfl⟩,⟨t',rfl⟩⟩:=vb r;refine max_two_ints (I.ok.hd hc) λh' tk k=>⟨_,H,I.kept k,?_,q⟩;by_cases hj:j > i
 .rw[Ql hj,Ql hj];exact⟨_,rfl⟩
 .rw[Qt hj,Qt hj];exact⟨_,rfl⟩
theorem Nb(hc:X.calm=true):jU X (.builtin "min") (λxs H Q=>∃ i j,xs=[.int i,.int j]/\Q (.int (if j<i then j else i)) H):=by
 intro Uf s σ H xs us Q I r h;obtain⟨i,j,rfl,q⟩:=h;obtain⟨u,w',rfl,⟨t,rfl⟩,⟨t',rfl⟩⟩:=vb r;refine min_two_ints (I.ok.hd hc) λh' tk k=>⟨_,H,I.kept k,?_,q⟩;by_cases hj:j<i
 .rw[Ql hj,Ql hj];exact⟨_,rfl⟩
 .rw[Qt hj,Qt hj];exact⟨_,rfl⟩
end
structure rf (h:Heap) (x dx C:Addr) (mA:Str->Option Value):Prop where
 obj:h.get? x=some (W.instObj C dx)
 ns:h.Ns1 dx mA
 ne:dx≠x
theorem Nc(n:h.Ns1 dx mA):∃ od,h.get? dx=some od/\∀ name,W.lookIn name od=some (mA name):=by
 obtain⟨o,es,ep,ho,hd,hk,_,hm⟩:=n;refine⟨o,ho,λname=>?_⟩;have e:=hm name;unfold nsFind findBy at e;rw[<- Array.find?_toList]at e;unfold W.lookIn;rw[hd];dsimp only;split;next y q=>
  rw[q]at e;exact ZR some e
 next q=>
  rw[q]at e;have a:es.toList.any (·.refKey)=false:=by rw[List.any_eq_false];intro y hy;obtain⟨z,t,rg⟩:=hk y (Array.mem_toList_iff.mp hy);simp[DictEntry.refKey,rg]
  have a':¬ es.toList.any (·.refKey)=true:=by rw[a];exact Zy
  rw[Qt a'];exact ZR some e
theorem rf.look{x:Addr}(I:rf h x dx C mA):∃ od,PySem.W.InstAt h x (W.instObj C dx) C (some od)/\∀ name,W.lookIn name od=some (mA name):=
 let ⟨od,ho,hl⟩:=Nc I.ns
 ⟨od,⟨I.obj,rfl,rfl,ho⟩,hl⟩
section
variable {P:Program}{w:World}{H H':Hp}{h h':Heap}{a C dx:Addr}{fs LQ:List (Str×V)}
theorem Nd(aP:di P w H h)(e:H a=some (.ins C dx fs)):∃ mA,rf h a dx C mA/\(∀ f,qV (fs.lookup f) (mA f))/\PySem.Within mA (fs.map (·.1))/\fs.length<=1000/\H dx=some (.own a):=by obtain⟨d,z,ne,ob,mA,n,r,q⟩:=(show dh P w H h a (.ins C dx fs)from aP a _ e);exact⟨mA,⟨ob,n,ne⟩,r,q,z,d⟩
end
structure x4 (K:PySem.W.Frag) (C:Addr):Prop where
 pg:W.plainGet K C Str.empty=true
 hd:W.hasDictIn K C=true
 po:W.plainOver K C=true
 sa:W.findIn K (.ref C) "__setattr__" = some (some (.builtin "object.__setattr__"))
theorem x4.get(c:x4 K C)(f:Str):W.plainGet K C f=true:=c.pg
def Nf (K:PySem.W.Frag)(C:Addr)(f:Str):Prop:=W.findIn K (.ref C) f=some none
section
variable {X:Cx}{Uf:List (Addr×Obj)}{σ:St}{H:Hp}{s:Shared}{A:Around}{E:Tk}{Q:Tk}{c:Value}{b:Bool}
inductive fV (K:PySem.W.Frag) (H:Hp):V->Value->Prop where
 | aF:fV K H .aF (.type "NoneType")
 | bl (x:Bool):fV K H (.bl x) (.type "bool")
 | int (i:Int):fV K H (.int i) (.type "int")
 | str (x:Str):fV K H (.str x) (.type "str")
 | tG (x:UInt64):fV K H (.tG x) (.type "float")
 | lst {a:Addr} {xs:List V} (e:H a=some (.lst xs)):fV K H (.ref a) (.type "list")
 | fM {a:Addr} {o:Obj} {xs:List V} (e:H a=some (.fM o (.lst xs))):fV K H (.ref a) (.type "list")
 | tup {a:Addr} {xs:List V} (e:H a=some (.tup xs)):fV K H (.ref a) (.type "tuple")
 | dK {a:Addr} {aG:List (Key×V)} (e:H a=some (.dK aG)):fV K H (.ref a) (.type "dict")
 | dT {a:Addr} {aG:List (List Key×V)} (e:H a=some (.dT aG)):fV K H (.ref a) (.type "dict")
 | ins {a C dx:Addr} {fs:List (Str×V)} (e:H a=some (.ins C dx fs)) (cl:x4 K C) (ha:W.findIn K (.ref C) "__class__" = some (some (.builtin "object.__class__")))
   (hn:W.specialIn K (.builtin "object.__class__") "__get__" = some (some (.builtin "getset_descriptor.__get__"))) (vc:W.takesIn K (.builtin "object.__class__")=some true)
   (hm:W.mroIn K C (.type "object")=some true):fV K H (.ref a) (.ref C)
theorem je{x:V}{t:Value}(I:Inv X Uf σ H s)(rx:bT x u)(ty:fV X.K H x t)(e:W.kitOne X.K t c=some b)(h:∀ tk,Q (.bool b) { s with toks:=tk }) :
  wpAny (model X.prog X.w) A (call (.builtin "isinstance") [u,c]) Q E s:=by
 cases ty with
 | aF=>cases (show u=Value.none from rx);exact Q4 W.kitx_none I.fC True.intro e (λz=>nomatch z) h
 | bl y=>cases (show u=Value.bool y from rx);exact Q4 W.kitx_bool I.fC True.intro e (λz=>nomatch z) h
 | int i=>obtain⟨t,q⟩:=(show ∃ t,u=Value.int i t from rx);cases q;exact Q4 W.kitx_int I.fC True.intro e (λz=>nomatch z) h
 | str y=>obtain⟨t,q⟩:=(show ∃ t,u=Value.str y t from rx);cases q;exact Q4 W.kitx_str I.fC True.intro e (λz=>nomatch z) h
 | tG y=>obtain⟨t,q⟩:=(show ∃ t,u=Value.float y t from rx);cases q;exact Q4 W.kitx_float I.fC True.intro e (λz=>nomatch z) h
 | @lst a xs ea=>
  cases (show u=Value.ref a from rx);obtain⟨_,_,n,_,h1⟩:=(show dh X.prog X.w H s.heap a (.lst xs)from I.aP a _ ea);exact Q4 Ya I.fC ⟨_,h1,rfl⟩ e (λz=>nomatch z) h
 | @fM a ob xs ea=>
  cases (show u=Value.ref a from rx);obtain⟨_,_,_,n,_,h1⟩:=(show dh X.prog X.w H s.heap a (.fM ob (.lst xs))from I.aP a _ ea);exact Q4 Ya I.fC ⟨_,h1,rfl⟩ e (λz=>nomatch z) h
 | @tup a xs ea=>
  cases (show u=Value.ref a from rx);obtain⟨_,_,_,p⟩:=(show dh X.prog X.w H s.heap a (.tup xs)from I.aP a _ ea);obtain⟨o,h1,h2,_⟩:=p;exact Q4 W.kitx_tuple I.fC ⟨o,h1,h2⟩ e (λz=>nomatch z) h
 | @dK a aG ea=>
  cases (show u=Value.ref a from rx);obtain⟨_,_,vs,_,p⟩:=(show dh X.prog X.w H s.heap a (.dK aG)from I.aP a _ ea);obtain⟨o,es,ep,h1,h2,_⟩:=p;exact Q4 W.kitx_dict I.fC ⟨o,h1,h2.1⟩ e (λz=>nomatch z) h
 | @dT a aG ea=>
  cases (show u=Value.ref a from rx);obtain⟨_,_,xs,_,o,es,ep,h1,h2,_⟩:=(show dh X.prog X.w H s.heap a (.dT aG)from I.aP a _ ea);exact Q4 W.kitx_dict I.fC ⟨o,h1,h2.1⟩ e (λz=>nomatch z) h
 | @ins a C dx fs ea cl ha hn vc hm=>
  cases (show u=Value.ref a from rx);obtain⟨mA,O,_⟩:=Nd I.aP ea;obtain⟨od,J,_⟩:=O.look;exact Q4 (W.kitx_own (cl.get _) cl.hd ha hn vc hm) I.fC J e (λz=>nomatch z) h
end
structure bc (k:Nat) (A:Around):Prop where
 hd:A.handled=none
 dp:A.depth+3*k+5<recursionLimit
 un:A.units+16*k+200<cLine
theorem bc.mono{k:Nat}(r:bc k A)(h:j<=k):bc j A:=⟨r.hd,by have:=r.dp;omega,by have:=r.un;omega⟩
theorem bc.deeper{k:Nat}(r:bc (k+1) A)(env:Env):bc k (A.deeper env):=
 ⟨r.hd,by have:=r.dp;show A.depth+1+3*k+5<_;omega,by have:=r.un;show A.units+3+16*k+200<_;omega⟩
theorem bc.depth{k:Nat}(r:bc k A):A.depth<recursionLimit:=by have:=r.dp;omega
theorem bc.units{k:Nat}(r:bc k A):A.units+64<cLine:=by have:=r.un;omega
def EG:TA:=λ_ H Q=>Q [] H
def EH (ta:TE)(tr:TA):TA:=λσ H Q=>ta σ H λx H1=>tr σ H1 λxs H2=>Q (x::xs) H2
section
variable {X:Cx}{e:Expr}{es:List Expr}{te:TE}{t:TA}{pos:Pos}
theorem k_:PA X [] EG:=λ_ _ _ _ H Q I h=>Yb ⟨[],H,I,.nil,h⟩
theorem jf(ha:PE X e te)(hr:PA X es t)(hs:starEach (e::es) X.env=(false,eval e X.env)::starEach es X.env:=by rfl):PA X (e::es) (EH te t):=by intro pos Uf s σ H Q I h;rw[hs];show wpAny _ _ (spliced ((false,eval e X.env)::backTo pos (starEach es X.env))) _ _ s;refine Ji (bg (ha Uf s σ H _ I h) λu s1 ao=>?_);obtain⟨x,H1,I1,r1,q1⟩:=ao;exact bg (hr pos Uf s1 σ H1 _ I1 q1) λus s2 ⟨xs,H2,I2,r2,q2⟩=>⟨x::xs,H2,I2,.cons r1 r2,q2⟩
def Ng (t:TA):TE:=λσ H Q=>t σ H λxs H1=>xs.length<=sizeLine/\∀ p,H1 p=none->Q (.ref p) (upd H1 p (.tup xs))
def Nh (t:TA):TE:=λσ H Q=>t σ H λxs H1=>xs.length<=sizeLine/\∀ p,H1 p=none->Q (.ref p) (upd H1 p (.lst xs))
theorem Ni{x1}(h:PA X es t):PE X (.Tuple es x1 pos) (Ng t):=by intro Uf s σ H Q I hq;refine wpAny_Tuple_spliced (bg (h pos Uf s σ H _ I hq) λus s1 ⟨xs,H1,I1,r,z,q⟩=>⟨by rw[<- r.length];exact z,?_⟩);have hf:H1 s1.heap.objs.size=none:=I1.aP.fresh (Qf _);refine⟨.ref s1.heap.objs.size,upd H1 s1.heap.objs.size (.tup xs),I1.laid (t':=s1.toks) (λb u e=>Qd _ e) (Qf _) ?_,rfl,q _ hf⟩;exact⟨z,us,r,⟨_,Qv _ rfl,rfl,⟨_,rfl⟩,rfl⟩⟩
theorem Nj(h:PA X es t):PE X (.List es pos) (Nh t):=by intro Uf s σ H Q I hq;refine wpAny_List_spliced (bg (h pos Uf s σ H _ I hq) λus s1 ⟨xs,H1,I1,r,z,q⟩=>⟨by rw[<- r.length];exact z,?_⟩);have hf:H1 s1.heap.objs.size=none:=I1.aP.fresh (Qf _);refine⟨.ref s1.heap.objs.size,upd H1 s1.heap.objs.size (.lst xs),I1.laid (t':=s1.toks) (λb u e=>Qd _ e) (Qf _) ?_,rfl,q _ hf⟩;exact⟨z,us,0,r,Qv _ rfl⟩
end
abbrev Sp:=List V->Hp->VK->XK->Prop
abbrev mz:=List Env->Hp->Shared->XK->Value->Shared->Prop
structure oA (P:Program) (w:World) (K:PySem.W.Frag) (mg:Str->Option Value) (base:Heap) (A:Around) (outer:List Env) (s:Shared) (H:Hp):Prop where
 frames:A.frames=some outer
 mod:Mod K mg base
 bs:∀ b o,base.get? b=some o->s.heap.get? b=some o/\H b=none
 mq:base.objs.size<=s.heap.objs.size
 fB:s.heap.FunFrames base outer
 qX:∀ b∈df outer,H b=none
 aP:di P w H s.heap
 bare:AllBare s.gens
def CE (outer:List Env)(P:Program)(w:World)(H:Hp)(s:Shared)(Q:VK)(u:Value)(s':Shared):Prop:=
 ∃ v H',s'.os=s.os/\AllBare s'.gens/\Un (df outer) [] H H' s.heap s'.heap/\di P w H' s'.heap/\bT v u/\Q v H'
def CR (CX:mz)(outer:List Env)(P:Program)(w:World)(H:Hp)(s:Shared)(Q:VK)(E:XK)(r:Result)(s':Shared):Prop:=
 match r with
 | .ok (.ret u)=>CE outer P w H s Q u s'
 | .ok _=>False
 | .error e=>CX outer H s E e s'
structure dS (P:Program) (w:World) (K:PySem.W.Frag) (mg:Str->Option Value) (base:Heap) (CX:mz) (k:Nat) (f:Addr) (fd:FuncData) (ps:List Str) (sp:Sp):Prop where
 len:∀ vs H Q E,sp vs H Q E->vs.length=ps.length
 run:∀ (A:Around) (outer:List Env) (s:Shared) (H:Hp) (args:Args) (us:List Value) (vs:List V) (Q:VK) (E:XK),bc k A->oA P w K mg base A outer s H->BindsTo s fd args (ps.zip us)->bo vs us->sp vs H Q E->
  codeAny (model P w) A (.call (.ref f) args) (CR CX outer P w H s Q E) s
section
variable {X:Cx}{Uf:List (Addr×Obj)}{σ:St}{H:Hp}{s s':Shared}
theorem Inv.vd(I:Inv X Uf σ H s):oA X.prog X.w X.K X.mg X.base X.A X.stack s H:=
 ⟨I.ok.frames,I.ok.mod,I.bs,QF I.ok.mq I.sz,I.stack,I.eU,I.aP,I.bare⟩
theorem Inv.after{Q:VK}(I:Inv X Uf σ H s)(h:CE X.stack X.prog X.w H s Q u s'):EP X Uf σ Q u s':=by obtain⟨v,H',os,bare,un,aP,r,q⟩:=h;obtain⟨hh,g,d,t,Al⟩:=s';obtain rfl:Al=s.os:=os;exact⟨v,H',I.call (h':=hh) (g':=g) (d':=d) (t':=t) (ch:=[]) un aP bare (λb z=>absurd z (by simp)),r,q⟩
end
def Nk (sp:Sp)(pP:List V)(E:XK)(t:TA):TE:=λσ H Q=>t σ H λvs H1=>sp (vs++pP) H1 Q E
def nJ (K:PySem.W.Frag)(fd:FuncData)(ps:List Str)(ds:List Value):Prop:=
 ∀ (s:Shared) (us:List Value),K.In s.heap->(us++ds).length=ps.length->BindsTo s fd ⟨us,[]⟩ (ps.zip (us++ds))
theorem nJ.all{fd:FuncData}(h:∀ us:List Value,us.length=ps.length->bindArgs fd ⟨us,[]⟩=pure (ps.zip us)):nJ K fd ps []:=λs us _ hl=>by rw[Q5]at hl ⊢;exact .of_eq (h us hl)
def x5 (CX:mz)(X:Cx)(E:XK):Prop:=∀ (Uf:List (Addr×Obj)) (σ:St) (H:Hp) (s:Shared) (e:Value) (s':Shared),Inv X Uf σ H s->CX X.stack H s E e s'->X.xe e s'
section
variable {X:Cx}{CX:mz}{k:Nat}{f C:Addr}{fd:FuncData}{ps:List Str}{sp:Sp}{pP:List V}{ds:List Value}{E:XK}{x m:Str}{p pos apos:Pos}{e o:Expr}{es:List Expr}{ta:TE}{t:TA}
theorem Nl{σ:St}{H:Hp}{Q:VK}{vs:List V}(F:dS X.prog X.w X.K X.mg X.base CX k f fd ps sp)(hr:bc k X.A)(hb:nJ X.K fd ps ds)(hd:bo pP ds)(hx:x5 CX X E)
  (I:Inv X Uf σ H s) (r:bo vs us) (h:sp (vs++pP) H Q E):wpAny (model X.prog X.w) X.A (call (.ref f) us) (EP X Uf σ Q) X.xe s:=by
 have r2:bo (vs++pP) (us++ds):=r.append hd;have hl:(us++ds).length=ps.length:=by rw[<- r2.length];exact F.len _ _ _ _ h
 refine Yw (Z6 (F.run X.A X.stack s H ⟨us,[]⟩ (us++ds) (vs++pP) Q E hr I.vd (hb s us I.fC hl) r2 h) λr s' hq=>?_);cases r with
 | error e=>exact hx Uf σ H s e s' I hq
 | ok fl=>
  cases fl with
  | ret u=>exact I.after hq
  | next=>exact False.elim hq
  | brk=>exact False.elim hq
  | cont=>exact False.elim hq
theorem Am(F:dS X.prog X.w X.K X.mg X.base CX k f fd ps sp)(hr:bc k X.A)(hg:Gl X x)(hm:X.mg x=some (.ref f))(hk:W.keepIn X.K (.ref f)=true)(hb:nJ X.K fd ps ds)(hd:bo pP ds)(hx:x5 CX X E)
  (ha:PA X (e::es) t) (gZ:(x==("__debug__":Str))=false:=by decide) (he:starEach (e::es) X.env=(false,eval e X.env)::starEach es X.env:=by rfl) (cB:(backTo pos (starEach es X.env)).any (·.1)=false:=by rfl) :
  PE X (.Call (.Name x p) (e::es) [] pos) (Nk sp pP E t):=by intro Uf s σ H Q I h;refine Jj (u_ I hg hm ?_ gZ);refine W.callWith_K (h₀:=X.base) I.ok.mod.u3 hk (bg (ha pos Uf s σ H _ I h) λus s1 ⟨vs,H1,I1,r,q⟩=>⟨I1.fC,?_⟩) he cB;exact Nl F hr hb hd hx I1 r q
end
structure aj (N P:List Str) (sc:Scope):Prop where
 kind:sc.kind=.function
 co:sc.isCoroutine=false
 gen:sc.isGenerator=false
 nd:N.Nodup
 pre:N.take P.length=P
 par:∀ x∈P,sc.names.lookup x=some .local\/sc.names.lookup x=some .cell
 rh:∀ y∈sc.names,y.2 ≠ .free
theorem cF{P:List Str}(h:N.Nodup/\(∀ x∈P,sc.names.lookup x=some .local\/sc.names.lookup x=some .cell)/\∀ y∈sc.names,y.2 ≠ .free)(a:sc.kind=.function:=by rfl)(b:sc.isCoroutine=false:=by rfl)(c:sc.isGenerator=false:=by rfl)(d:N.take P.length=P:=by rfl):aj N P sc:=⟨a,b,c,h.1,d,h.2.1,h.2.2⟩
theorem EI:∀ {binds:List (Str×Value)} {m:Str->Option Value},(∀ v,(x,v) ∉ binds)->bindL kindOf binds m x=m x
 | [],_,_=>rfl
 | (n,v)::r,m,h=>by
  unfold bindL;rw[EI λw hw=>h w (Qb _ hw)];split
  .have:x≠n:=by rintro rfl;exact h v Qc
   simp[this]
  .rfl
theorem EJ:∀ {binds:List (Str×Value)} {m:Str->Option Value},(∀ v,(x,v) ∉ binds)->bindC kindOf binds m x=m x
 | [],_,_=>rfl
 | (n,v)::r,m,h=>by
  unfold bindC;rw[EJ λw hw=>h w (Qb _ hw)];split
  .rfl
  .have:x≠n:=by rintro rfl;exact h v Qc
   simp[this]
theorem EK:∀ {P:List Str} {vs:List Value} {i:Nat} {m:Str->Option Value},P.Nodup->P[i]? = some x->vs[i]? = some v->kindOf x=some .local->
  bindL kindOf (P.zip vs) m x=some v
 | [],_,_,_,_,h,_,_=>by simp at h
 | _::_,[],_,_,_,_,h,_=>by simp at h
 | p::P,w::vs,0,m,nd,h1,h2,hk=>by simp at h1 h2;subst h1;subst h2;show bindL kindOf ((p,w)::P.zip vs) m p=_;unfold bindL;rw[EI λv hv=>(ZX.mp nd).1 (YE hv).1,Ql hk];simp
 | p::P,w::vs,i+1,m,nd,h1,h2,hk=>by show bindL kindOf ((p,w)::P.zip vs) m x=_;unfold bindL;exact EK (i:=i) (ZX.mp nd).2 (by simpa using h1) (by simpa using h2) hk
theorem EL:∀ {P:List Str} {vs:List Value} {i:Nat} {m:Str->Option Value},P.Nodup->P[i]? = some x->vs[i]? = some v->kindOf x≠some .local->
  bindC kindOf (P.zip vs) m x=some v
 | [],_,_,_,_,h,_,_=>by simp at h
 | _::_,[],_,_,_,_,h,_=>by simp at h
 | p::P,w::vs,0,m,nd,h1,h2,hk=>by simp at h1 h2;subst h1;subst h2;show bindC kindOf ((p,w)::P.zip vs) m p=_;unfold bindC;rw[EJ λv hv=>(ZX.mp nd).1 (YE hv).1,Qt hk];simp
 | p::P,w::vs,i+1,m,nd,h1,h2,hk=>by show bindC kindOf ((p,w)::P.zip vs) m x=_;unfold bindC;exact EL (i:=i) (ZX.mp nd).2 (by simpa using h1) (by simpa using h2) hk
def i4 (N:List Str)(vs:List V):St:=vs.map some++replicate (N.length-vs.length) none
def ir (CX:mz)(P:Program)(w:World)(K:PySem.W.Frag)(mg:Str->Option Value)(base:Heap)(N:List Str)(qual:Str)(scope:Scope)(f:Addr)(cd:Value)(A:Around)(outer:List Env)(s:Shared)(H:Hp)(E:XK):Cx where
 prog:=P
 w:=w
 K:=K
 mg:=mg
 base:=base
 A:=A.deeper (envOfC qual scope s.heap.objs.size f cd)
 N:=N
 aC:=s
 bM:=H
 env:=envOfC qual scope s.heap.objs.size f cd
 outer:=outer
 stack:=envOfC qual scope s.heap.objs.size f cd::outer
 ex:=[]
 calm:=true
 fn:=λ_=>true
 pn:=[]
 xe:=λe s'=>wpAny (model P w) (A.deeper (envOfC qual scope s.heap.objs.size f cd)) (leaving (envOfC qual scope s.heap.objs.size f cd) e) (λ_ pQ=>CX outer H s E e pQ) (λe' pQ=>CX outer H s E e' pQ) s'
theorem EM(h:sc.names.lookup x=some .cell):∃ c,(cellsFrom n sc.names []).lookup x=some c:=by have q:=ZT sc.names n [] (.inl h);exact Zz.mp q
theorem Nm{CX:mz}{f:Addr}{cd:Value}{outer:List Env}{s1:Shared}{H:Hp}{E:XK}{vs:List V}
  (S:aj N ps scope) (hd:A.handled=none) (e0:oA P w K mg base A outer s H) (hl:vs.length=ps.length) (r:bo vs us)
  (x:InCallC s s.heap.objs.size (bindL (envOfC qual scope s.heap.objs.size f cd).kindOf (ps.zip us) λ_=>none) (cellsFrom (s.heap.objs.size+1) scope.names []) (bindC (envOfC qual scope s.heap.objs.size f cd).kindOf (ps.zip us) λ_=>none) s1) :
  Inv (ir CX P w K mg base N qual scope f cd A outer s H E) [] (i4 N vs) H s1:=by
 have cB:ps.length<=N.length:=by have:=ZR List.length S.pre;rw[Q7]at this;omega
 obtain⟨h1,tk,rfl,hk⟩:=x.done;have vf:∀ b:Addr,b ∉ (ir CX P w K mg base N qual scope f cd A outer s H E).ex:=λb z=>absurd (show b∈([]:List Addr)from z) (by simp);refine⟨⟨e0.mod,S.kind,rfl,rfl,Qf _,λy z c h1 h2=>?_,λy hy=>?_,λy c _ h=>?_,λ_=>hd,Around.frames_deeper e0.frames,.inr ⟨rfl,rfl⟩,λb z=>absurd z (vf b),e0.bs,e0.mq,λb _ _=>vf b,λb z=>absurd z (vf b),e0.fB,e0.qX⟩,
  rfl,e0.bare,Un.kept hk,⟨_,x.toInCall.ns,λi y v h1 h2 h3=>?_⟩,λy c h=>⟨_,x.cell y c h⟩,e0.aP.fresh (Qf _),λy c h=>?_,λp hp=>absurd (show p∈([]:List (Addr×Obj))from hp) (by simp),e0.aP.kept hk,?_⟩
 .exact name_of_addr x.apart (QM h1) (QM h2)
 .have hy:scope.names.lookup y=some .cell\/scope.names.lookup y=some .free:=hy;rcases hy with hy|hy
  .exact EM hy
  .exact absurd rfl (S.rh _ (QM hy))
 .exact ZF (x.above y c (QM h))
 .have hi:i<vs.length:=by
   unfold i4 at h2;by_cases hi:i<vs.length
   .exact hi
   .rw[QX (by simpa using hi)]at h2;rw[Q8]at h2;split at h2<;>cases h2
  have ha:vs[i]? = some v:=by
   unfold i4 at h2;rw[QL (by simpa using hi),Qw]at h2;cases e:vs[i]? with
   | none=>rw[e]at h2;cases h2
   | some a=>rw[e]at h2;cases h2;rfl
  obtain⟨u,hu,rv⟩:=r.get ha;have hp:ps[i]? = some y:=by rw[<- S.pre,Je (by omega)];exact h1
  have EN:ps.Nodup:=by rw[<- S.pre];exact S.nd.sublist (List.take_sublist _ _)
  refine⟨u,rv,?_⟩;rcases S.par y (YU hp)with k|k
  .exact .inl ⟨k,EK EN hp hu k⟩
  .obtain⟨c,e⟩:=EM (n:=s.heap.objs.size+1) k;refine .inr ⟨.inl k,c,e,?_⟩;have q:=x.cell y c e;rw[EL EN hp hu (by show scope.names.lookup y≠_;rw[k];decide)]at q;exact q
 .exact e0.aP.fresh (ZF (x.above y c (QM h)))
 .unfold i4;show _=N.length;rw[Qj,Qg,Q3];omega
theorem EO{CX:mz}{k:Nat}{f:Addr}{name:Str}{params:Arguments}{dV kV doc pm bA ct oc:Value}{an od:Option Addr}
  {nK:Array (Option Value)}  {sp:Sp} (lk:K.lookup f=some ⟨oc,od,.func (W.fnOf name qual params body scope dV kV doc pm an bA ct),nK⟩) (gX:W.codeIn K bA qual=true) (S:aj N ps scope)
  (len:∀ vs H Q E,sp vs H Q E->vs.length=ps.length)
  (mB:∀ (A:Around) (outer:List Env) (s:Shared) (H:Hp) (vs:List V) (Q:VK) (E:XK),bc k (A.deeper (envOfC qual scope s.heap.objs.size f bA))->sp vs H Q E->
    ∃ t,gV (ir CX P w K mg base N qual scope f bA A outer s H E) body t/\t { nx:=λ_ H'=>Q .aF H',rt:=Q } (i4 N vs) H) :
  dS P w K mg base CX (k+1) f (W.fnOf name qual params body scope dV kV doc pm an bA ct) ps sp:=by
 refine⟨len,λA outer s H args us vs Q E hr e0 hb r jg=>?_⟩;have hl:=len _ _ _ _ jg;have KX:K.In s.heap:=e0.mod.u3.keeps λb o e=>(e0.bs b o e).1;have lim:s.heap.NoLimit:=e0.mod.nolimit.keeps λb o e=>(e0.bs b o e).1;have vg:∀ y∈ps.zip us,scope.names.lookup y.1=some .local\/(scope.names.lookup y.1=some .cell/\((cellsFrom (s.heap.objs.size+1) scope.names []).lookup y.1).isSome=true):=λ⟨n,v⟩ hy=>by
  rcases S.par n (YE hy).1 with q|q
  .exact .inl q
  .exact .inr ⟨q,ZT _ _ _ (.inl q)⟩
 refine codeAny_call_function hr.depth (KX _ _ lk) rfl S.co S.gen rfl (W.codeRec_of KX gX) (hb _ _ _ _ ?_);refine wpAny_newFunctionEnv_cells S.kind vg λenv he s1 x=>?_;subst he;refine⟨lim.keeps x.toInCall.keep,codeAny_func ?_⟩;obtain⟨t,ht,hq⟩:=mB A outer s H vs Q E (hr.deeper _) jg;have I:Inv (ir CX P w K mg base N qual scope f bA A outer s H E) [] (i4 N vs) H s1:=Nm S hr.hd e0 hl r x;refine Zs (ht [] s1 (i4 N vs) H _ I hq) (λfl s' hs=>?_) λe s' hs=>hs;have fin:∀ {aT:St} {H':Hp} {v:V} {u:Value},Inv (ir CX P w K mg base N qual scope f bA A outer s H E) [] aT H' s'->bT v u->Q v H'->CE outer P w H s Q u s':=
  λ{aT H' v u} J rv q=>⟨v,H',J.os,J.bare,J.base,J.aP,rv,q⟩
 cases fl with
 | ret u=>
  obtain⟨v,aT,H',J,rv,q⟩:=hs;exact fin J rv q
 | next=>
  obtain⟨aT,H',J,q⟩:=hs;exact fin (v:=V.aF) (u:=Value.none) J rfl q
 | brk=>
  obtain⟨_,_,_,q⟩:=hs;exact False.elim q
 | cont=>
  obtain⟨_,_,_,q⟩:=hs;exact False.elim q
section
variable {X:Cx}{x:Str}{p pos:Pos}{e:Expr}{es:List Expr}{t:TA}{id T:String}{r:List V->Hp->VK->Prop}
def x6 (r:List V->Hp->VK->Prop)(t:TA):TE:=λσ H Q=>t σ H λvs H1=>r vs H1 Q
theorem nN(hc:jU X (.builtin id) r)(hg:Gl X x)(hm:X.mg x=none)(hv:bootBuiltins x=some (.builtin id))(ha:PA X (e::es) t)(hn:x ≠ "__name__":=by decide)(gZ:(x==("__debug__":Str))=false:=by decide)
  (he:starEach (e::es) X.env=(false,eval e X.env)::starEach es X.env:=by rfl) (cB:(backTo pos (starEach es X.env)).any (·.1)=false:=by rfl):PE X (.Call (.Name x p) (e::es) [] pos) (x6 r t):=by intro Uf s σ H Q I h;refine Jj (tL I hg hm hv ?_ hn gZ);exact PyProof.Rows.callWith_builtin1 (bg (ha pos Uf s σ H _ I h) λus s1 ⟨vs,H1,I1,r1,q1⟩=>hc Uf s1 σ H1 vs us Q I1 r1 q1) he cB
theorem tN(hc:jU X (.type T) r)(hg:Gl X x)(hm:X.mg x=none)(hv:bootBuiltins x=some (.type T))(ha:PA X (e::es) t)(hn:x ≠ "__name__":=by decide)(gZ:(x==("__debug__":Str))=false:=by decide)
  (he:starEach (e::es) X.env=(false,eval e X.env)::starEach es X.env:=by rfl) (cB:(backTo pos (starEach es X.env)).any (·.1)=false:=by rfl):PE X (.Call (.Name x p) (e::es) [] pos) (x6 r t):=by intro Uf s σ H Q I h;refine Jj (tL I hg hm hv ?_ hn gZ);exact ZG (bg (ha pos Uf s σ H _ I h) λus s1 ⟨vs,H1,I1,r1,q1⟩=>hc Uf s1 σ H1 vs us Q I1 r1 q1) he cB
end
end L2
namespace HT
open PySem PyProof.Rows
variable {Q:Tk}{hi lo:Option Int}{sl t:Addr}{vl vu:Value}
section
open PySem.SeqAt
open PySem.AutoSeq1 (wpAny_loadPart')
open PySem.MeetsSeq PySem.MeetsSeq2 PySem.MeetsSeq3
end
section
variable {prog:Program}{w:World}{A:Around}{E:Tk}{s:Shared}
theorem Np{b:Addr}{vs ws:List Value}(ht:IsTup s.heap t vs.toArray)(hb:IsTup s.heap b ws.toArray)(hv:vs ≠ [])
  (h1:ws=[]->Q (.ref t) s) (h2:ws ≠ []->Q (.ref s.heap.objs.size) { s with heap:=s.heap.push { cls:=.type "tuple",data:=.seq (vs++ws).toArray } })
  (hsz:vs.length+ws.length<=sizeLine):wpAny (model prog w) A (binaryOp .Add (.ref t) (.ref b)) Q E s:=by
 obtain⟨⟨cls,dd,data,sl⟩,ho,hc,n,hd⟩:=id ht;obtain⟨⟨An,x8,data2,x9⟩,rj,ku,n2,hd2⟩:=id hb;simp only at hc hd ku hd2;subst hc hd ku hd2;have e:vs.toArray++ws.toArray=(vs++ws).toArray:=by simp
 by_cases hw:ws=[]
 .exact Yx ⟨_,ho,rfl⟩ ⟨_,rj,rfl⟩ Yk seq_tuple_add Jo Jl (Jf _ _)
   (tuple_addW1 t b vs.toArray ws.toArray n n2 dd x8 sl x9 (by simpa using hv) (by simp[hw])) ⟨ho,rj,h1 hw⟩
 .refine Yx ⟨_,ho,rfl⟩ ⟨_,rj,rfl⟩ Yk seq_tuple_add Jo Jl (Jf _ _)
   (tuple_addW2 t b vs.toArray ws.toArray n n2 dd x8 sl x9 (by simpa using hv) (by simpa using hw) (by rw[Qk,Qk];exact hsz)) ⟨ho,rj,?_⟩
  rw[e];exact h2 hw
def bq (n d:Nat):Option Int->Nat
 | none=>d
 | some v=>if v<0 then(v+(n:Int)).toNat else min v.toNat n
theorem Nq(n d k:Nat):bq n d (some (k:Int))=min k n:=by show(if(k:Int)<0 then((k:Int)+(n:Int)).toNat else min (k:Int).toNat n)=min k n;rw[Qt (by omega),Yc]
theorem Nr(n d:Nat)(hd:d<=n)(o:Option Int):bq n d o<=n:=by
 cases o with
 | none=>exact hd
 | some v=>
  show(if v<0 then(v+(n:Int)).toNat else min v.toNat n)<=n;by_cases hv:v<0
  .rw[Ql hv];omega
  .rw[Qt hv];exact Nat.min_le_right _ _
theorem ER(v:Int)(n d:Nat):(if v<0 then max (v+(n:Int)) 0 else min v (n:Int))=((bq n d (some v):Nat):Int):=by
 show(if v<0 then max (v+(n:Int)) 0 else min v (n:Int))=(((if v<0 then(v+(n:Int)).toNat else min v.toNat n):Nat):Int);by_cases hv:v<0
 .simp only[Ql hv];omega
 .simp only[Qt hv];omega
theorem Nt(lo hi:Option Int)(n:Nat):Builtin.Slice.sliceAdjust lo hi 1 (n:Int)=(((bq n 0 lo:Nat):Int),((bq n n hi:Nat):Int)):=by
 have h1:¬ ((1:Int)<0):=by omega
 unfold Builtin.Slice.sliceAdjust;simp only[h1,JV];refine Prod.ext ?_ ?_
 .cases lo with
  | none=>rfl
  | some v=>exact ER v n 0
 .cases hi with
  | none=>rfl
  | some v=>exact ER v n n
theorem Nu(i j:Nat):Builtin.Slice.slicePlaces (i:Int) (j:Int) 1=j-i:=by
 unfold Builtin.Slice.slicePlaces;have h1:(1:Int) > 0:=by omega
 simp only[h1,Z7,Int.ediv_one];split<;>omega
theorem ES{v:Value}{o:Option Int}{Q:Option Int->Shared->Prop}(p:IsPart v o)(h:Q o s):wpAny (model prog w) A (Builtin.Slice.slicePartIndex v) Q E s:=by
 cases p with
 | none=>exact slicePart_none h
 | int i t=>exact slicePart_int h
theorem ET{n:Nat}{Q:Int×Int×Nat->Shared->Prop}(hs:s.heap.IsSliceOf sl vl vu .none)(pl:IsPart vl lo)(pu:IsPart vu hi)
  (h:Q (((bq n 0 lo:Nat):Int),1,bq n n hi-bq n 0 lo) s):wpAny (model prog w) A (Builtin.Slice.sliceApplied (.ref sl) (pure (n:Int))) Q E s:=by obtain⟨os,rm,x_,oB⟩:=id hs;unfold Builtin.Slice.sliceApplied Builtin.Slice.sliceFields;refine Qa (Qa (Jm rm oB (x:=vl) rfl (Qa (Jm rm oB (x:=vu) rfl (Qa (Jm rm oB (x:=.none) rfl (Qe ?_)))))));refine Qa (slicePart_none ?_);show wpAny _ _ (if((1:Int)==0)=true then _ else _) _ _ s;rw[Qt (by decide)];refine Qa (ES pl (Qa (ES pu (Qa (Qe ?_)))));show wpAny _ _ (match Builtin.Slice.sliceAdjust lo hi 1 (n:Int)with|(lo,hi)=>pure (lo,(1:Int),Builtin.Slice.slicePlaces lo hi 1)) _ _ s;rw[Nt lo hi n];show wpAny _ _ (pure (((bq n 0 lo:Nat):Int),(1:Int),Builtin.Slice.slicePlaces ((bq n 0 lo:Nat):Int) ((bq n n hi:Nat):Int) 1)) _ _ s;rw[Nu];exact Qe h
theorem Nv(xs:Array Value)(i k:Nat):((range k).filterMap λ(m:Nat)=>xs[((i:Int)+(m:Int)*1).toNat]?).toArray=((xs.toList.drop i).take k).toArray:=by
 have e:(λ(m:Nat)=>xs[((i:Int)+(m:Int)*1).toNat]?)=λm=>xs[i+m]?:=by
  funext m;have:((i:Int)+(m:Int)*1).toNat=i+m:=by omega
  rw[this]
 rw[e];have:=pick_run xs i k;rw[List.filterMap_map]at this;have e2:((λx=>xs[x]?) ∘ λx=>i+x)=λm=>xs[i+m]?:=rfl;rw[e2]at this;rw[this]
theorem Nw{items:Array Value}(ht:IsTup s.heap t items)(hs:s.heap.IsSliceOf sl vl vu .none)(pl:IsPart vl lo)(pu:IsPart vu hi)
  (hw:¬ (bq items.size 0 lo=0/\bq items.size items.size hi=items.size))
  (h:Q (.ref s.heap.objs.size) { s with heap:=s.heap.push { cls:=.type "tuple",data:=.seq ((items.toList.drop (bq items.size 0 lo)).take (bq items.size items.size hi-bq items.size 0 lo)).toArray } })
  (hsz:items.size<=sizeLine):wpAny (model prog w) A (getItem (.ref t) (.ref sl)) Q E s:=by
 have ky:sizeOk (.seq ((items.toList.drop (bq items.size 0 lo)).take (bq items.size items.size hi-bq items.size 0 lo)).toArray):=by show((items.toList.drop (bq items.size 0 lo)).take (bq items.size items.size hi-bq items.size 0 lo)).toArray.size<=sizeLine;rw[Qk,Q7,Z8,ZD];omega
 have hj:bq items.size items.size hi<=items.size:=Nr _ _ (Qf _) hi;obtain⟨os,rm,x_,oB⟩:=id hs;have Nx:s.TypeIs (.ref sl) "slice":=⟨os,rm,x_⟩;unfold getItem
 try with_reducible refine Zk ?_
 first|refine Qa (Qe ?_)|skip
 refine Qa (wpAny_sequenceKey ht.typeIs (by decide) ?_);refine Qa (Zm (name:=Str.ofString "__getitem__") ht.typeIs Q2
  (Zn Q2 ht.typeIs entry_tuple_getitem ?_ (args_tuple_getitem _ _)))
 show wpAny _ _ (Builtin.Tuple.tupleItemsOf (.ref t) >>= _) _ _ s;refine Qa (tupleItemsOf_ ht ?_);refine Qa (JO Nx ?_);rw[Ql (by decide)];refine Qa (ET hs pl pu ?_);have Ao:¬ ((((bq items.size 0 lo:Nat):Int)==0&&(1:Int)==1&&(bq items.size items.size hi-bq items.size 0 lo)==items.size)=true):=by intro q;rw[Zo,Zo]at q;have q1:((bq items.size 0 lo:Nat):Int)=0:=eq_of_beq q.1.1;have q2:bq items.size items.size hi-bq items.size 0 lo=items.size:=eq_of_beq q.2;exact hw ⟨by omega,by omega⟩
 show wpAny _ _ (if(((bq items.size 0 lo:Nat):Int)==0&&(1:Int)==1&&(bq items.size items.size hi-bq items.size 0 lo)==items.size)=true then _ else _) _ _ s;rw[Qt Ao,Nv]
 first
  | exact Qa (m:=Builtin.Tuple.tupleExact _) (Q1 (Qe ⟨_,rfl,Qe h⟩) ky)
  | exact Qa (m:=Builtin.Tuple.tupleExact _) (Q1 (Qa (Qe (Qe ⟨_,rfl,Qe h⟩))) ky)
  | exact Qa (Qa (m:=Builtin.Tuple.tupleExact _) (Q1 (Qe (Qe ⟨_,rfl,Qe h⟩)) ky))
  | exact Qa (Qa (m:=Builtin.Tuple.tupleExact _) (Q1 (Qe ⟨_,rfl,Qe h⟩) ky))
end
end HT
namespace L2
open PySem PySem.Spec PyProof.Rows
variable {H:Hp}{i:Int}{j n:Nat}{Uf:List (Addr×Obj)}{r:V->Option Int->Option Int->Hp->VK->Prop}{s:Shared}{us:List Value}{xs:List V}{σ:St}
abbrev TO:=St->Hp->(Option Int->Hp->Prop)->Prop
def PO (X:Cx)(e:Option Expr)(t:TO):Prop:=
 ∀ (Uf:List (Addr×Obj)) (s:Shared) (σ:St) (H:Hp) (Q:Option Int->Hp->Prop),Inv X Uf σ H s->t σ H Q->
  wpAny (model X.prog X.w) X.A (evalPart e X.env) (λu s'=>∃ o H',Inv X Uf σ H' s'/\IsPart u o/\Q o H') X.xe s
def Ny:TO:=λ_ H Q=>Q none H
def Nz (t:TE):TO:=λσ H Q=>t σ H λx H1=>∃ i,x=.int i/\Q (some i) H1
section
variable {X:Cx}{e:Expr}{te:TE}{lo hi:Option Expr}{tl th:TO}{pos p2:Pos}
theorem NA:PO X none Ny:=by intro Uf s σ H Q I h;rw[evalPart_none];exact Qe ⟨none,H,I,.none,h⟩
theorem NB(h:PE X e te):PO X (some e) (Nz te):=by intro Uf s σ H Q I hw;rw[evalPart_some];refine bg (h Uf s σ H _ I hw) λu s1 ao=>?_;obtain⟨x,H1,I1,r1,q1⟩:=ao;obtain⟨i,rfl,q⟩:=q1;obtain⟨t,rfl⟩:=r1;exact⟨some i,H1,I1,.int i t,q⟩
def pR (X:Cx)(r:V->Option Int->Option Int->Hp->VK->Prop):Prop:=
 ∀ (Uf:List (Addr×Obj)) (s:Shared) (σ:St) (H:Hp) (x:V) (v vl vu:Value) (lo hi:Option Int) (sl:Addr) (Q:VK),Inv X Uf σ H s->bT x v->s.heap.IsSliceOf sl vl vu .none->IsPart vl lo->IsPart vu hi->r x lo hi H Q->
  ∃ T id,typeLookup (.type T) "__getitem__" = pure (some (.builtin id))/\s.TypeIs v T/\wpAny (model X.prog X.w) X.A (getItem v (.ref sl)) (EP X Uf σ Q) X.xe s
theorem pR.or{r':V->Option Int->Option Int->Hp->VK->Prop}(h:pR X r)(h':pR X r'):pR X (λx lo hi H Q=>r x lo hi H Q\/r' x lo hi H Q):=by
 intro Uf s σ H x v vl vu lo hi sl Q I rx hs pl pu q;rcases q with q|q
 .exact h Uf s σ H x v vl vu lo hi sl Q I rx hs pl pu q
 .exact h' Uf s σ H x v vl vu lo hi sl Q I rx hs pl pu q
def NC (r:V->Option Int->Option Int->Hp->VK->Prop)(te:TE)(tl th:TO):TE:=λσ H Q=>te σ H λx H1=>tl σ H1 λl H2=>th σ H2 λu H3=>r x l u H3 Q
theorem ND(hr:pR X r)(he:PE X e te)(hl:PO X lo tl)(hu:PO X hi th):PE X (.Subscript e (.Slice lo hi none p2) pos) (NC r te tl th):=by intro Uf s σ H Q I h;refine Subscript_ (bg (he Uf s σ H _ I h) λv s1 ao=>?_);obtain⟨x,H1,I1,r1,q1⟩:=ao;refine wpAny_Slice (bg (hl Uf s1 σ H1 _ I1 q1) λvl s2 ⟨l,H2,I2,pl,q2⟩=>bg (hu Uf s2 σ H2 _ I2 q2) λvu s3 ao=>?_);obtain⟨u,H3,I3,pu,q3⟩:=ao;rw[evalPart_none];refine Qe ?_;have I4:Inv X Uf σ H3 { s3 with heap:=s3.heap.push { cls:=.type "slice",data:=.fields #[vl,vu,.none] } }:=I3.kept (t':=s3.toks) λb ob q=>Qd _ q;obtain⟨T,id,hT,ht,hg⟩:=hr Uf { s3 with heap:=s3.heap.push { cls:=.type "slice",data:=.fields #[vl,vu,.none] } } σ H3 x v vl vu l u s3.heap.objs.size Q I4 r1 (Heap.IsSliceOf.new ..) pl pu q3;show wpAny (model X.prog X.w) X.A (subscriptTail e (.Slice lo hi none p2) v (.ref s3.heap.objs.size)) (EP X Uf σ Q) X.xe { s3 with heap:=s3.heap.push { cls:=.type "slice",data:=.fields #[vl,vu,.none] } };exact tail_any (ops:=[.ref s3.heap.objs.size,v]) ht hT hg (by with_unfolding_all rfl)
def pS (xs:List V)(lo hi:Option Int):List V:=(xs.drop (HT.bq xs.length 0 lo)).take (HT.bq xs.length xs.length hi-HT.bq xs.length 0 lo)
theorem EU(xs:List V)(lo hi:Option Int):(pS xs lo hi).length<=xs.length:=by unfold pS;rw[Q7,Z8];omega
def NF (K:PySem.W.Frag):V->Option Int->Option Int->Hp->VK->Prop:=λx lo hi H Q=>∃ a xs,x=.ref a/\du K H a xs /\
 ¬ (HT.bq xs.length 0 lo=0/\HT.bq xs.length xs.length hi=xs.length)/\∀ p,H p=none->Q (.ref p) (upd H p (.tup (pS xs lo hi)))
theorem NH:pR X (NF X.K):=by
 intro Uf s σ H x v vl vu lo hi sl Q I rx hs pl pu h;obtain⟨a,xs,rfl,hx,hw,q⟩:=h;cases rx;obtain⟨ar,r,ht,hz⟩:=I.tuple hx;have hlen:ar.toArray.size=xs.length:=by rw[Qk];exact r.length.symm
 refine⟨"tuple",_,Q2.lookup,ht.typeIs,?_⟩;refine HT.Nw ht hs pl pu (by rw[hlen];exact hw) ?_ (by rw[hlen];exact hz);rw[hlen];refine⟨.ref s.heap.objs.size,_,I.laid (t':=s.toks) (o:=.tup (pS xs lo hi)) (λb ob q=>Qd _ q) (Qf _) ?_,rfl,q _ (I.aP.fresh (Qf _))⟩;exact⟨QF (EU xs lo hi) hz,_,(r.drop (HT.bq xs.length 0 lo)).take (HT.bq xs.length xs.length hi-HT.bq xs.length 0 lo),kY.new _ _⟩
def NI (K:PySem.W.Frag):R2:=λx y H Q=>∃ a b xs ys,x=.ref a/\y=.ref b/\du K H a xs/\du K H b ys/\xs ≠ []/\xs.length+ys.length<=sizeLine /\
 (ys=[]->Q (.ref a) H)/\(ys ≠ []->∀ p,H p=none->Q (.ref p) (upd H p (.tup (xs++ys))))
theorem bo.iJ(r:bo xs us):us=[] ↔ xs=[]:=by
 cases r with
 | nil=>simp
 | cons _ _=>simp
theorem NJ:cU X (binaryOp .Add) (NI X.K):=by intro Uf s σ H x y v u Q I rx ry h;obtain⟨a,b,xs,ys,rfl,rfl,ha,hb,hx,hz,q1,q2⟩:=h;cases rx;cases ry;obtain⟨ar,r1,p1,_⟩:=I.tuple ha;obtain⟨g7,r2,p2,_⟩:=I.tuple hb;refine HT.Np p1 p2 (λz=>hx (r1.iJ.mp z)) (λz=>⟨.ref a,H,I,rfl,q1 (r2.iJ.mp z)⟩) (λz=>?_) (by rw[<- r1.length,<- r2.length];exact hz);refine⟨.ref s.heap.objs.size,_,I.laid (t':=s.toks) (o:=.tup (xs++ys)) (λb ob q=>Qd _ q) (Qf _) ?_,rfl,q2 (λw=>z (r2.iJ.mpr w)) _ (I.aP.fresh (Qf _))⟩;exact⟨by rw[Qj];exact hz,_,r1.append r2,kY.new _ _⟩
end
def g8 (n:Nat)(i:Int):Option Nat:=if 0<=i then(if i<n then some i.toNat else none)else if -(n:Int)<=i then some (i+n).toNat else none
def dz {α:Type}(xs:List α)(i:Int):Option α:=(g8 xs.length i).bind λj=>xs[j]?
theorem Ap(h:g8 n i=some j):seqIndex? i n=some j/\j<n /\ -(n:Int)<=i/\i<n:=by
 unfold g8 at h;by_cases h0:0<=i
 .rw[Ql h0]at h;by_cases h1:i<n
  .rw[Ql h1]at h;have e:i.toNat=j:=QJ h;exact⟨by rw[seqIndex_of h0 h1,e],by omega,by omega,h1⟩
  .rw[Qt h1]at h;cases h
 .rw[Qt h0]at h;by_cases h1:-(n:Int)<=i
  .rw[Ql h1]at h;have e:(i+n).toNat=j:=QJ h;exact⟨by rw[seqIndex_neg (by omega) h1,e],by omega,h1,by omega⟩
  .rw[Qt h1]at h;cases h
theorem Aq{α:Type}{xs:List α}{v:α}(h:dz xs i=some v):∃ j,seqIndex? i xs.length=some j/\xs[j]? = some v/\j<xs.length /\ -(xs.length:Int)<=i/\i<xs.length:=by
 unfold dz at h;cases e:g8 xs.length i with
 | none=>rw[e]at h;cases h
 | some j=>
  rw[e]at h;obtain⟨h1,h2,h3,h4⟩:=Ap e;exact⟨j,h1,h,h2,h3,h4⟩
theorem EV{α:Type}{xs:List α}{v:α}(h:xs[j]? = some v):dz xs (j:Int)=some v:=by
 have hj:j<xs.length:=(Qq.mp h).1;have e:g8 xs.length (j:Int)=some j:=by unfold g8;rw[Ql (by omega),Ql (by omega)];simp
 unfold dz;rw[e];exact h
def tO (b:Expr):Prop:=∀ o i,subscripted b false o i=operate [o,i] (getItem o i)
def oD (X:Cx)(r:R2):Prop:=
 ∀ (value slice:Expr) (Uf:List (Addr×Obj)) (s:Shared) (σ:St) (H:Hp) (x y:V) (v u:Value) (Q:VK),Inv X Uf σ H s->bT x v->bT y u->r x y H Q->
  subscripted slice false v u=operate [v,u] (getItem v u)->wpAny (model X.prog X.w) X.A (subscriptTail value slice v u) (EP X Uf σ Q) X.xe s
def ya (X:Cx)(id:String)(r:V->List V->Hp->VK->Prop):Prop:=
 ∀ (Uf:List (Addr×Obj)) (s:Shared) (σ:St) (H:Hp) (x:V) (xs:List V) (v:Value) (us:List Value) (Q:VK),Inv X Uf σ H s->bT x v->bo xs us->r x xs H Q->
  wpAny (model X.prog X.w) X.A (call (.builtin id) (v::us)) (EP X Uf σ Q) X.xe s
section
variable {X:Cx}{a b:Expr}{ta tb:TE}{pos:Pos}
theorem oD.or{r r':R2}(h:oD X r)(h':oD X r'):oD X (λx y H Q=>r x y H Q\/r' x y H Q):=by
 intro value slice Uf s σ H x y v u Q I rx ry q hs;rcases q with q|q
 .exact h value slice Uf s σ H x y v u Q I rx ry q hs
 .exact h' value slice Uf s σ H x y v u Q I rx ry q hs
theorem vh{r:R2}(hr:oD X r)(ha:PE X a ta)(hb:PE X b tb)(hs:tO b):PE X (.Subscript a b pos) (jF r ta tb):=by intro Uf s σ H Q I h;exact Subscript_ (Ag ha hb I h λv u s2 x y H2 I2 rx ry q=>hr a b Uf s2 σ H2 x y v u Q I2 rx ry q (hs _ _))
def EW (K:PySem.W.Frag):R2:=λx y H Q=>∃ p xs i v,x=.ref p/\y=.int i/\cQ K H p xs/\dz xs i=some v/\Q v H
def EX (K:PySem.W.Frag):R2:=λx y H Q=>∃ p xs i v,x=.ref p/\y=.int i/\du K H p xs/\dz xs i=some v/\Q v H
def EY:R2:=λx y H Q=>∃ z i c,x=.str z/\y=.int i/\z.length<=sizeLine/\dz z.cps.toList i=some c/\Q (.str ⟨#[c]⟩) H
theorem NK:oD X (EW X.K):=by
 intro value slice Uf s σ H x y v u Q I rx ry h hs;obtain⟨p,xs,i,z,rfl,rfl,hq,he,q⟩:=h;cases rx;obtain⟨t,rfl⟩:=ry;obtain⟨ar,r,pl,hz⟩:=I.list hq;obtain⟨j,h1,h2,h3,h4,h5⟩:=Aq he;obtain⟨w,ew,rn⟩:=r.get h2;have hl:=r.length;have hn:=tM;have fin:EP X Uf σ Q w s:=⟨z,H,I,rn,q⟩;by_cases h0:0<=i
 .have hj:i.toNat=j:=by rw[seqIndex_of h0 h5]at h1;exact QJ h1
  exact item_listR pl.isList h0 (by omega) (by rw[hj];simpa using ew) fin hs
 .have hj:(i+(ar.toArray.size:Int)).toNat=j:=by rw[seqIndex_neg (by omega) h4]at h1;rw[Qk,<- hl];exact QJ h1
  exact subscriptTail_builtinR (x:=w) pl.isList.typeIs slot_list_getitem.lookup
   (wpAny_getItem_list_neg (Q:=λr s'=>r=w/\EP X Uf σ Q r s') pl.isList (by omega) (by rw[Qk]<;>omega) (by omega) (by rw[hj];simpa using ew) ⟨rfl,fin⟩) hs
theorem NL:oD X (EX X.K):=by
 intro value slice Uf s σ H x y v u Q I rx ry h hs;obtain⟨p,xs,i,z,rfl,rfl,hq,he,q⟩:=h;cases rx;obtain⟨t,rfl⟩:=ry;obtain⟨ar,r,pl,hz⟩:=I.tuple hq;obtain⟨j,h1,h2,h3,h4,h5⟩:=Aq he;obtain⟨w,ew,rn⟩:=r.get h2;have hl:=r.length;have hn:=tM;have fin:EP X Uf σ Q w s:=⟨z,H,I,rn,q⟩;exact subscriptTail_builtinR (x:=w) pl.typeIs slot_tuple_getitem.lookup
  (getItem_tuple (j:=j) (Q:=λr s'=>r=w/\EP X Uf σ Q r s') pl (by omega) (by omega) (by rw[Qk,<- hl];exact h1) (by simpa using ew) ⟨rfl,fin⟩) hs
theorem NM:oD X EY:=by
 intro value slice Uf s σ H x y v u Q I rx ry h hs;obtain⟨z,i,c,rfl,rfl,hz,he,q⟩:=h;obtain⟨t,rfl⟩:=rx;obtain⟨t',rfl⟩:=ry;obtain⟨j,h1,h2,h3,h4,h5⟩:=Aq he;have hl:z.cps.toList.length=z.length:=by simp[Str.length]
 rw[hl]at h1 h4 h5;have hn:=tM;exact tail_any (typeIs_str s z t) slot_str_getitem.lookup (getItem_str (c:=c) (by have e1:decide (i < -(2 ^ 63:Int))=false:=QB (by omega);have e2:decide (i ≥ 2 ^ 63)=false:=QB (by omega);rw[e1,e2,Bool.or_false]) (by rw[h1];simpa using h2) ⟨.str ⟨#[c]⟩,H,I.tok _,⟨_,rfl⟩,q⟩) hs
def NN (K:PySem.W.Frag):R2:=λx y H Q=>EW K x y H Q\/EX K x y H Q\/EY x y H Q
theorem vi:oD X (NN X.K):=NK.or (NL.or NM)
theorem NO(ar:List Value)(n j:Nat)(u:Value):Obj.mapSeq (·.setIfInBounds j u) { cls:=.type "list",data:=.seq ar.toArray n }={ cls:=.type "list",data:=.seq (ar.set j u).toArray n }:=by simp[Obj.mapSeq]
theorem Inv.lst{Uf:List (Addr×Obj)}{σ:St}{H:Hp}{s:Shared}{p:Addr}{xs:List V}(I:Inv X Uf σ H s)(h:H p=some (.lst xs)) :
  ∃ (ar:List Value) (n:Nat),bo xs ar/\s.heap.get? p=some { cls:=.type "list",data:=.seq ar.toArray n }/\xs.length<=sizeLine:=by obtain⟨z,ar,n,r,e⟩:=I.aP p _ h;exact⟨ar,n,r,e,z⟩
theorem Inv.rp{p:Addr}{xs ys:List V}{ar its':List Value}{n n':Nat}{f:Obj->Obj}(I:Inv X Uf σ H s)(h:H p=some (.lst xs))
  (ho:s.heap.get? p=some { cls:=.type "list",data:=.seq ar.toArray n }) (hf:f { cls:=.type "list",data:=.seq ar.toArray n }={ cls:=.type "list",data:=.seq its'.toArray n' }) (r:bo ys its') (hz:ys.length<=sizeLine) (t:Nat) :
  Inv X Uf σ (upd H p (.lst ys)) { s with heap:=s.heap.update p f,toks:=t }:=by
 have e:(s.heap.update p f).get? p=some { cls:=.type "list",data:=.seq its'.toArray n' }:=by rw[Z1 f ho (by rw[hf]<;>rfl),hf]
 refine I.write (x:=p) (e:=p) (by rw[h];trivial) (.inl rfl) (λb u hb q=>(Jp _ _ (Jn hb)).trans q) ⟨_,e⟩ ?_;exact⟨hz,its',n',r,e⟩
def NP:V->V->V->Hp->(Hp->Prop)->Prop:=λo i v H Q=>∃ p xs k j,o=.ref p/\i=.int k/\H p=some (.lst xs)/\g8 xs.length k=some j/\Q (upd H p (.lst (xs.set j v)))
theorem EZ:Et X NP:=by
 intro Uf s σ H o i v ov iv u Q I ro ri rv h;obtain⟨p,xs,k,j,rfl,rfl,hp,hj,q⟩:=h;cases ro;obtain⟨t,rfl⟩:=ri;obtain⟨ar,n,r,ho,hz⟩:=I.lst hp;obtain⟨h1,h2,h3,h4⟩:=Ap hj;have hl:=r.length;have hn:=tM;have I':Inv X Uf σ (upd H p (.lst (xs.set j v))) { s with heap:=s.heap.update p (Obj.mapSeq (·.setIfInBounds j u)) }:=
  I.rp hp ho (NO ar n j u) (r.set rv j) (by rw[QA];exact hz) s.toks
 by_cases h0:0<=k
 .have hk:k.toNat=j:=by rw[seqIndex_of h0 h4]at h1;exact QJ h1
  exact W.ki_setAt ho h0 (by omega) (by rw[Qk,<- hl];exact h4) (by rw[hk];exact⟨_,I',q⟩)
 .have hk:(k+(ar.toArray.size:Int)).toNat=j:=by rw[seqIndex_neg (by omega) h3]at h1;rw[Qk,<- hl];exact QJ h1
  exact W.ki_setBack ho (by omega) (by rw[Qk,<- hl];exact h3) (by omega) (by rw[hk];exact⟨_,I',q⟩)
theorem NQ(lo hi:Option Int)(n:Nat):(sliceBounds lo hi none n).1=((HT.bq n 0 lo:Nat):Int)/\(sliceBounds lo hi none n).2.1=((HT.bq n n hi:Nat):Int)/\(sliceBounds lo hi none n).2.2=1:=by
 refine⟨?_,?_,rfl⟩
 .cases lo with
  | none=>simp[sliceBounds,HT.bq]
  | some i=>
   simp only[sliceBounds,HT.bq,Option.getD_none,show(1:Int) > 0 by decide,Z7];by_cases h:i<0
   .simp only[h,Z7]<;>omega
   .simp only[h,JV]<;>omega
 .cases hi with
  | none=>simp[sliceBounds,HT.bq]
  | some i=>
   simp only[sliceBounds,HT.bq,Option.getD_none,show(1:Int) > 0 by decide,Z7];by_cases h:i<0
   .simp only[h,Z7]<;>omega
   .simp only[h,JV]<;>omega
theorem NR(ar:List Value)(lo hi:Option Int):slicePick ar.toArray lo hi none=((ar.drop (HT.bq ar.length 0 lo)).take (HT.bq ar.length ar.length hi-HT.bq ar.length 0 lo)).toArray:=by obtain⟨h1,h2,h3⟩:=NQ lo hi ar.toArray.size;unfold slicePick;rw[h1,h2,h3];simp only[sliceRange_one,pick_run,Qk]<;>rfl
def NS (K:PySem.W.Frag):V->Option Int->Option Int->Hp->VK->Prop:=λx lo hi H Q=>∃ a xs,x=.ref a/\cQ K H a xs/\∀ p,H p=none->Q (.ref p) (upd H p (.lst (pS xs lo hi)))
theorem j6r:pR X (NS X.K):=by intro Uf s σ H x v vl vu lo hi sl Q I rx hs pl pu h;obtain⟨a,xs,rfl,hx,q⟩:=h;cases rx;obtain⟨ar,r,ht,hz⟩:=I.list hx;have hlen:=r.length;refine⟨"list",_,slot_list_getitem.lookup,ht.isList.typeIs,?_⟩;refine wpAny_getItem_list_slice ht.isList hs pl pu .none (by simp) ?_ (by rw[Qk]<;>omega);rw[NR,<- hlen];refine⟨.ref s.heap.objs.size,_,I.laid (t':=s.toks) (o:=.lst (pS xs lo hi)) (λb ob q=>Qd _ q) (Qf _) ?_,rfl,q _ (I.aP.fresh (Qf _))⟩;exact⟨QF (EU xs lo hi) hz,_,0,(r.drop (HT.bq xs.length 0 lo)).take (HT.bq xs.length xs.length hi-HT.bq xs.length 0 lo),Qv _ rfl⟩
theorem Ar:jU X (.builtin "len") (λxs H Q=>∃ p ys,xs=[.ref p]/\(cQ X.K H p ys\/du X.K H p ys)/\Q (.int ys.length) H):=by
 intro Uf s σ H xs us Q I r h;obtain⟨p,ys,rfl,hq,q⟩:=h;obtain⟨u,rfl,rx⟩:=my r;cases rx;have hn:=tM;rcases hq with hq|hq
 .obtain⟨ar,r',pl,hz⟩:=I.list hq;have hlen:=r'.length;exact Calls.call_len_list pl.isList (by simp only[Qk]<;>omega) ⟨.int ys.length,H,I.tok _,⟨s.toks+1,by rw[Qk,hlen]⟩,q⟩
 .obtain⟨ar,r',pl,hz⟩:=I.tuple hq;have hlen:=r'.length;exact len_tuple pl (by simp only[Qk]<;>omega) ⟨.int ys.length,H,I.tok _,⟨s.toks+1,by rw[Qk,hlen]⟩,q⟩
theorem E1:jU X (.type "list") (λxs H Q=>∃ p ys,xs=[.ref p]/\(cQ X.K H p ys\/du X.K H p ys)/\∀ l,H l=none->Q (.ref l) (upd H l (.lst ys))):=by
 intro Uf s σ H xs us Q I r h;obtain⟨p,ys,rfl,hq,q⟩:=h;obtain⟨u,rfl,rx⟩:=my r;cases rx;have fin:∀ (ar:List Value),bo ys ar->ys.length<=sizeLine->∀ (h':Heap) (c':Nat),(∀ b o',s.heap.get? b=some o'->h'.get? b=some o')->
   h'.get? s.heap.objs.size=some { cls:=.type "list",dict:=none,data:=.seq ar.toArray c',slots:=#[] }->EP X Uf σ Q (.ref s.heap.objs.size) { s with heap:=h' }:=λar r' hz h' c' kp e=>
  ⟨.ref s.heap.objs.size,_,I.laid (t':=s.toks) kp (Qf _) (show dh X.prog X.w _ h' _ (.lst ys)from⟨hz,ar,c',r',e⟩),rfl,q _ (I.aP.fresh (Qf _))⟩
 rcases hq with hq|hq
 .obtain⟨ar,r',pl,hz⟩:=I.list hq;have hlen:=r'.length;obtain⟨o,ho,hc,n,hd⟩:=pl.isList;exact call_list_seq p (.inl rfl) ho hc hd (λh' c' kp e=>fin ar r' hz h' c' kp e) (by simp only[Qk]<;>omega)
 .obtain⟨ar,r',pl,hz⟩:=I.tuple hq;have hlen:=r'.length;obtain⟨o,ho,hc,n,hd⟩:=pl;exact call_list_seq p (.inr rfl) ho hc hd (λh' c' kp e=>fin ar r' hz h' c' kp e) (by simp only[Qk]<;>omega)
theorem NT:jU X (.type "tuple") (λxs H Q=>∃ p ys,xs=[.ref p]/\((cQ X.K H p ys/\∀ l,H l=none->Q (.ref l) (upd H l (.tup ys)))\/(du X.K H p ys/\Q (.ref p) H))):=by
 intro Uf s σ H xs us Q I r h;obtain⟨p,ys,rfl,h⟩:=h;obtain⟨u,rfl,rx⟩:=my r;cases rx;rcases h with⟨hq,q⟩|⟨hq,q⟩
 .obtain⟨ar,r',pl,hz⟩:=I.list hq;have hlen:=r'.length;refine call_tuple_list pl.isList (λh' kp=>?_) (by simp only[Qk]<;>omega);have I1:Inv X Uf σ H { s with heap:=h' }:=I.kept (t':=s.toks) kp;have I2:Inv X Uf σ (upd H h'.objs.size (.tup ys)) { s with heap:=h'.push { cls:=.type "tuple",data:=.seq ar.toArray } }:=
   I1.laid (t':=s.toks) (λb o e=>Qd _ e) (Qf _) (show dh X.prog X.w _ _ _ (.tup ys)from⟨hz,ar,r',kY.new _ _⟩)
  exact⟨.ref h'.objs.size,_,I2,rfl,q _ (I1.aP.fresh (Qf _))⟩
 .obtain⟨ar,r',pl,hz⟩:=I.tuple hq;exact call_tuple_same pl ⟨.ref p,H,I,rfl,q⟩
def E2 (K:PySem.W.Frag)(T:String)(x:V)(H:Hp):Prop:=match x with
 | .str _=>T = "str"
 | .int _=>T = "int"
 | .ref p=>(T = "list" /\ ∃ xs,cQ K H p xs)\/(T = "tuple" /\ ((∃ o,K.lookup p=some o/\o.cls=.type "tuple" /\ o.dict=none)\/∃ xs,H p=some (.tup xs))) \/
   (T = "dict" /\ ((∃ aG,H p=some (.dK aG))\/∃ aG,H p=some (.dT aG)))\/(T = "set" /\ ∃ S n,H p=some (.set S n))
 | _=>False
theorem NU{T:String}{x:V}{v:Value}(I:Inv X Uf σ H s)(r:bT x v)(ty:E2 X.K T x H) :
  s.TypeIs v T/\∀ a,v=.ref a->∃ ob,s.heap.get? a=some ob/\ob.dict=none:=by
 cases x with
 | str z=>
  obtain⟨t,rfl⟩:=r;cases (show T = "str" from ty);exact⟨typeIs_str s z t,λ_ e=>nomatch e⟩
 | int i=>
  obtain⟨t,rfl⟩:=r;cases (show T = "int" from ty);exact⟨Yy s i t,λ_ e=>nomatch e⟩
 | ref p=>
  cases r;rcases ty with⟨rfl,xs,hq⟩|⟨rfl,⟨o,hk,hc,hd⟩|⟨xs,hk⟩⟩|⟨rfl,hk⟩|⟨rfl,S,n,hk⟩
  .obtain⟨ar,_,pl,_⟩:=I.list hq;refine⟨pl.isList.typeIs,λa e=>?_⟩;cases e;obtain⟨o,n,e,c,hd,_⟩:=pl;exact⟨o,e,hd⟩
  .refine⟨⟨o,I.fC p o hk,hc⟩,λa e=>?_⟩;cases e;exact⟨o,I.fC _ o hk,hd⟩
  .obtain⟨_,ar,_,o,e,c,_,hd⟩:=(show dh X.prog X.w H s.heap p (.tup xs)from I.aP p _ hk);refine⟨⟨o,e,c⟩,λa e2=>?_⟩;cases e2;exact⟨o,e,hd⟩
  .have z:∃ o,s.heap.get? p=some o/\o.ExactDict:=by
    rcases hk with⟨aG,hk⟩|⟨aG,hk⟩
    .obtain⟨_,_,_,_,o,_,_,e,ex,_⟩:=I.aP p _ hk;exact⟨o,e,ex⟩
    .obtain⟨_,_,_,_,o,_,_,e,ex,_⟩:=I.aP p _ hk;exact⟨o,e,ex⟩
   obtain⟨o,e,ex⟩:=z;refine⟨⟨o,e,ex.1⟩,λa e2=>?_⟩;cases e2;exact⟨o,e,ex.2.1⟩
  .obtain⟨o,_,_,_,e,ex,_⟩:=I.aP p _ hk;refine⟨⟨o,e,ex.1⟩,λa e2=>?_⟩;cases e2;exact⟨o,e,ex.2.1⟩
 | _=>exact False.elim ty
def NV (K:PySem.W.Frag)(T:String)(r:V->List V->Hp->VK->Prop)(to:TE)(t:TA):TE:=λσ H Q=>to σ H λx H1=>E2 K T x H1/\t σ H1 λxs H2=>r x xs H2 Q
variable {o e:Expr}{es:List Expr}{to:TE}{t:TA}{name:Str}{apos aA:Pos}{T id:String}{r:V->List V->Hp->VK->Prop}
theorem rq(pa:PlainAttrs T)(slot:Slot T name id)(oE:typeOf (.builtin id)=pure (.type "method_descriptor"))(hm:ya X id r)(ho:PE X o to)(ha:PA X (e::es) t)
  (cf:attributeBase o name X.env (eval o X.env)=eval o X.env:=by rfl)
  (dJ:((backTo aA (starEach (e::es) X.env)).all (λx=>!x.1)&&(backToKw aA (keywordEach [] X.env)).all (λx=>x.1.isSome)
    && decide ((e::es).length+([]:List Keyword).length+(if([]:List Keyword).isEmpty then 0 else 1)<30))=true:=by rfl)
  (cj:(apos.endLine==aA.line)=true:=by rfl) (hs:starEach (e::es) X.env=(false,eval e X.env)::starEach es X.env:=by rfl) (bN:(backTo aA (starEach es X.env)).any (·.1)=false:=by rfl) :
  PE X (.Call (.Attribute o name apos) (e::es) [] aA) (NV X.K T r to t):=by intro Uf s σ H Q I h;refine wpAny_Call_method_late cf dJ cj rfl (bg (ho Uf s σ H _ I h) λv s1 ao=>?_);obtain⟨x,H1,I1,r1,ty,q1⟩:=ao;obtain⟨h1,h2⟩:=NU I1 r1 ty;refine⟨T,id,pa,slot,oE,h1,h2,?_⟩;have hA:=ha aA Uf s1 σ H1 _ I1 q1;rw[hs]at hA ⊢;refine Calls.callWith_builtin (by show(false||(backTo aA (starEach es X.env)).any (·.1))=false;rw[bN]<;>rfl) (JD ?_);exact bg hA λus s2 ⟨vs,H2,I2,r2,q2⟩=>hm Uf s2 σ H2 x vs v us Q I2 r1 r2 q2
end
def As (X:Cx)(id:String)(r:V->List V->Hp->VK->Prop):Prop:=
 ∀ (Uf:List (Addr×Obj)) (s:Shared) (σ:St) (H:Hp) (x:V) (xs:List V) (v:Value) (us:List Value) (Q:VK),Inv X Uf σ H s->bT x v->bo xs us->r x xs H Q->
  wpAny (model X.prog X.w) X.A (call (.builtin id) (v::us)) (EP X Uf σ Q) X.xe s
theorem bo.one:∀ {x:V} {us:List Value},bo [x] us->∃ u,us=[u]/\bT x u
 | _,_,.cons r .nil=>⟨_,rfl,r⟩
theorem bo.eraseIdx:∀ {xs:List V} {us:List Value} (i:Nat),bo xs us->bo (xs.eraseIdx i) (us.eraseIdx i)
 | _,_,_,.nil=>.nil
 | _,_,0,.cons _ t=>t
 | _,_,i+1,.cons r t=>.cons r (bo.eraseIdx i t)
theorem bo.rep(h:bo xs us):∀ k:Nat,bo (replicate k xs).flatten (replicate k us).flatten
 | 0=>.nil
 | k+1=>by rw[Zv,Zv,ZM,ZM];exact bo.append h (bo.rep h k)
theorem E3{α:Type}:∀ (l:List α) (i:Nat),(l.eraseIdx i).length<=l.length
 | [],_=>Qf _
 | _::_,0=>ZS _
 | _::r,i+1=>Yl (E3 r i)
theorem Au(ar:List Value):∀ (k:Nat) (acc:List Value),
  List.foldl (λx1 x2=>x1++x2) acc.toArray (replicate k ar.toArray)=(acc++(replicate k ar).flatten).toArray
 | 0,acc=>by simp
 | k+1,acc=>by
  have e:acc.toArray++ar.toArray=(acc++ar).toArray:=by simp
  have e2:(acc++ar)++(replicate k ar).flatten=acc++(replicate (k+1) ar).flatten:=by rw[Zv,ZM,QW]
  rw[<- e2,<- Au ar k (acc++ar),<- e,Zv,ZY]
section
variable {X:Cx}{Uf:List (Addr×Obj)}{σ:St}{H:Hp}{s:Shared}{l b:Addr}{xs ys zs:List V}
theorem Inv.rA{ar its':List Value}{n:Nat}{f:Array Value->Array Value}{t':Nat}(I:Inv X Uf σ H s)(hH:H l=some (.lst xs))
  (e:s.heap.get? l=some { cls:=.type "list",data:=.seq ar.toArray n }) (hf:f ar.toArray=its'.toArray) (hv:bo ys its') (hz:ys.length<=sizeLine) :
  Inv X Uf σ (upd H l (.lst ys)) { s with heap:=s.heap.update l (Obj.mapSeq f),toks:=t' }:=by have q:=PySem.IsL.update e f;rw[hf]at q;refine I.write (x:=l) (e:=l) (by rw[hH];exact trivial) (.inl rfl) (λb' u hb hu=>(Jp s.heap (Obj.mapSeq f) (Jn hb)).trans hu) ⟨_,q⟩ ?_;exact⟨hz,its',_,hv,q⟩
theorem Inv.vj{ar:List Value}{t':Nat}(I:Inv X Uf σ H s)(hv:bo ys ar)(hz:ys.length<=sizeLine) :
  Inv X Uf σ (upd H s.heap.objs.size (.lst ys)) { s with heap:=s.heap.push { cls:=.type "list",data:=.seq ar.toArray },toks:=t' }:=
 I.laid (λ_ _ q=>Qd _ q) (Qf _) ⟨hz,ar,0,hv,Qv _ rfl⟩
theorem Inv.fresh(I:Inv X Uf σ H s):H s.heap.objs.size=none:=I.aP.fresh (Qf _)
theorem Inv.mC(I:Inv X Uf σ H s)(hH:H l=some (.lst xs)):xs.length<=sizeLine/\∃ (ar:List Value) (n:Nat),bo xs ar/\xs.length=ar.length/\s.heap.get? l=some { cls:=.type "list",data:=.seq ar.toArray n }:=by obtain⟨z,ar,n,r,e⟩:=I.aP l _ hH;exact⟨z,ar,n,r,r.length,e⟩
theorem E4(h:n<=sizeLine):Builtin.List.listTooLong n=false:=by unfold Builtin.List.listTooLong;exact QB (by omega)
end
section
variable {X:Cx}
def NW:V->List V->Hp->VK->Prop:=λx vs H Q=>∃ l xs y,x=.ref l/\vs=[y]/\H l=some (.lst xs)/\xs.length<sizeLine/\Q .aF (upd H l (.lst (xs++[y])))
theorem E5:As X "list.append" NW:=by intro Uf s σ H x vs v us Q I rx rv h;obtain⟨l,xs,y,rfl,rfl,hH,hz,q⟩:=h;cases rx;obtain⟨u,rfl,ru⟩:=rv.one;obtain⟨z,ar,n,r,hl,e⟩:=I.mC hH;refine ZQ F.slot_list_append ⟨_,e,rfl⟩ F.entry_list_append (F.args_list_append_2 _ _) (PySem.list_append l ar.toArray n u (by rw[Qk];omega)) ⟨e,?_⟩;refine⟨.aF,_,I.rA (its':=ar++[u]) hH e (by simp) (r.append (.cons ru .nil)) ?_,rfl,q⟩;rw[Qj,List.length_singleton];omega
def NX:V->List V->Hp->VK->Prop:=λx vs H Q=>∃ l b xs zs,x=.ref l/\vs=[.ref b]/\H l=some (.lst xs)/\H b=some (.lst zs)/\xs.length+zs.length<=sizeLine/\Q .aF (upd H l (.lst (xs++zs)))
theorem NY:As X "list.extend" NX:=by
 intro Uf s σ H x vs v us Q I rx rv h;obtain⟨l,b,xs,zs,rfl,rfl,hH,hB,hz,q⟩:=h;cases rx;obtain⟨u,rfl,ru⟩:=rv.one;cases ru;obtain⟨z,ar,n,r,hl,e⟩:=I.mC hH;obtain⟨z2,g7,n2,r2,hl2,e2⟩:=I.mC hB;have hsz:ar.toArray.size+g7.toArray.size<=sizeLine:=by rw[Qk,Qk];omega
 have mD:¬ (!ar.toArray.isEmpty&&Builtin.List.listTooLong (ar.toArray.size+g7.toArray.size))=true:=by rw[E4 hsz,Bool.and_false];exact Zy
 refine ZQ F.slot_list_extend ⟨_,e,rfl⟩ F.entry_list_extend (F.args_list_extend_2 _ _)
  (AutoSeq1.list_extend_list_list_0 l ar.toArray n b g7.toArray n2 mD (by rw[Qk];omega) (by omega)) ⟨e,e2,?_⟩
 refine⟨.aF,_,I.rA (its':=ar++g7) hH e (by simp) (r.append r2) ?_,rfl,q⟩;rw[Qj];omega
def NZ:V->List V->Hp->VK->Prop:=λx vs H Q=>∃ l xs i k y,x=.ref l/\vs=[.int i]/\H l=some (.lst xs) /\ -(2 ^ 63)<=i/\i<2 ^ 63/\seqIndex? i xs.length=some k/\xs[k]? = some y/\Q y (upd H l (.lst (xs.eraseIdx k)))
theorem N0:As X "list.pop" NZ:=by
 intro Uf s σ H x vs v us Q I rx rv h;obtain⟨l,xs,i,k,y,rfl,rfl,hH,h1,h2,hk,hy,q⟩:=h;cases rx;obtain⟨u,rfl,ru⟩:=rv.one;obtain⟨t,rfl⟩:=ru;obtain⟨z,ar,n,r,hl,e⟩:=I.mC hH;obtain⟨w,hw,rn⟩:=r.get hy;refine ZQ F.slot_list_pop ⟨_,e,rfl⟩ F.entry_list_pop (F.args_list_pop_2 _ _)
  (MeetsSeq.list_pop_at l ar.toArray n i t k w (fitsIndex_both h1 h2) (by rw[Qk,<- hl];exact hk) (by rw[<- Jw];exact hw) (by rw[Qk];omega)) ⟨e,?_⟩
 refine⟨y,_,I.rA (its':=ar.eraseIdx k) hH e ?_ (r.eraseIdx k) ?_,rn,q⟩
 .show ar.toArray.eraseIdxIfInBounds k=(ar.eraseIdx k).toArray;rw[List.eraseIdxIfInBounds_toArray]
 .have:=E3 xs k;omega
def N1:R2:=λx y H Q=>∃ l k xs,x=.ref l/\y=.int k/\H l=some (.lst xs) /\ -(2 ^ 63)<=k/\k<2 ^ 63/\xs.length*k.toNat<=sizeLine /\
 ∀ p,H p=none->Q (.ref p) (upd H p (.lst (replicate k.toNat xs).flatten))
theorem Av{α:Type}(xs:List α)(k:Nat):(replicate k xs).flatten.length=k*xs.length:=by
 induction k with
 | zero=>simp
 | succ k ih=>rw[Zv,ZM,Qj,ih,JP,Nat.add_comm]
theorem N2:cU X (binaryOp .Mult) N1:=by
 intro Uf s σ H x y v u Q I rx ry h;obtain⟨l,k,xs,rfl,rfl,hH,h1,h2,hz,q⟩:=h;cases rx;obtain⟨t,rfl⟩:=ry;obtain⟨z,ar,n,r,hl,e⟩:=I.mC hH;have hlen:ar.toArray.size*k.toNat<=sizeLine:=by rw[Qk,<- hl];exact hz
 have Aw:¬ ar.toArray.size*k.toNat > (2 ^ 63-1) / 8:=by
  have:(sizeLine:Nat)<=(2 ^ 63-1) / 8:=by decide
  omega
 have Ax:¬ (!Builtin.List.listFitsIndex k)=true:=by rw[fitsIndex_both h1 h2];exact Zy
 have mD:¬ Builtin.List.listTooLong (ar.toArray.size*k.toNat)=true:=by rw[E4 hlen];exact Zy
 have Ay:List.foldl (λx1 x2=>x1++x2) #[] (replicate (if ar.toArray.isEmpty=true then 0 else k.toNat) ar.toArray)=(replicate k.toNat ar).flatten.toArray:=by
  have f0:∀ m:Nat,List.foldl (λx1 x2=>x1++x2) #[] (replicate m ar.toArray)=(replicate m ar).flatten.toArray:=λm=>by have:=Au ar m [];rw[List.nil_append]at this;exact this
  rw[f0];cases ar with
  | nil=>simp
  | cons a r'=>rw[Qt (by simp)]
 refine J2 (T:="list") (U:="int") (by decide) ⟨_,e,rfl⟩ (λs'=>Yy s' k t) noFill_list_mul F.fills_int_mul JF repeat_list F.slot_int_index.lookup
  (ZQ JF (Yy s k t) F.entry_int_rmul (F.args_int_rmul_2 _ _) (int___rmul___int_list k t l ar.toArray n)
    ⟨e,rfl,⟨_,e,rfl⟩,ZQ F.slot_list_mul ⟨_,e,rfl⟩ F.entry_list_mul (F.args_list_mul_2 _ _) (AutoListH.list___mul___list_int_3 l ar.toArray n k t Ax Aw mD) ⟨e,?_⟩⟩)
 rw[Ay];exact⟨.ref _,_,I.vj (t':=s.toks) (r.rep k.toNat) (by rw[Av,Y5];exact hz),rfl,q _ I.fresh⟩
end
end L2
namespace E6
open PySem PySem.W PySem.Calls PyProof.Rows
variable {P:Params}{h:Heap}{l:OpenLaw}{n:Nat}
theorem N3:∀ (ns:List Int) (vs:List Value),WellAll P h vs (ns.map WData.int)->IntsAre vs ns:=by
 intro ns;induction ns with
 | nil=>
  intro vs w;rw[ZU]at w;cases w;exact .nil
 | cons n ns ih=>
  intro vs w;rw[Zf]at w;cases w with
  | cons a b=>
   cases a;exact .cons _ _ (ih _ b)
theorem N4(hn:l.most=some n){args:List WData}{vals:List Value}
  (oF:l.row.toRowW.claim.pre args=true) (Az:WellAll P h vals args) :
  ∃ a vs ns,vals=[Value.ref a]/\args=[WData.list (ns.map WData.int)]/\h.get? a=some { cls:=.type "list",data:=.seq vs.toArray }/\IntsAre vs ns/\ns.length<=n:=by
 have N5:WShape.hasAll [] args [.list .int]=true:=(pre_splitW oF).1;have hc:l.pre.holds [] { args:=args }=true:=(pre_splitW oF).2;obtain⟨d,r,rfl,h1,h2⟩:=hasAllW_cons N5;obtain rfl:=hasAllW_nil h2;obtain⟨xs,rfl,h3⟩:=hasW_list h1;obtain⟨ns,rfl⟩:=items_int h3;have hlen:ns.length<=n:=by
  unfold OpenLaw.pre at hc;have h4:(WTm.not (.lt (.lit (.int (n:Int))) (.len (.arg 0)))).holds [] { args:=[.list (ns.map .int)] }=true:=by have h4:=(holds_andW hc).1;rw[hn]at h4;exact h4
  have h5:=condW_of h4 (w_not (w_lt w_lit (w_len_list (w_arg rfl))));rw[Qg]at h5;refine Nat.le_of_not_lt λq=>?_;have q':(n:Int)<((ns.length:Nat):Int):=by omega
  first
   | (rw[QC q']at h5;exact absurd h5 (by decide))
   | (simp at h5;omega)
 cases Az with
 | cons w1 w2=>
  cases w2;cases w1 with
  | list ho jV=>exact⟨_,_,ns,rfl,rfl,ho,N3 ns _ jV,hlen⟩
theorem N6(l:OpenLaw)(args:List WData):l.row.toRowW.claim.post args (.bool true) args=true:=
 postW_of (r:=l.row.toRowW) (X:=(true==true))
  (show WShape.has [] (.bool true) .bool=true by first|rfl|decide|simp[WShape.has,WShape.arms,WShape.armsAll])
  (show(WTm.eq .res (.lit (.bool true))).value [] { args:=args,res:=some (.bool true),after:=args }=some (.bool (true==true))from w_eq_bool (w_res rfl) w_lit) rfl
theorem N7{q:Program}{loose:List Str}{XP:(Str->Option Value)->Heap->Prop}{YP:World->Heap->Prop}{d:DefRec}
  (hn:l.most=some n) (vk:d.params.defaults=[])
  (call:∀ (w:World) (aC ba:Shared) (mg mb:Str->Option Value) (fa:Addr) (o:Obj) (pm cd doc:Value) (a:Addr) (vs:List Value) (ns:List Int),
    Ground q loose [] XP w aC mg mb ba.heap->YP w ba.heap->
    ba.heap.get? fa=some o->o.data=.func (docDef d.name d.params d.body d.scope pm cd doc)->ba.heap.CodeRec cd d.name->mg d.name=some (.ref fa)->
    ba.heap.get? a=some { cls:=.type "list",data:=.seq vs.toArray }->IntsAre vs ns->ns.length<=n->ba.gens = #[]->
    codeAny (model l.prog w) callerA (.call (.ref fa) ⟨[.ref a],[]⟩) (λr s'=>r=.ok (.ret (.bool true))/\OldK ba.heap s'.heap/\s'.os=ba.os/\AllBare s'.gens) ba) :
  WalkO q loose XP YP l.row.toRowW d [] (λf vs=>PySem.call f vs):=by intro w aC ba mg mb G Y fa o pm cd doc dV kV ho hd gX hD hmg hg args vals as oF N8 hrd Az E7;obtain rfl:dV=.none:=Dflts.none hD vk;obtain rfl:kV=.none:=Dflts.noKw hD;obtain⟨a,vs,ns,rfl,rfl,rB,hints,hlen⟩:=N4 hn oF Az;refine enter_call (Z6 (call w aC ba mg mb fa o pm cd doc a vs ns G Y ho (fd_plain hd) gX hmg rB hints hlen hg) λr s' hq=>?_);obtain⟨rfl,h2,h3,h4⟩:=hq;exact⟨.inl ⟨.bool true,.bool true,[],rfl,λ_=>rfl,.bool true,N6 l _,λ_=>⟨List.Pairwise.nil,λ_ hm=>(nomatch hm)⟩⟩,h2,h3,h4⟩
end E6
namespace L2
open PySem PySem.Spec PyProof.Rows
theorem vm:∀ {vs:List Value} {ns:List Int},IntsAre vs ns->bo (ns.map V.int) vs
 | _,_,.nil=>.nil
 | _,_,.cons n t h=>.cons ⟨t,rfl⟩ (vm h)
def AA (H:Hp):Prop:=∀ b,H b=none\/∃ o xs,H b=some (.fM o (.lst xs))
theorem N9{P:Program}{w:World}{K:PySem.W.Frag}{mg mb:Str->Option Value}{CX:mz}{k:Nat}{fa a:Addr}{fd:FuncData}{x:Str}{sp:Sp}{ba:Shared}{vs:List Value}{ns:List Int}
  (KX:K.In ba.heap) (nO:ba.heap.Ns mainGlobals mg) (hb:ba.heap.Ns builtinsNs mb) (yb:∀ x:Str,x ≠ "__name__"->mb x=bootBuiltins x) (AB:ba.heap.NoLimit) (hg:ba.gens = #[])
  (ha:ba.heap.get? a=some { cls:=.type "list",data:=.seq vs.toArray }) (hi:IntsAre vs ns) (hl:ns.length<=sizeLine) (hr:bc k callerA)
  (F:∀ base:Heap,K.In base->base.Ns mainGlobals mg->dS P w K mg base CX k fa fd [x] sp) (vn:∀ (s:Shared) (u:Value),BindsTo s fd ⟨[u],[]⟩ [(x,u)])
  (jg:∀ H:Hp,AA H->cQ K H a (ns.map V.int)->sp [.ref a] H (λv _=>v=.bl true) λ_ _ _=>False)
  (N_:∀ H e s',CX [] H ba (λ_ _ _=>False) e s'->False) :
  codeAny (model P w) callerA (.call (.ref fa) ⟨[.ref a],[]⟩) (λr s'=>r=.ok (.ret (.bool true))/\OldK ba.heap s'.heap/\s'.os=ba.os/\AllBare s'.gens) ba:=by
 have rv:=vm hi;have AD:=hi.length;have core:∀ H:Hp,AA H->cQ K H a (ns.map V.int)->di P w H ba.heap->(∀ b,H b≠none->b=a)->(H a≠none->K.lookup a=none)->
   codeAny (model P w) callerA (.call (.ref fa) ⟨[.ref a],[]⟩) (λr s'=>r=.ok (.ret (.bool true))/\OldK ba.heap s'.heap/\s'.os=ba.os/\AllBare s'.gens) ba:=by
  intro H hO hS aP hA hK;have kz:∀ {b:Addr} {o:Obj},ba.heap.get? b=some o->H b=none->(oo ba.heap H).get? b=some o:=λe n=>LS e n;have vf:∀ {b:Addr} {o:Obj} {es:Array DictEntry} {ep:Nat},ba.heap.get? b=some o->o.data=.dict es ep->H b=none:=λ{b o es ep} e d=>by
   cases q:H b with
   | none=>rfl
   | some u=>
    have e':b=a:=hA b (by rw[q];simp);subst e';rw[ha]at e;cases e;have d':Data.seq vs.toArray _=Data.dict es ep:=d;cases d'
  have yc:∀ {b:Addr} {m:Str->Option Value},ba.heap.Ns b m->(oo ba.heap H).Ns b m:=λ{b m} ⟨o,es,ep,e,d,r⟩=>⟨o,es,ep,kz e (vf e d),d,r⟩;have E8:K.In (oo ba.heap H):=λb o e=>kz (KX b o e) (by
   cases q:H b with
   | none=>rfl
   | some u=>
    have e':b=a:=hA b (by rw[q];simp);subst e';rw[hK (by rw[q];simp)]at e;cases e)
  have hM:Mod K mg (oo ba.heap H):=⟨E8,yc nO,⟨mb,yc hb,yb⟩,let ⟨mc,h1,h2⟩:=AB;⟨mc,yc h1,h2⟩⟩;have e0:oA P w K mg (oo ba.heap H) callerA [] ba H:=⟨rfl,hM,λb o e=>LU e,Nat.le_of_eq (LR _ _),trivial,λb hb=>absurd (show b∈([]:List Addr)from hb) (by simp),aP,.of_eq hg⟩;refine Z6 ((F _ E8 (yc nO)).run callerA [] ba H ⟨[.ref a],[]⟩ [.ref a] [.ref a] _ _ hr e0 (vn ba (.ref a)) (.cons rfl .nil) (jg H hO hS)) λr s' h=>?_;cases r with
  | error e=>exact(N_ H e s' h).elim
  | ok fl=>
   cases fl with
   | next=>exact False.elim h
   | brk=>exact False.elim h
   | cont=>exact False.elim h
   | ret u=>
    obtain⟨v,H',os,bare,un,AE,r',q⟩:=h;have q':v=.bl true:=q;subst q';obtain rfl:u=Value.bool true:=r';refine⟨rfl,OldK.of_keep λb o e=>?_,os,bare⟩;cases q:H b with
    | none=>exact un.keep b o e q (by intro z;exact absurd (show b∈([]:List Addr)from z) (by simp)) (by simp)
    | some u=>
     rcases hO b with z|⟨ob,xs,z⟩
     .rw[q]at z;cases z
     .have z2:=un.dR b ob _ z;obtain⟨e1,_⟩:=aP b _ z;obtain⟨e2,_⟩:=AE b _ z2;rw[e]at e1;cases e1;exact e2
 cases hk:K.lookup a with
 | some o=>
  have e:=KX a o hk;rw[ha]at e;cases e;refine core (λ_=>none) (λ_=>.inl rfl) (.inr ⟨_,vs.toArray,_,hk,rfl,rfl,rfl,by rw[Qk,AD];exact hl,by simpa using rv⟩) (λb u z=>by have z':(none:Option HO)=some u:=z;cases z') (λb z=>absurd rfl z) λz=>absurd rfl z
 | none=>
  refine core (λb=>if b=a then some (.fM { cls:=.type "list",data:=.seq vs.toArray } (.lst (ns.map V.int)))else none) (λb=>?_) (.inl (.inr ⟨{ cls:=.type "list",data:=.seq vs.toArray },Ql rfl⟩)) (λb u z=>?_) (λb z=>?_) λ_=>hk
  .by_cases hb:b=a
   .exact .inr ⟨_,_,Ql hb⟩
   .exact .inl (Qt hb)
  .by_cases hb:b=a
   .have z':=(Ql hb).symm.trans z;cases z';subst hb;exact⟨ha,by rw[Qg];exact hl,vs,_,rv,ha⟩
   .have z':=(Qt hb).symm.trans z;cases z'
  .by_cases hb:b=a
   .exact hb
   .exact absurd (Qt hb) z
variable {A:Around}{C a c f:Addr}{H H':Hp}{N' ps:List Str}{P:Program}{X:Cx}{cells:List (Str×Addr)}{elt iter:Expr}{env:Env}{fd:FuncData}{h h':Heap}{i lo n:Nat}{ifs:List Expr}{aG:List (Key×V)}{o:HO}{Uf:List (Addr×Obj)}{pos:Pos}{qual x y:Str}{s:Shared}{scope:Scope}{st:Stmt}{pU:List (TE×TE)}{u:Value}{w:World}{σ:St}
def pV (s:Stmt):Arguments:=match s with
 | .FunctionDef _ a _ _ _ _ _ _ _ _=>a
 | _=>{ posonlyargs:=[],args:=[],vararg:=none,kwonlyargs:=[],kw_defaults:=[],kwarg:=none,defaults:=[] }
def i5 (s:Stmt):List Stmt:=match s with
 | .FunctionDef _ _ b _ _ _ _ _ _ _=>b
 | _=>[]
def aZ (s:Stmt):Scope:=match s with
 | .FunctionDef _ _ _ _ _ _ sc _ _ _=>sc
 | _=>{ kind:=.function,names:=[],isGenerator:=false,isCoroutine:=false }
abbrev fX:mz:=λ_ _ _ _ _ _=>False
abbrev E0:XK:=λ_ _ _=>False
theorem E9:x5 fX X E0:=λ_ _ _ _ _ _ _ h=>h.elim
structure mE (K:PySem.W.Frag) (x qual:Str) (st:Stmt) (f:Addr) (fd:FuncData):Prop where
 ex:∃ (oc:Value) (od:Option Addr) (kV doc pm:Value) (an:Option Addr) (bA ct:Value) (nK:Array (Option Value)),
  fd=W.fnOf x qual (pV st) (i5 st) (aZ st) .none kV doc pm an bA ct/\K.lookup f=some ⟨oc,od,.func fd,nK⟩/\W.codeIn K bA qual=true
 kp:W.keepIn K (.ref f)=true
section
variable {P:Program}{w:World}{K:PySem.W.Frag}{mg:Str->Option Value}{base:Heap}
theorem mE.ok{N:List Str}{k:Nat}{sp:Sp}(F:mE K x qual st f fd)(S:aj N ps (aZ st))(len:∀ vs H Q E,sp vs H Q E->vs.length=ps.length)
  (mB:∀ (bA:Value) (A:Around) (outer:List Env) (s:Shared) (H:Hp) (vs:List V) (Q:VK) (E:XK),bc k (A.deeper (envOfC qual (aZ st) s.heap.objs.size f bA))->sp vs H Q E->
    ∃ t,gV (ir fX P w K mg base N qual (aZ st) f bA A outer s H E).fU (i5 st) t/\t { nx:=λ_ H'=>Q .aF H',rt:=Q } (i4 N vs) H):dS P w K mg base fX (k+1) f fd ps sp:=by obtain⟨oc,od,kV,doc,pm,an,bA,ct,nK,rfl,lk,gX⟩:=F.ex;refine EO lk gX S len λA outer s H vs Q E hr jg=>?_;obtain⟨t,h,q⟩:=mB bA A outer s H vs Q E hr jg;exact⟨t,h.fU,q⟩
theorem mE.binds(F:mE K x qual st f fd)
  (h:∀ (kV doc pm:Value) (an:Option Addr) (bA ct:Value) (us:List Value),us.length=ps.length->bindArgs (W.fnOf x qual (pV st) (i5 st) (aZ st) .none kV doc pm an bA ct) ⟨us,[]⟩=pure (ps.zip us)):nJ K fd ps []:=by obtain⟨oc,od,kV,doc,pm,an,bA,ct,nK,rfl,lk,gX⟩:=F.ex;exact .all (h kV doc pm an bA ct)
theorem E_{oc:Value}{od an:Option Addr}{nK:Array (Option Value)}{kV doc pm bA ct:Value}(l:K.lookup f=some ⟨oc,od,.func (W.fnOf x qual (pV st) (i5 st) (aZ st) .none kV doc pm an bA ct),nK⟩)
  (c:W.codeIn K bA qual=true) (k:W.keepIn K (.ref f)=true):mE K x qual st f (W.fnOf x qual (pV st) (i5 st) (aZ st) .none kV doc pm an bA ct):=⟨⟨oc,od,kV,doc,pm,an,bA,ct,nK,rfl,l,c⟩,k⟩
end
theorem Oa{k:Nat}(hr:bc k A):A.units+1<cLine:=Jk (JL (by decide:1<=64) _) hr.units
theorem pW(h:n<=1000):n<sizeLine:=Jk h (by decide)
section
variable {X:Cx}
theorem pv(i:Nat){pos:Pos}(hN:X.N[i]? = some x:=by rfl)(hv:tI X.env.scope x:=by first|exact Or.inl rfl|exact Or.inr (Or.inl rfl)|exact Or.inr (Or.inr rfl))(hd:(x==("__debug__":Str))=false:=by decide)
  (gX:(x==("__classdict__":Str))=false:=by decide):PE X (.Name x pos) (iH i):=LX hN hv hd gX
end
section
variable {κ:Type}[DecidableEq κ]
def kA (aG:List (κ×V))(k:κ):Option V:=(aG.find? λkv=>decide (kv.1=k)).map (·.2)
def oG (aG:List (κ×V))(k:κ)(v:V):List (κ×V):=
 if(aG.any λkv=>decide (kv.1=k))=true then aG.map (λkv=>if kv.1=k then(kv.1,v)else kv)else aG++[(k,v)]
theorem AF{p:κ×V}{r:List (κ×V)}{k:κ}(e:p.1=k):kA (p::r) k=some p.2:=by simp[kA,ZZ,e]
theorem AG{p:κ×V}{r:List (κ×V)}{k:κ}(e:¬ p.1=k):kA (p::r) k=kA r k:=by simp[kA,ZZ,e]
theorem Ob(aG:List (κ×V))(k:κ)(v:V):(oG aG k v).length<=aG.length+1:=by
 unfold oG;split
 .rw[Qg];omega
 .rw[Qj,QN,JG];omega
theorem qV.getD{o:Option V}{u:Option Value}{d:V}{d':Value}(r:qV o u)(rd:bT d d'):bT (o.getD d) (u.getD d'):=by
 cases o with
 | none=>cases u with
  | none=>exact rd
  | some _=>exact(show False from r).elim
 | some _=>cases u with
  | none=>exact(show False from r).elim
  | some _=>exact r
theorem KV.val{aG:List (κ×V)}{vs:List (κ×Value)}(r:KV aG vs)(k:κ):qV (kA aG k) (valueAt vs k):=by
 unfold KV at r;induction r with
 | nil=>exact True.intro
 | @cons p q ps qs h t ih=>
  obtain⟨h1,h2⟩:=h;by_cases e:p.1=k
  .have e':q.1=k:=h1.symm.trans e;have b:valueAt (q::qs) k=some q.2:=by simp[valueAt,ZZ,e']
   rw[AF e,b];exact h2
  .have e':¬ q.1=k:=λz=>e (h1.trans z);have b:valueAt (q::qs) k=valueAt qs k:=by simp[valueAt,ZZ,e']
   rw[AG e,b];exact ih
theorem KV.any{aG:List (κ×V)}{vs:List (κ×Value)}(r:KV aG vs)(k:κ):(aG.any λkv=>decide (kv.1=k))=vs.any λkv=>decide (kv.1=k):=by
 unfold KV at r;induction r with
 | nil=>rfl
 | cons h t ih=>rw[Y2,Y2,ih,h.1]
theorem KV.AH{aG:List (κ×V)}{vs:List (κ×Value)}(r:KV aG vs)(k:κ){y:V}(ry:bT y u) :
  KV (aG.map λkv=>if kv.1=k then(kv.1,y)else kv) (vs.map λkv=>if kv.1=k then(kv.1,u)else kv):=by
 unfold KV at r ⊢;induction r with
 | nil=>exact .nil
 | @cons p q ps qs h t ih=>
  rw[Zf,Zf];refine .cons ?_ ih;obtain⟨h1,h2⟩:=h;by_cases e:p.1=k
  .rw[Ql e,Ql (h1.symm.trans e)];exact⟨h1,ry⟩
  .rw[Qt e,Qt (λz=>e (h1.trans z))];exact⟨h1,h2⟩
theorem KV.put{aG:List (κ×V)}{vs:List (κ×Value)}(r:KV aG vs)(k:κ){y:V}(ry:bT y u):KV (oG aG k y) (stored vs k u):=by
 unfold oG stored;rw[r.any k];by_cases e:(vs.any λkv=>decide (kv.1=k))=true
 .rw[Ql e,Ql e];exact r.AH k ry
 .rw[Qt e,Qt e];exact Paired.snoc r ⟨rfl,ry⟩
end
theorem AI{k:Key}(r:bT (kV k) u):(jc P w).is k u=true:=by
 cases k with
 | inl i=>obtain⟨t,e⟩:=(show ∃ t,u=Value.int i t from r);subst e;exact LN P w i t
 | inr x=>obtain⟨t,e⟩:=(show ∃ t,u=Value.str x t from r);subst e;exact LO P w x t
theorem Fb:∀ {ks:List Key} {us:List Value},bo (ks.map kV) us->ItemsAre (jc P w) ks us
 | [],_,r=>by rw[ZU]at r;cases r;exact .nil
 | k::ks,_,r=>by
  rw[Zf]at r;cases r with
  | cons h t=>exact .cons (AI h) (Fb t)
abbrev KT (H:Hp):List (List Key×V)->List (List Key×Addr×Value)->Prop:=Paired λp q=>p.1=q.1/\H q.2.1=some (.tup (p.1.map kV))/\bT p.2 q.2.2
theorem KT.val{aG:List (List Key×V)}{xs:List (List Key×Addr×Value)}(r:KT H aG xs)(k:List Key):qV (kA aG k) ((atKey xs k).map (·.2)):=by
 induction r with
 | nil=>exact True.intro
 | @cons p q ps qs h t ih=>
  obtain⟨h1,_,h2⟩:=h;by_cases e:p.1=k
  .have e':q.1=k:=h1.symm.trans e;have b:atKey (q::qs) k=some q.2:=by simp[atKey,ZZ,e']
   rw[AF e,b];exact h2
  .have e':¬ q.1=k:=λz=>e (h1.trans z);have b:atKey (q::qs) k=atKey qs k:=by simp[atKey,ZZ,e']
   rw[AG e,b];exact ih
section
variable {P:Program}{w:World}{H:Hp}{h:Heap}{a:Addr}
theorem Fc{u:HO}(ok:di P w H h)(e:Rd H a u):dh P w H h a u:=e.ok ok
theorem AJ(ok:di P w H h)(e:Rd H a (.dK aG)):aG.length<=sizeLine/\(a==sysModules)=false/\∃ vs,KV aG vs/\h.DictOf (jc P w) a vs:=
 show dh P w H h a (.dK aG)from Fc ok e
theorem Oc(ok:di P w H h)(e:H a=some (.dK aG)):aG.length<=sizeLine/\(a==sysModules)=false/\∃ vs,KV aG vs/\h.DictOf (jc P w) a vs:=AJ ok (.inl e)
theorem Fd{ks:List Key}(ok:di P w H h)(e:H a=some (.tup (ks.map kV))):(tupleKind (jc P w)).is h ks a:=by obtain⟨_,ar,r,o,h1,h2,⟨n,h3⟩,_⟩:=(show dh P w H h a (.tup (ks.map kV))from ok a _ e);exact⟨o,ar.toArray,n,h1,h2,h3,by simpa using Fb r⟩
theorem Fe{aG:List (List Key×V)}(ok:di P w H h)(e:Rd H a (.dT aG)):aG.length<=sizeLine/\(a==sysModules)=false /\
  ∃ xs,KT H aG xs/\h.DictOfH (tupleKind (jc P w)) a xs:=by
 obtain⟨z,y,xs,r,o,es,ep,h1,h2,h3,h4,h5⟩:=(show dh P w H h a (.dT aG)from Fc ok e);refine⟨z,y,xs,r,o,es,ep,h1,h2,h3,h4,λx hx=>?_,h5⟩;have all:∀ {l:List (List Key×V)} {m:List (List Key×Addr×Value)},KT H l m->∀ x∈m,(tupleKind (jc P w)).is h x.1 x.2.1:=by
  intro l m q;induction q with
  | nil=>intro x hx;exact nomatch hx
  | @cons p q ps qs hq t ih=>
   intro x hx;rcases Qr.mp hx with e|hx
   .subst e;exact Fd ok (by rw[<- hq.1];exact hq.2.1)
   .exact ih x hx
 exact all r x hx
end
def vo (H:Hp)(a:Addr)(y:V)(r:Option V):Prop:=
 (∃ aG k,Rd H a (.dK aG)/\y=kV k/\r=kA aG k)\/∃ aG k b,Rd H a (.dT aG)/\y=.ref b/\H b=some (.tup (k.map kV))/\r=kA aG k
theorem vo.k{k:Key}(e:H a=some (.dK aG)):vo H a (kV k) (kA aG k):=.inl ⟨aG,k,.inl e,rfl,rfl⟩
section
variable {X:Cx}{Uf:List (Addr×Obj)}{σ:St}{H:Hp}{s:Shared}{a:Addr}{y v:V}{u r:Value}{o:Option V}{A:Around}{E:Tk}
theorem Inv.Od(I:Inv X Uf σ H s):sysModules<s.heap.objs.size:=by have h:mainGlobals<s.heap.objs.size:=(I.mod.glob.keeps I.bk).lt;exact Yz (by decide) h
theorem Oe{t':Nat}{ob:HO}(I:Inv X Uf σ H s)(mu:uY (H a))(hs:Heap.SameBut a s.heap h')(he:∃ q,h'.get? a=some q)(new:dh X.prog X.w (upd H a ob) h' a ob) :
  Inv X Uf σ (upd H a ob) { s with heap:=h',toks:=t' }:=
 I.write (x:=a) (e:=a) mu (.inl rfl) (λb q hb z=>(hs.2 b hb).trans z) he new
theorem Of{vs:List (Key×Value)}(z:aG.length<=sizeLine)(hd:(a==sysModules)=false)(rel:KV aG vs)(dd:h'.DictOf (jc P w) a vs) :
  dh P w H' h' a (.dK aG):=⟨z,hd,vs,rel,dd⟩
end
theorem Og(h:Heap)(hb:sysModules<h.objs.size):dh P w H (h.push { cls:=.type "dict",data:=.dict #[] }) h.objs.size (.dK []):=
 ⟨ZA _,JJ.mpr (Jn (QH hb)),[],.nil,Heap.DictOf.new h⟩
def AK:List (TE×TE)->St->Hp->(List (V×V)->Hp->Prop)->Prop
 | [],_,H,Q=>Q [] H
 | (tk,tv)::r,σ,H,Q=>tk σ H λx H1=>tv σ H1 λy H2=>AK r σ H2 λps H3=>Q ((x,y)::ps) H3
abbrev VV:List (V×V)->List (Value×Value)->Prop:=Paired λp q=>bT p.1 q.1/\bT p.2 q.2
def yd (X:Cx)(pos:Pos)(keys:List (Option Expr))(values:List Expr)(pU:List (TE×TE)):Prop:=
 ∀ (Uf:List (Addr×Obj)) (s:Shared) (σ:St) (H:Hp) (Q:List (V×V)->Hp->Prop),Inv X Uf σ H s->AK pU σ H Q->
  wpAny (model X.prog X.w) X.A (evalPairs (pairTrees keys values X.env pos)) (λvs s'=>∃ ps H',Inv X Uf σ H' s'/\VV ps vs/\Q ps H') X.xe s
theorem Oh:yd X pos [] [] []:=λUf s σ H Q I h=>pairTrees_nil_walk ⟨[],H,I,.nil,h⟩
theorem Ff{k v:Expr}{ks:List (Option Expr)}{vs:List Expr}{tk tv:TE}(hk:PE X k tk)(hv:PE X v tv)(hr:yd X pos ks vs pU) :
  yd X pos (some k::ks) (v::vs) ((tk,tv)::pU):=λUf s σ H Q I h=>
 pairTrees_cons_walk (bg (hk Uf s σ H _ I h) λu s1 ⟨x,H1,I1,rx,q1⟩=>bg (hv Uf s1 σ H1 _ I1 q1) λw2 s2 ⟨y,H2,I2,ry,q2⟩=>
  bg (hr Uf s2 σ H2 _ I2 q2) λws s3 ⟨ps,H3,I3,rel,q3⟩=>⟨(x,y)::ps,H3,I3,.cons ⟨rx,ry⟩ rel,q3⟩)
def rC (aG more:List (Key×V)):List (Key×V):=more.foldl (λacc kv=>oG acc kv.1 kv.2) aG
theorem KV.merge:∀ {more:List (Key×V)} {rs:List (Key×Value)} {aG:List (Key×V)} {vs:List (Key×Value)},KV more rs->KV aG vs->KV (rC aG more) (merged vs rs):=by
 intro more rs aG vs r;unfold KV at r;induction r generalizing aG vs with
 | nil=>intro q;exact q
 | @cons p q ps qs h t ih=>
  intro r0;have e:KV (oG aG p.1 p.2) (stored vs q.1 q.2):=by have:=r0.put p.1 h.2;rw[<- h.1];exact this
  exact ih e
theorem Fg:∀ (more aG:List (Key×V)),(rC aG more).length<=aG.length+more.length
 | [],aG=>by show aG.length<=aG.length+0;omega
 | p::r,aG=>by have h1:=Fg r (oG aG p.1 p.2);have h2:=Ob aG p.1 p.2;show(rC (oG aG p.1 p.2) r).length<=_;rw[QN];omega
theorem Fh{P:Program}{w:World}:∀ {aG:List (Key×V)} {ws:List (Value×Value)},VV (aG.map λkv=>(kV kv.1,kv.2)) ws->∃ rs,Carries (jc P w) ws rs/\KV aG rs
 | [],_,r=>by rw[ZU]at r;cases r;exact⟨[],True.intro,.nil⟩
 | p::aG,_,r=>by
  rw[Zf]at r;cases r with
  | @cons a b as bs h t=>
   obtain⟨rs,c,q⟩:=Fh (P:=P) (w:=w) t;obtain⟨b1,b2⟩:=b;exact⟨(p.1,b2)::rs,⟨AI h.1,rfl,c⟩,.cons ⟨rfl,h.2⟩ q⟩
def Oi (pU:List (TE×TE)):TE:=λσ H Q=>∀ p,H p=none->AK pU σ (upd H p (.dK [])) λps H2=>H2 p=some (.dK [])/\∃ aG:List (Key×V),ps=aG.map (λkv=>(kV kv.1,kv.2))/\aG.length<=15/\Q (.ref p) (upd H2 p (.dK (rC [] aG)))
theorem Oj{keys:List (Option Expr)}{values:List Expr}(h:yd X pos keys values pU)(jV:keys.all (·.isSome)=true)(hl:keys.length=values.length)(h0:keys ≠ [])
  (Fi:keys.length<=15):PE X (.Dict keys values pos) (Oi pU):=by
 intro Uf s σ H Q I q;have hn:=I.aP.fresh (Qf s.heap.objs.size);have I1:=I.laid (a:=s.heap.objs.size) (o:=.dK []) (h':=s.heap.push { cls:=.type "dict",data:=.dict #[] }) (t':=s.toks) (λ_ _ q=>Qd _ q) (Qf _) (Og s.heap I.Od);refine wpAny_Dict_walk (knd:=jc X.prog X.w) jV hl h0 Fi (bg (h Uf _ σ _ _ I1 (q _ hn)) λws s2 ao=>?_);obtain⟨ps,H2,I2,rel,e,aG,ep,lk,q2⟩:=ao;subst ep;obtain⟨rs,c,rk⟩:=Fh (P:=X.prog) (w:=X.w) rel;obtain⟨z,hd,Ol,r0,dd⟩:=Oc I2.aP e;cases r0;refine⟨rs,c,dd,λh' Fj hs=>⟨.ref s.heap.objs.size,_,?_,rfl,q2⟩⟩;have hz:(rC [] aG).length<=sizeLine:=by have h1:=Fg aG [];rw[JG]at h1;rw[YT];omega
 have he:∃ q,h'.get? s.heap.objs.size=some q:=let ⟨q,_,_,hq,_⟩:=Fj;⟨q,hq⟩
 exact Oe I2 (by rw[e];exact True.intro) hs he (Of hz hd (rk.merge .nil) Fj)
structure M2 (X:Cx) (o:Expr) (m:Str) (apos:Pos) (e f:Expr) (aA:Pos):Prop where
 base:attributeBase o m X.env (eval o X.env)=eval o X.env
 Om:((backTo aA (starEach [e,f] X.env)).all (λx=>!x.1)&&(backToKw aA (keywordEach [] X.env)).all (λx=>x.1.isSome)
  && decide (([e,f]:List Expr).length+([]:List Keyword).length+(if([]:List Keyword).isEmpty then 0 else 1)<30))=true
 line:(apos.endLine==aA.line)=true
 trees:backTo aA (starEach [e,f] X.env)=[(false,eval e X.env),(false,eval f X.env)]
def Fl (H:Hp)(a:Addr):Prop:=(∃ aG,Rd H a (.dK aG))\/∃ aG,Rd H a (.dT aG)
theorem Oo(I:Inv X Uf σ H s)(d:Fl H a) :
  s.TypeIs (.ref a) "dict" /\ (∀ b,Value.ref a=.ref b->∃ ob,s.heap.get? b=some ob/\ob.dict=none)/\(a==sysModules)=false:=by
 rcases d with⟨aG,e⟩|⟨aG,e⟩
 .obtain⟨_,hd,vs,_,dd⟩:=AJ I.aP e;refine⟨dd.typeIs,λb q=>?_,hd⟩;cases q;obtain⟨ob,_,_,h1,h2,_⟩:=dd;exact⟨ob,h1,h2.2.1⟩
 .obtain⟨_,hd,xs,_,dd⟩:=Fe I.aP e;refine⟨dd.typeIs,λb q=>?_,hd⟩;cases q;obtain⟨ob,_,_,h1,h2,_⟩:=dd;exact⟨ob,h1,h2.2.1⟩
section
variable {X:Cx}{Uf:List (Addr×Obj)}{σ:St}{H:Hp}{s:Shared}{a:Addr}{y d:V}{u r:Value}{o:Option V}{A:Around}{E:Tk}
theorem Oq{Q:Tk}(hu:A.units+1<cLine)(I:Inv X Uf σ H s)(g:vo H a y o)(ry:bT y u)(rd:bT d r)(h:∀ w' s',Inv X Uf σ H s'->bT (o.getD d) w'->Q w' s') :
  wpAny (model X.prog X.w) A (call (.builtin "dict.get") [.ref a,u,r]) Q E s:=by
 rcases g with⟨aG,k,e,ey,l⟩|⟨aG,k,b,e,ey,eb,l⟩
 .subst ey;obtain⟨z,hd,vs,rel,dd⟩:=AJ I.aP e;refine call_meetsIn Jx dd.typeIs YA (Ym _ _ _) (meets_dict_get_default (jc X.prog X.w) a (AI ry) hd r) ⟨_,dd.mapOf,h _ _ (I.tok _) ?_⟩;rw[l];exact(rel.val k).getD rd
 .subst ey;cases (show u=Value.ref b from ry);obtain⟨z,hd,xs,rel,dd⟩:=Fe I.aP e;refine call_meetsIn Jx dd.typeIs YA (Ym _ _ _) (meetsH_dict_get_default (tupleKind (jc X.prog X.w)) a b hd r) ⟨tupleKind_room_in1 hu,k,xs,Fd I.aP eb,dd,h _ _ (I.tok _) ?_⟩;rw[l];exact(rel.val k).getD rd
end
def Ot (td ty tx:TE):TE:=λσ H Q=>td σ H λx H1=>∃ a,x=.ref a/\Fl H1 a/\ty σ H1 λy H2=>tx σ H2 λz H3=>∃ o,vo H3 a y o/\Q (o.getD z) H3
section
variable {X:Cx}{o e f:Expr}{apos aA:Pos}{td ty tx:TE}
theorem Ou(hu:X.A.units+1<cLine)(ho:PE X o td)(he:PE X e ty)(hf:PE X f tx)(m:M2 X o "get" apos e f aA):PE X (.Call (.Attribute o "get" apos) [e,f] [] aA) (Ot td ty tx):=by
 intro Uf s σ H Q I h;refine wpAny_Call_method m.base m.Om m.line PySem.F.plainAttrs_dict Jx PySem.F.type_dict_get (bg (ho Uf s σ H _ I h) λu s1 ao=>?_);obtain⟨x,H1,I1,rx,a,ex,d,q1⟩:=ao;subst ex;obtain rfl:u=Value.ref a:=rx;obtain⟨t1,t2,_⟩:=Oo I1 d;refine⟨t1,t2,?_⟩;rw[m.trees];refine Calls.callWith_builtin rfl (JD (Ji (bg (he Uf s1 σ H1 _ I1 q1) λiv s2 ⟨y,H2,I2,ry,q2⟩=>
  Ji (bg (hf Uf s2 σ H2 _ I2 q2) λfv s3 ⟨z,H3,I3,rz,ov,g,q3⟩=>Yb ?_))))
 exact Oq hu I3 g ry rz λw' s4 I4 rn=>⟨_,H3,I4,rn,q3⟩
end
theorem Ov{prog:Program}{R:Result->Shared->Prop}{target:Expr}{it acc:Value}(I:Nat->Shared->Prop)
  (turn:∀ n s,I n s->wpAny (model prog w) A (pyNext it) (λr ba=>match r with
    | none=>R (.ok .next) ba
    | some v=>wpAny (model prog w) A (letOwnedTupleGo target it v) (λ_ pX=>wpAny (model prog w) A (assign target env v) (λ_ k9=>
      wpAny (model prog w) A (forIn ifs true λc r=>if r=true then do let ok <- isTrue c env (eval c env);pure (ForInStep.yield ok)else pure (ForInStep.yield r)) (λok jW=>
       if ok=true then wpAny (model prog w) A (eval elt env) (λx oJ=>
        wpAny (model prog w) A (call (.builtin "list.append") [acc,x]) (λ_ vq=>∃ m,m<n/\I m vq) (λ_ _=>False) oJ) (λ_ _=>False) jW
       else ∃ m,m<n/\I m jW) (λ_ _=>False) k9) (λ_ _=>False) pX) (λ_ _=>False) ba) (λ_ _=>False) s)
  (n:Nat) (h:I n s):codeAny (model prog w) A (.compLoop (.ListComp elt [⟨target,iter,ifs,0⟩] scope pos) 0 it acc env) R s:=by
 refine codeAny_loop rfl I (λn s hI=>?_) n h;show wpAny _ A ((compTurn (.ListComp elt [⟨target,iter,ifs,0⟩] scope pos) 0 it acc env).onRaise (λx=>do noteFrame x env;theTreesLotGoes x)) _ _ s;refine wpAny_noted ?_;rw[compTurn_list];refine Qa (wpAny_standAt (Qa (Zs (turn n s hI) (λr ba vt=>?_) λ_ _ h'=>h'.elim)));cases r with
 | none=>exact Qe vt
 | some v=>
  refine Qa (Zs vt (λ_ pX vw=>?_) λ_ _ h'=>h'.elim);refine Qa (Zs vw (λ_ k9 AL=>Qa (Zs AL (λok jW vx=>?_) λ_ _ h'=>h'.elim)) λ_ _ h'=>h'.elim);cases ok with
  | false=>exact Qe ⟨rfl,vx⟩
  | true=>
   exact Qa (Qa (Zs vx (λx oJ vy=>Qa (Zs vy (λ_ vq vz=>Qe (Qe ⟨rfl,vz⟩)) λ_ _ h'=>h'.elim)) λ_ _ h'=>h'.elim))
theorem Ox{M:Model}{A:Around}{E:Tk}{globals:Addr}{cl:List (Str×Addr)}{outer:Env}{Q:Env->Shared->Prop}
  (hQ:Q (newEnv scope s.heap.objs.size globals (cellsFrom (s.heap.objs.size+1) scope.names cl) qual none .none (some outer) builtinsNs)
    { s with heap:=pushCells (s.heap.push { cls:=.type "dict",data:=.dict #[] }) scope.names }) :
  wpAny M A (newFunctionEnv scope globals cl [] qual none .none (some outer)) Q E s:=by simp only[newFunctionEnv,Option.isSome_some,Z7];refine Qa (wpAny_alloc ?_);refine Qa (wpAny_layCells _ (λname kind cells=>by cases Oy:kind==NameKind.cell<;>simp[Oy]) _ _ _ _ ?_);rw[show({ s with heap:=s.heap.push { cls:=.type "dict",data:=.dict #[] } }:Shared).heap.objs.size=s.heap.objs.size+1 from Zu ..];refine Qa ?_;rw[List.forIn_nil];exact Qe (Qe hQ)
def iu (cells:List (Str×Addr)):List (Str×NameKind)->List (Str×Addr)->List (Str×Addr)
 | [],acc=>acc
 | (n,k)::r,acc=>if k == .free then(match cells.lookup n with
   | some c=>iu cells r ((n,c)::acc)
   | none=>iu cells r acc)else iu cells r acc
theorem Fm(h:∀ y∈scope.names,y.2=.free->∃ c,env.cells.lookup y.1=some c):closureFor scope env=pure (iu env.cells scope.names []):=by
 unfold closureFor;have key:∀ (names:List (Str×NameKind)) (acc:List (Str×Addr)),(∀ y∈names,y.2=.free->∃ c,env.cells.lookup y.1=some c)->
   (forIn names acc (λ(x:Str×NameKind) (r:List (Str×Addr))=>(match x with
     | (name,kind)=>if(kind==NameKind.free)=true then do
       let c <- cellOf env name
       pure (ForInStep.yield ((name,c)::r))
      else pure (ForInStep.yield r):Sem (ForInStep (List (Str×Addr))))))=(pure (iu env.cells names acc):Sem (List (Str×Addr))):=by
  intro names;induction names with
  | nil=>intro acc _;rfl
  | cons y r ih=>
   intro acc hh;obtain⟨n,kd⟩:=y;rw[List.forIn_cons];unfold iu;by_cases hk:(kd==NameKind.free)=true
   .obtain⟨c,hc⟩:=hh (n,kd) Qc (by simpa using hk);have kq:env.cells.lookup n=some c:=hc;simp only[hk,Z7,kq];have e:cellOf env n=pure c:=by unfold cellOf;rw[kq]
    rw[e];exact ih ((n,c)::acc) λz hz=>hh z (Qb _ hz)
   .simp only[hk];exact ih acc λz hz=>hh z (Qb _ hz)
 exact(ZR (λm=>m >>= λcs=>(pure cs:Sem (List (Str×Addr)))) (key scope.names [] h)).trans rfl
theorem ye:∀ {names:List (Str×NameKind)} {acc:List (Str×Addr)},(∀ y c,(y,c)∈acc->cells.lookup y=some c)->∀ y c,(y,c)∈iu cells names acc->cells.lookup y=some c
 | [],_,h,y,c,m=>h y c m
 | (n,k)::r,acc,h,y,c,m=>by
  unfold iu at m;split at m
  .split at m;next c' e=>
    refine ye (acc:=(n,c')::acc) (λz d hz=>?_) y c m;rcases Qr.mp hz with q|q
    .cases q;exact e
    .exact h z d q
   .exact ye h y c m
  .exact ye h y c m
theorem yf:∀ {names:List (Str×NameKind)} {acc:List (Str×Addr)} {y:Str},(acc.lookup y).isSome=true->((iu cells names acc).lookup y).isSome=true
 | [],_,_,h=>h
 | (n,k)::r,acc,y,h=>by
  unfold iu;split
  .split
   .refine yf ?_;rw[Q9];split
    .rfl
    .exact h
   .exact yf h
  .exact yf h
theorem vA(hc:cells.lookup y=some c):∀ {names:List (Str×NameKind)} {acc:List (Str×Addr)},(y,NameKind.free)∈names->((iu cells names acc).lookup y).isSome=true
 | (n,k)::r,acc,h=>by
  unfold iu;rcases Qr.mp h with q|q
  .cases q;simp only[hc];rw[Ql (by rfl)];refine yf ?_;rw[Q9,Z9];rfl
  .split
   .split
    .exact vA hc q
    .exact vA hc q
   .exact vA hc q
theorem AM:∀ {names:List (Str×NameKind)} {h:Heap} {acc:List (Str×Addr)} {y:Str} {c:Addr},(y,c)∈cellsFrom h.objs.size names acc->(y,c)∈acc\/(h.objs.size<=c/\(pushCells h names).IsCell c none)
 | [],_,_,_,_,m=>.inl m
 | (n,k)::r,h,acc,y,c,m=>by
  unfold cellsFrom at m;unfold pushCells;split at m;next hk=>
   rw[Ql hk];have m':(y,c)∈cellsFrom (h.push { cls:=.type "cell",data:=.cell none }).objs.size r ((n,h.objs.size)::acc):=by rw[Zu];exact m
   rcases AM m' with q|⟨q1,q2⟩
   .rcases Qr.mp q with e|q
    .cases e;refine .inr ⟨Qf _,_,Jh _ _ _ _ (Qv _ rfl),rfl⟩
    .exact .inl q
   .rw[Zu]at q1;exact .inr ⟨by omega,q2⟩
  next hk=>
   rw[Qt hk];exact AM m
theorem AN:∀ {names:List (Str×NameKind)} {n:Nat} {acc:List (Str×Addr)},(∀ y c,(y,c)∈acc->c<n)->(∀ x y c,(x,c)∈acc->(y,c)∈acc->x=y)->∀ x y c,(x,c)∈cellsFrom n names acc->(y,c)∈cellsFrom n names acc->x=y
 | [],_,_,_,h=>h
 | (nm,k)::r,n,acc,dA,h=>by
  unfold cellsFrom;split
  .refine AN (n:=n+1) (acc:=(nm,n)::acc) (λy c m=>?_) (λx y c m1 m2=>?_)
   .rcases Qr.mp m with e|m
    .cases e;exact Zg _
    .exact Zh (dA y c m)
   .rcases Qr.mp m1 with e1|m1<;>rcases Qr.mp m2 with e2|m2
    .cases e1;cases e2;rfl
    .cases e1;exact absurd (dA y _ m2) (QT _)
    .cases e2;exact absurd (dA x _ m1) (QT _)
    .exact h x y c m1 m2
  .exact AN dA h
theorem AO:∀ {names:List (Str×NameKind)} {n:Nat} {acc:List (Str×Addr)},lo<=n->(∀ c,acc.lookup y=some c->lo<=c)->∀ c,(cellsFrom n names acc).lookup y=some c->lo<=c
 | [],_,_,_,h=>h
 | (nm,k)::r,n,acc,hn,h=>by
  unfold cellsFrom;split
  .refine AO (n:=n+1) (by omega) λc e=>?_;rw[Q9]at e;split at e
   .cases e;exact hn
   .exact h c e
  .exact AO hn h
theorem AQ:∀ {names:List (Str×NameKind)} {n:Nat} {acc:List (Str×Addr)},lo<=n->(y,NameKind.cell)∈names->∀ c,(cellsFrom n names acc).lookup y=some c->lo<=c
 | (nm,k)::r,n,acc,hn,h=>by
  unfold cellsFrom;rcases Qr.mp h with q|q
  .cases q;rw[Ql (by rfl)];refine AO (n:=n+1) (by omega) λc e=>?_;rw[Q9,Z9]at e;cases e;exact hn
  .split
   .exact AQ (n:=n+1) (by omega) q
   .exact AQ hn q
theorem AR:∀ {names:List (Str×NameKind)} {n:Nat} {acc:List (Str×Addr)},(y,NameKind.cell) ∉ names->(cellsFrom n names acc).lookup y=acc.lookup y
 | [],_,_,_=>rfl
 | (nm,k)::r,n,acc,h=>by
  unfold cellsFrom;split;next hk=>
   rw[AR (λz=>h (Qb _ z)),Q9];have cG:(y==nm)=false:=by
    cases e:y==nm with
    | false=>rfl
    | true=>
     have e1:y=nm:=ZB.mp e;have e2:k=NameKind.cell:=by simpa using hk
     exact absurd (by rw[e1,<- e2];exact Qc) h
   rw[cG]
  .exact AR λz=>h (Qb _ z)
def pY (env:Env)(y:Str)(k:NameKind):NameKind:=if(k==NameKind.free&&env.scope.kind == .function&&env.kindOf y==some .cell)then .cell else k
theorem AS{env:Env}{y:Str}:∀ (names:List (Str×NameKind)),(names.map λ(n,k)=>if(k==NameKind.free&&env.scope.kind == .function&&env.kindOf n==some .cell)then(n,NameKind.cell)else(n,k)).lookup y=(names.lookup y).map (pY env y)
 | []=>rfl
 | (n,k)::r=>by
  have ih:=AS (env:=env) (y:=y) r;show List.lookup y ((if(k==NameKind.free&&env.scope.kind == .function&&env.kindOf n==some .cell)=true then(n,NameKind.cell)else(n,k))::_)=_;cases hx:y==n with
  | true=>
   have e:=ZB.mp hx;subst e;rw[Q9,Q9];by_cases hc:(k==NameKind.free&&env.scope.kind == .function&&env.kindOf y==some .cell)=true
   .simp only[pY,hc,Z7,Z9,ZL]
   .simp only[pY,hc,Z9,ZL];simp
  | false=>
   by_cases hc:(k==NameKind.free&&env.scope.kind == .function&&env.kindOf n==some .cell)=true
   .rw[Ql hc,Q9,Q9];simp only[hx];exact ih
   .rw[Qt hc,Q9,Q9];simp only[hx];exact ih
theorem Fn{l:List (Str×NameKind)}(hn:(l.map (·.1)).Nodup){k:NameKind}(h:(y,k)∈l):l.lookup y=some k:=by
 induction l with
 | nil=>cases h
 | cons p r ih=>
  rw[Q9];rcases Qr.mp h with e|h
  .rw[<- e,Z9]
  .have cG:y≠p.1:=λe=>by have:=(ZX.mp hn).1;exact this (by show p.1∈_;rw[<- e];exact Qu.mpr ⟨(y,k),h,rfl⟩)
   have:(y==p.1)=false:=by simpa using cG
   rw[this];exact ih (ZX.mp hn).2 h
def Fp (scope:Scope)(env:Env)(C:Addr):Env:=
 { newEnv scope C env.globals (cellsFrom (C+1) scope.names (iu env.cells scope.names [])) env.qual none .none (some env) builtinsNs with scope:=relabel scope env }
def gq (X:Cx)(N':List Str)(scope:Scope)(C:Addr)(s:Shared)(H:Hp)(fp:List Addr):Cx where
 prog:=X.prog
 w:=X.w
 K:=X.K
 mg:=X.mg
 base:=X.base
 A:=X.A
 N:=N'
 aC:=s
 bM:=H
 env:=Fp scope X.env C
 outer:=X.stack
 stack:=X.stack
 ex:=fp
 fn:=λy=>scope.names.lookup y==some .cell
 calm:=X.calm
 pn:=[]
 xe:=λ_ _=>False
structure cC (X:Cx) (k:Nat) (N':List Str) (scope:Scope):Prop where
 kind:scope.kind=.function
 names:(scope.names.map (·.1)).Nodup
 len:N'.length=X.N.length+k
 frees:(scope.names.all λy=>y.2 != .free||X.env.kindOf y.1==some .cell||X.env.kindOf y.1==some .free)=true
 outs:((N'.zip X.N).all λp=>(p.1==p.2&&scope.names.lookup p.1==some .free)||scope.names.lookup p.1==none||scope.names.lookup p.1==some .globalImplicit)=true
theorem cC.free{k:Nat}(S:cC X k N' scope)(h:(y,NameKind.free)∈scope.names):X.env.kindOf y=some .cell\/X.env.kindOf y=some .free:=by
 have:=Yn.mp S.frees (y,NameKind.free) h;simp only[YF,bne_iff_ne,ne_eq,ZB]at this;rcases this with(h1|h1)|h1
 .exact absurd trivial h1
 .exact .inl h1
 .exact .inr h1
theorem cC.out{k:Nat}(S:cC X k N' scope)(jX:i<X.N.length)(h:N'[i]? = some y)(hv:tI (relabel scope X.env) y):X.N[i]? = some y/\scope.names.lookup y=some .free:=by
 have e2:X.N[i]? = some X.N[i]:=by simp[jX]
 have m:(y,X.N[i])∈N'.zip X.N:=YU (i:=i) (by rw[List.getElem?_zip_eq_some];exact⟨h,e2⟩);have:=Yn.mp S.outs _ m;simp only[YF,Zo,ZB]at this;have hl:(relabel scope X.env).names.lookup y=(scope.names.lookup y).map (pY X.env y):=AS _;rcases this with(⟨h1,h2⟩|h1)|h1
 .exact⟨by rw[e2,<- h1],h2⟩
 .rw[h1]at hl;rcases hv with z|z|z<;>(rw[hl]at z;cases z)
 .rw[h1]at hl;have hr:pY X.env y .globalImplicit=.globalImplicit:=rfl;rw[ZL,hr]at hl;rcases hv with z|z|z<;>(rw[hl]at z;cases z)
theorem Un.rD{fs ex:List Addr}{D:Addr}(u:Un fs ex H H' h h')(aP:di P w H h)(hD:h.objs.size<=D):Un fs ex H (upd H' D o) h h':=by
 have ne:∀ b ob,h.get? b=some ob->b≠D:=λb ob e z=>absurd (Qo (Qn e) hD) (by rw[z];exact QT _);have ne':∀ b x,H b=some x->b≠D:=λb x e z=>absurd (Qo (aP.lt e) hD) (by rw[z];exact QT _);refine⟨u.keep,u.slot,λb ob e n hx=>?_,u.there,λb xs e=>?_,λb ob x e=>?_,λb ps e=>?_⟩
 .rw[bw (ne b ob e)];exact u.free b ob e n hx
 .rw[bw (ne' b _ e)];exact u.d8 b xs e
 .rw[bw (ne' b _ e)];exact u.dR b ob x e
 .rw[bw (ne' b _ e)];exact u.d9 b ps e
theorem di.add{D:Addr}(x:di P w H h)(hn:H D=none)(new:dh P w (upd H D o) h D o):di P w (upd H D o) h:=λb u e=>by
 by_cases hb:b=D
 .subst hb;rw[gM]at e;cases e;exact new
 .rw[bw hb]at e;exact(x b u e).fT (λc v _ q=>q) (λc q=>by rw[bw (iF q hn)];exact q) λc xs q=>by rw[bw (iF q hn)];exact q
def tP (X:Cx)(ifs:List Expr)(t:TT):Prop:=
 ∀ (Uf:List (Addr×Obj)) (s:Shared) (σ:St) (H:Hp) (Q:Bool->Hp->Prop),Inv X Uf σ H s->t σ H Q->
  wpAny (model X.prog X.w) X.A (forIn ifs true λc r=>if r=true then do let ok <- isTrue c X.env (eval c X.env);pure (ForInStep.yield ok)else pure (ForInStep.yield r)) (TP X Uf σ Q) X.xe s
def Oz:TT:=λ_ H Q=>Q true H
theorem OA:tP X [] Oz:=λUf s σ H Q I h=>wpAny_tests_nil ⟨H,I,h⟩
theorem OB{c:Expr}{t:TT}(h:PT X c t):tP X [c] t:=λUf s σ H Q I q=>wpAny_tests_one (h Uf s σ H Q I q)
def Fq (k:Nat)(g:TG)(tt:TT)(te:TE)(σ:St)(J:It)(H:Hp)(Fin:List V->Hp->Prop):Prop:=
 ∃ W:Nat->Nat->List V->Hp->Prop,(∃ m,W 0 m [] H)/\∀ i m ys H2,W i m ys H2->ys.length<=sizeLine /\
  ((J.stop i H2/\Fin ys H2)\/(J.go i H2/\ys.length<sizeLine/\∀ x H3,J.q8 i H2 x H3->g x (σ++replicate k none) H3 λtR H4=>(∃ τ,tR=σ++τ/\τ.length=k) /\
    tt tR H4 λb H5=>if b=true then te tR H5 λv H6=>∃ m',m'<m/\W (i+1) m' (ys++[v]) H6 else ∃ m',m'<m/\W (i+1) m' ys H5))
def yg (k:Nat)(wi:TI)(g:TG)(tt:TT)(te:TE):TE:=λσ H Q=>wi σ H λJ H1=>Fq k g tt te σ J H1 λys H2=>∀ p,H2 p=none->Q (.ref p) (upd H2 p (.lst ys))
def g9 (us:List Value)(n:Nat):Obj:={ cls:=.type "list",data:=.seq us.toArray n }
theorem Fs{τ:St}(I:Inv X Uf (σ++τ) H s):Inv X Uf (σ++replicate τ.length none) H s:=
 I.weak (by simp) λi v e=>by
  by_cases hi:i<σ.length
  .rw[QL hi]at e ⊢;exact e
  .rw[QX (by omega),Q8]at e;split at e<;>cases e
section
variable {X:Cx}{k:Nat}{N':List Str}{scope:Scope}{Uf:List (Addr×Obj)}{σ:St}{H2:Hp}{s2:Shared}{fp:List Addr}
abbrev vB (scope:Scope)(s2:Shared):Heap:=pushCells ((s2.heap.push (g9 [] 0)).push { cls:=.type "dict",data:=.dict #[] }) scope.names
theorem OC(S:cC X k N' scope)(I2:Inv X Uf σ H2 s2)(f2:∀ b∈fp,mw X Uf H2 b)(rE:∀ b∈fp,b<s2.heap.objs.size) :
  Inv (gq X N' scope (s2.heap.objs.size+1) s2 H2 fp) [(s2.heap.objs.size,g9 [] 0)] (σ++replicate k none) H2 { s2 with heap:=vB scope s2 }:=by
 have e1:(s2.heap.push (g9 [] 0)).objs.size=s2.heap.objs.size+1:=Zu ..;have e2:((s2.heap.push (g9 [] 0)).push { cls:=.type "dict",data:=.dict #[] }).objs.size=s2.heap.objs.size+1+1:=by rw[Zu,e1]
 have keep:∀ b o,s2.heap.get? b=some o->(vB scope s2).get? b=some o:=λb o e=>Jh _ _ b o (Qd _ (Qd _ e));have da:∀ y c,(y,c)∈iu X.env.cells scope.names []->X.env.cells.lookup y=some c:=ye (λ_ _ m=>nomatch m);have rG:∀ y c,(y,c)∈cellsFrom (s2.heap.objs.size+1+1) scope.names (iu X.env.cells scope.names [])->X.env.cells.lookup y=some c\/(s2.heap.objs.size+1+1<=c/\(vB scope s2).IsCell c none):=λy c m=>by
  have m':(y,c)∈cellsFrom ((s2.heap.push (g9 [] 0)).push { cls:=.type "dict",data:=.dict #[] }).objs.size scope.names (iu X.env.cells scope.names []):=by rw[e2];exact m
  rcases AM m' with q|⟨q1,q2⟩
  .exact .inl (da y c q)
  .rw[e2]at q1;exact .inr ⟨q1,q2⟩
 have OE:∀ y c,X.env.cells.lookup y=some c->c<s2.heap.objs.size:=λy c e=>by obtain⟨v,z⟩:=I2.cell y c e;exact z.lt
 have hl:∀ y,(relabel scope X.env).names.lookup y=(scope.names.lookup y).map (pY X.env y):=λy=>AS _;have ok:(gq X N' scope (s2.heap.objs.size+1) s2 H2 fp).Ok:=by
  refine⟨I2.ok.mod,S.kind,I2.ok.glob,I2.ok.blt,ZS _,λx y c h1 h2=>?_,λx hx=>?_,λx c hf h=>?_,I2.ok.hd,I2.ok.frames,.inl rfl,λb hb=>⟨?_,λx c h z=>?_⟩,I2.bs,QF I2.ok.mq I2.sz,λb o e hb=>?_,λb hb z=>?_,I2.stack,I2.eU⟩
  .refine AN (n:=s2.heap.objs.size+1+1) (names:=scope.names) (acc:=iu X.env.cells scope.names []) (λy c m=>?_) (λx y c m1 m2=>?_) x y c (QM h1) (QM h2)
   .exact Qo (OE y c (da y c m)) (by omega)
   .exact I2.ok.inj x y c (da x c m1) (da y c m2)
  .have jY:(relabel scope X.env).names.lookup x=some .cell\/(relabel scope X.env).names.lookup x=some .free:=hx;rw[hl x]at jY;have:scope.names.lookup x=some .cell\/scope.names.lookup x=some .free:=by
    cases e:scope.names.lookup x with
    | none=>rw[e]at jY;rcases jY with z|z<;>cases z
    | some kd=>
     rw[e,ZL]at jY;cases kd<;>first
      | exact .inl rfl
      | exact .inr rfl
      | (rcases jY with z|z<;>(have z':=QJ z;unfold pY at z';simp at z'))
   rcases this with q|q
   .exact Zz.mp (ZT scope.names (s2.heap.objs.size+1+1) _ (.inl q))
   .have qm:=QM q;have hk:=S.free qm;obtain⟨c,hc⟩:=I2.ok.has x hk;exact Zz.mp (ZT scope.names (s2.heap.objs.size+1+1) _ (.inr (vA hc qm)))
  .have OF:(scope.names.lookup x==some .cell)=true:=hf;have:=AQ (lo:=s2.heap.objs.size) (n:=s2.heap.objs.size+1+1) (acc:=iu X.env.cells scope.names []) (by omega) (QM (ZB.mp OF)) c h;exact this
  .have:=rE b hb;show b≠s2.heap.objs.size+1;exact QH (Qo this (ZS _))
  .have q:=rE b hb;rcases rG x c (QM h)with w|⟨w,_⟩
   .exact(f2 b hb).2.2.2.2.1 x c w z
   .subst z;exact absurd (Qo q (QF (by omega) w)) (QT _)
  .rcases(f2 b hb).2.2.2.1 with z|z
   .exact I2.ok.kZ b o e z
   .have:=Qn e;have:=I2.ok.mq;exact absurd (Qo (Qn e) (QF I2.ok.mq z)) (QT _)
  .rcases Qr.mp (I2.iG b z)with q|q
   .exact(f2 b hb).2.1 q
   .exact(f2 b hb).2.2.1 q
 obtain⟨m,hn,AU⟩:=id I2.loc;refine⟨ok,rfl,I2.bare,Un.kept keep,⟨λ_=>none,?_,λi y v h1 h2 h3=>?_⟩,λy c h=>?_,I2.aP.fresh (ZS _),λy c h=>?_,λp hp=>?_,I2.aP.kept keep,?_⟩
 .have:=(Heap.Ns.new (s2.heap.push (g9 [] 0)) (.type "dict")).keeps (Jh scope.names _);rw[e1]at this;exact this
 .by_cases hi:i<σ.length
  .have OG:tI (relabel scope X.env) y:=h3;obtain⟨o1,o2⟩:=S.out (by rw[<- I2.len];exact hi) h1 OG;have hk:=S.free (QM o2);have hs:σ[i]? = some (some v):=by rw[QL hi]at h2;exact h2
   obtain⟨u,r,l⟩:=AU i y v o1 hs (.inr hk);refine⟨u,r,?_⟩;rcases l with⟨l,_⟩|⟨_,c,hc,kr⟩
   .rcases hk with z|z<;>(rw[l]at z;cases z)
   .refine .inr ⟨?_,c,?_,kr.keeps keep⟩
    .show(relabel scope X.env).names.lookup y=some .cell\/(relabel scope X.env).names.lookup y=some .free;rw[hl y,o2,ZL];unfold pY;split
     .exact .inl rfl
     .exact .inr rfl
    .show(cellsFrom (s2.heap.objs.size+1+1) scope.names (iu X.env.cells scope.names [])).lookup y=some c;rw[AR (λz=>by have:=Fn S.names z;rw[o2]at this;cases this)];obtain⟨c',kq⟩:=Zz.mp (vA (acc:=[]) hc (QM o2));have:=da y c' (QM kq);rw[hc]at this;cases this;exact kq
  .rw[QX (by omega),Q8]at h2;split at h2<;>cases h2
 .rcases rG y c (QM h)with w|⟨_,w⟩
  .obtain⟨v,z⟩:=I2.cell y c w;exact⟨v,z.keeps keep⟩
  .exact⟨_,w⟩
 .rcases rG y c (QM h)with w|⟨w,_⟩
  .exact I2.cT y c w
  .exact I2.aP.fresh (by omega)
 .have e:p=(s2.heap.objs.size,g9 [] 0):=by have:p ∈ [(s2.heap.objs.size,g9 [] 0)]:=hp;simpa using this
  subst e;refine⟨Jh _ _ _ _ (Qd _ (Qv _ rfl)),I2.aP.fresh (Qf _),?_,λz=>?_,λv z=>nomatch z⟩
  .show s2.heap.objs.size≠s2.heap.objs.size+1;omega
  .have z':s2.heap.objs.size∈df X.stack:=z;rcases Qr.mp (I2.iG _ z')with q|q
   .exact absurd I2.lt (by rw[<- q];exact QT _)
   .exact I2.u5 (Qf _) q
 .rw[Qj,Q3,I2.len];exact S.len.symm
theorem OH{us:List Value}{ys:List V}{s':Shared}{aT:St}(I2:Inv X Uf σ H2 s2)(f2:∀ b∈fp,mw X Uf H2 b)
  (I3:Inv (gq X N' scope C s2 H2 fp) [(s2.heap.objs.size,g9 us n)] aT H' s') (r:bo ys us) (hz:ys.length<=sizeLine):Inv X Uf σ (upd H' s2.heap.objs.size (.lst ys)) s':=by obtain⟨e,hn,_⟩:=I3.pin (s2.heap.objs.size,g9 us n) (Qm _ (Qs.mpr rfl));have u:Un (df X.stack) fp H2 H' s2.heap s'.heap:=I3.base;exact I2.mv (ch:=fp) I3.os (u.rD I2.aP (Qf _)) (I3.aP.add hn ⟨hz,us,n,r,e⟩) I3.bare λb hb=>⟨(f2 b hb).2.2.2.1,(f2 b hb).2.1,(f2 b hb).2.2.2.2⟩
end
theorem Ft{k:Nat}{H2:Hp}{s2:Shared}{fp:List Addr}{tg:Expr}{it:Addr}{tn:Nat->Heap->Prop}{J:It}{g:TG}{tt:TT}{te:TE}{Fin:List V->Hp->Prop}{E:Tk}{RR:Value->Addr->Result->Shared->Prop}
  (hc:X.calm=true) (S:cC X k N' scope) (hg:∀ C s H fp,PG (gq X N' scope C s H fp) tg g) (ht:∀ C s H fp,tP (gq X N' scope C s H fp) ifs tt) (he:∀ C s H fp,PE (gq X N' scope C s H fp) elt te)
  (I2:Inv X Uf σ H2 s2) (T:Turn X.prog X.w X.K tg J fp it tn) (nI:tn 0 s2.heap) (f2:∀ b∈fp,mw X Uf H2 b) (R:Fq k g tt te σ J H2 Fin)
  (OI:∀ C ys H' s' m',Inv X Uf σ (upd H' s2.heap.objs.size (.lst ys)) s'->s'.heap.Ns C m'->H' s2.heap.objs.size=none->upd H' s2.heap.objs.size (.lst ys) C=none->C≠X.env.locals->X.aC.heap.objs.size<=C->s2.heap.objs.size<C->
    Fin ys H'->RR (.ref s2.heap.objs.size) C (.ok .next) s') :
  wpAny (model X.prog X.w) X.A (newList []) (λacc jW=>wpAny (model X.prog X.w) X.A (newFunctionEnv scope X.env.globals (iu X.env.cells scope.names []) [] X.env.qual none .none (some X.env)) (λvC oJ=>
   codeAny (model X.prog X.w) X.A (.compStart (.ListComp elt [⟨tg,iter,ifs,0⟩] scope pos) 0 (.ref it) acc { vC with scope:=relabel scope X.env }) (RR acc vC.locals) oJ) E jW) E s2:=by
 refine Q1 (Ox ?_);have e1:(s2.heap.push (g9 [] 0)).objs.size=s2.heap.objs.size+1:=Zu ..;have rE:∀ b∈fp,b<s2.heap.objs.size:=λb hb=>by obtain⟨o,e,_⟩:=T.obj _ _ nI b hb;exact Qn e
 obtain⟨W,⟨m0,w0⟩,turn⟩:=R;have I3:=OC S I2 f2 rE;have va:tn 0 (vB scope s2):=T.keep _ _ _ nI λb hb o e=>Jh _ _ b o (Qd _ (Qd _ e));have OJ:s2.heap.objs.size≠s2.heap.objs.size+1:=by omega
 have jT:∀ {H':Hp} {us:List Value} {n:Nat},(∀ b∈fp,H' b=none)->∀ b∈fp,mw (gq X N' scope (s2.heap.objs.size+1) s2 H2 fp) [(s2.heap.objs.size,g9 us n)] H' b:=λ{H' us n} hn b hb=>by
  have q:=I3.ok.xQ b hb;refine⟨hn b hb,q.1,I3.ok.k4 b hb,.inl hb,q.2,λp hp z=>?_⟩;have oK:p ∈ [(s2.heap.objs.size,g9 us n)]:=hp;have e:p=(s2.heap.objs.size,g9 us n):=by simpa using oK
  subst e;have:=rE b hb;have z':s2.heap.objs.size=b:=z;exact absurd this (by rw[z'];exact QT _)
 have loop:∀ Fu,Fu=Value.ref it->codeAny (model X.prog X.w) X.A (.compLoop (.ListComp elt [⟨tg,iter,ifs,0⟩] scope pos) 0 Fu (.ref s2.heap.objs.size) (Fp scope X.env (s2.heap.objs.size+1))) (RR (.ref s2.heap.objs.size) (s2.heap.objs.size+1)) { s2 with heap:=vB scope s2 }:=by
  rintro _ rfl;refine Ov (λn s'=>∃ i ys us cnt H',Inv (gq X N' scope (s2.heap.objs.size+1) s2 H2 fp) [(s2.heap.objs.size,g9 us cnt)] (σ++replicate k none) H' s'/\tn i s'.heap/\(∀ b∈fp,H' b=none)/\bo ys us/\W i n ys H') ?_ m0
   ⟨0,[],[],0,H2,I3,va,λb hb=>(f2 b hb).1,.nil,w0⟩
  rintro n s3 ⟨i,ys,us,cnt,H3,J3,st,fr,r3,w3⟩;obtain⟨hz,hw⟩:=turn i n ys H3 w3;rcases hw with⟨stop,fin⟩|⟨go,dA,step⟩
  .refine bg (T.done (gq X N' scope (s2.heap.objs.size+1) s2 H2 fp) rfl rfl rfl hc i _ s3 _ H3 _ J3 (jT fr) st stop) λrr s4 ⟨hr,I4⟩=>?_;subst hr;obtain⟨m',oq,_⟩:=id I4.loc;obtain⟨eD,nD,_⟩:=I4.pin (s2.heap.objs.size,g9 us cnt) (Qm _ (Qs.mpr rfl));refine OI (s2.heap.objs.size+1) ys H3 s4 m' (OH I2 f2 I4 r3 hz) oq nD ?_ ?_ ?_ (Zg _) fin
   .rw[bw (Jn OJ)];exact I4.free
   .exact Jn (QH (Qo I2.lt (ZS _)))
   .have:=I2.sz;omega
  .refine bg (T.item (gq X N' scope (s2.heap.objs.size+1) s2 H2 fp) rfl rfl rfl hc i _ s3 _ H3 _ J3 (jT fr) st go) λrr s4 ⟨u,hr,h4⟩=>?_;subst hr;refine bg h4 λ_ s5 ao=>?_;obtain⟨x,H5,I5,r5,y5,q9,Ad⟩:=ao;have Ae:=I5.pinned (jT Ad) (T.obj _ _ q9);refine bg (hg _ _ _ _ _ s5 _ H5 x u _ Ae r5 (step x H5 y5)) λ_ s6 ⟨Ez,H6,I6,⟨τ,e6,l6⟩,q6⟩=>?_;subst e6;refine bg (ht _ _ _ _ _ s6 _ H6 _ I6 q6) λok s7 ao=>?_;obtain⟨H7,I7,q7⟩:=ao;have kept:∀ {s':Shared} {H':Hp} {aT:St},Inv (gq X N' scope (s2.heap.objs.size+1) s2 H2 fp) ([(s2.heap.objs.size,g9 us cnt)]++pO fp s5.heap) aT H' s'->tn (i+1) s'.heap/\∀ b∈fp,H' b=none:=λ{s' H' aT} I'=>by refine⟨T.keep _ _ _ q9 λb hb o e=>(I'.pin (b,o) (Qm _ (Qm _ (xZ hb e)))).1,λb hb=>?_⟩;obtain⟨o,e,d⟩:=T.obj _ _ q9 b hb;exact(I'.pin (b,o) (Qm _ (Qm _ (xZ hb e)))).2.1
   cases ok with
   | false=>
    rw[Qt (by decide)]at q7 ⊢;obtain⟨m',hm,w7⟩:=q7;have:=Fs I7.eV;rw[l6]at this;exact⟨m',hm,i+1,ys,us,cnt,H7,this,(kept I7).1,(kept I7).2,r3,w7⟩
   | true=>
    rw[Ql rfl]at q7 ⊢;refine bg (he _ _ _ _ _ s7 _ H7 _ I7 q7) λu8 s8 ao=>?_;obtain⟨v,H8,I8,r8,m',hm,w8⟩:=ao;obtain⟨eD,nD,Fv,OK,dD⟩:=I8.pin (s2.heap.objs.size,g9 us cnt) (Qm _ (Qx _ (Qs.mpr rfl)));refine append_at eD (λh9 Fw OL=>?_) (hsz:=by rw[Qk,<- r3.length];exact ZF dA);have Ia:=I8.gi (pins':=pO fp s5.heap) λp hp=>I8.pin p (Qm _ (Qm _ hp));have OM:∀ p∈pO fp s5.heap,p.1≠s2.heap.objs.size:=λp hp z=>by have:=rE p.1 (Ex hp).1;exact absurd this (by rw[z];exact QT _)
    have Ib:=Ia.turned (h':=h9) (t':=s8.toks) (it:=s2.heap.objs.size) (λb o hb e=>Fw.extBut b o hb e) nD Fv (.inr (Qf _)) (λy c h z=>by
      obtain⟨vv,o,ho,hd⟩:=I8.cell y c h;rw[z,eD]at ho;cases ho;cases hd) (λp hp=>OM p (by have oK:p ∈ []++pO fp s5.heap:=hp;simpa using oK))
    have Ic:=Ib.gi (pins':=[(s2.heap.objs.size,g9 (us++[u8]) (cnt+1))]) λp hp=>by
     have e:p=(s2.heap.objs.size,g9 (us++[u8]) (cnt+1)):=by simpa using hp
     subst e;refine⟨?_,nD,Fv,OK,λv z=>nomatch z⟩;show h9.get? s2.heap.objs.size=_;rw[OL];unfold g9;simp
    have Id:=Fs Ic;rw[l6]at Id;have kp:=kept I8;refine⟨m',hm,i+1,ys++[v],us++[u8],cnt+1,H8,Id,T.keep _ _ _ kp.1 λb hb o e=>Fw.extBut b o (λz=>by have:=rE b hb;have z':b=s2.heap.objs.size:=z;exact absurd this (by rw[z'];exact QT _)) e,kp.2,bo.append r3 (.cons r8 .nil),w8⟩
 have hC:(s2.heap.push { cls:=.type "list",dict:=none,data:=.seq ([]:List Value).toArray }).objs.size=s2.heap.objs.size+1:=Zu ..;have fin:=codeAny_compStart_list (loop _ rfl) (T.self X.A 0 _ _ _ va (loop _ rfl));dsimp only at fin ⊢;rw[hC];exact fin
theorem cC.locs{k:Nat}(S:cC X k N' scope):∀ y∈scope.names,y.2=.local->scope.names.lookup y.1=some .local:=λy hy e=>by obtain⟨n,kd⟩:=y;have e':kd=.local:=e;subst e';exact Fn S.names hy
theorem AV{m:Str->Option Value}{v:Option Value}(hn:h.Ns C m)(hc:h.IsCell c v):c≠C:=λz=>by obtain⟨o,es,ep,ho,hd,_⟩:=hn;obtain⟨o',gU,nC⟩:=hc;rw[z,ho]at gU;cases gU;rw[hd]at nC;cases nC
section
variable {X:Cx}{k:Nat}{N':List Str}{scope:Scope}{elt tg iter:Expr}{ifs:List Expr}{pos:Pos}{wi:TI}{g:TG}{tt:TT}{te:TE}
theorem ON(hc:X.calm=true)(S:cC X k N' scope)(hi:PI X tg iter wi)(hg:∀ C s H fp,PG (gq X N' scope C s H fp) tg g)(ht:∀ C s H fp,tP (gq X N' scope C s H fp) ifs tt)(he:∀ C s H fp,PE (gq X N' scope C s H fp) elt te)
  (hs:∀ x,foldedSetIterable iter X.env x=pure x:=by intro _;rfl):PE X (.ListComp elt [⟨tg,iter,ifs,0⟩] scope pos) (yg k wi g tt te):=by
 intro Uf s σ H Q I h;rw[eval_ListComp];refine wpAny_comprehension_free (use:=none) rfl hs (Fm λy hy e=>?_) S.kind S.locs (bg (hi Uf s σ H _ I h) λv s1 h1=>bg h1 λxX s2 h2=>?_)
 .obtain⟨n,kd⟩:=y;have e':kd=.free:=e;subst e';exact I.ok.has n (S.free hy)
 .obtain⟨it,fp,tn,J,H2,e,I2,T,nI,f2,R⟩:=h2;subst e;refine Ft hc S hg ht he I2 T nI f2 R ?_;intro C ys H' s' m' I' hn hD AW yh AX AY fin;refine⟨m',hn,λh' nP=>⟨.ref s2.heap.objs.size,_,I'.turned (h':=h') (t':=s'.toks) (it:=C) (λb o hb e=>nP.extBut b o hb e) AW yh (.inr AX) (λx c h=>?_) (λp hp z=>?_),rfl,fin _ hD⟩⟩
  .obtain⟨v,q⟩:=I'.cell x c h;exact AV hn q
  .have:=Qn (I2.pin p hp).1;exact absurd (Yz this AY) (by rw[z];exact QT _)
theorem OO{py jh:Pos}(hN:X.N.Nodup)(hy:X.N[i]? = some y)(hx:Loc X.env.scope y)(rH:swapsWith (.ListComp elt [⟨tg,iter,ifs,0⟩] scope pos) (some (.Name y py)) jh.line X.env=pure true)
  (hc:X.calm=true) (S:cC X k N' scope) (hi:PI X tg iter wi) (hg:∀ C s H fp,PG (gq X N' scope C s H fp) tg g) (ht:∀ C s H fp,tP (gq X N' scope C s H fp) ifs tt) (he:∀ C s H fp,PE (gq X N' scope C s H fp) elt te)
  (hs:∀ x,foldedSetIterable iter X.env x=pure x:=by intro _;rfl) (hf:X.fn y=true\/X.env.scope.names.lookup y=some .local:=by first|exact .inl rfl|exact .inr rfl|assumption) :
  PS X (.Assign [.Name y py] (.ListComp elt [⟨tg,iter,ifs,0⟩] scope pos) jh) (zY (yg k wi g tt te) (zX i)):=by
 intro Uf s σ H D I h;rw[exec_Assign_Name_used _ _ _ _ rH];refine Qa (wpAny_standAt (Qa ?_));show wpAny _ X.A (do let _ <- comprehension (.ListComp elt [⟨tg,iter,ifs,0⟩] scope pos) scope X.env _ (newList []) false (eval iter X.env) (some (assign (.Name y py) X.env))) _ _ s;refine Qa (Zs (wpAny_comprehension_free (use:=some (assign (.Name y py) X.env)) (Q:=λ_ s'=>SP X Uf D .next s') rfl hs (Fm λz hz e=>?_) S.kind S.locs
  (bg (hi Uf s σ H _ I h) λv s1 h1=>bg h1 λxX s2 h2=>?_)) (λ_ s' hq=>Qe (Qe hq)) λ_ _ e=>e)
 .obtain⟨n,kd⟩:=z;have e':kd=.free:=e;subst e';exact I.ok.has n (S.free hz)
 .obtain⟨it,fp,tn,J,H2,e,I2,T,nI,f2,R⟩:=h2;subst e;refine Ft hc S hg ht he I2 T nI f2 R ?_;intro C ys H' s' m' I' hn hD AW yh AX AY fin;show wpAny _ X.A (assign (.Name y py) X.env (.ref s2.heap.objs.size)) _ _ _;refine wpAny_assign_Name (El I' hN hy hx (v:=.ref s2.heap.objs.size) rfl (λpQ Fy ⟨a,sb,ha⟩=>?_) hf);have OP:C≠a:=λz=>by
   rcases ha with q|q
   .exact yh (z.trans q)
   .obtain⟨v,w⟩:=I'.cell y a q;exact AV hn w z.symm
  have yi:=hn.sameBut sb OP;refine⟨m',yi,λh' nP=>⟨_,_,Fy.turned (h':=h') (t':=pQ.toks) (it:=C) (λb o hb e=>nP.extBut b o hb e) AW yh (.inr AX) (λx c h=>?_) (λp hp z=>?_),fin _ hD⟩⟩
  .obtain⟨v,q⟩:=Fy.cell x c h;exact AV yi q
  .have:=Qn (I2.pin p hp).1;exact absurd (Yz this AY) (by rw[z];exact QT _)
end
end L2
namespace L3
open PySem PySem.Spec PyProof.Rows PySem.W L2
variable {M:Model}{Q:Tk}{R:Result->Shared->Prop}{T:String}{h:Heap}
section
variable {prog:Program}{w:World}{A:Around}{E:Tk}{s:Shared}{K:Frag}{x C:Addr}{ox:Obj}
structure jH (h:Heap) (x:Addr) (ox:Obj) (C:Addr):Prop where
 at_:h.get? x=some ox
 cls:ox.cls=.ref C
theorem jH.type(I:jH h x ox C):Looks M h (typeOf (.ref x)) (.ref C):=I.cls ▸ (Looks.ld I.at_).andThen .now
structure fD (K:Frag) (C:Addr):Prop where
 ci:(clsIn K C).isSome=true
 ga:findIn K (.ref C) "__getattribute__" = some (some (.builtin "BaseException.__getattribute__"))
 gt:findIn K (.ref C) "__getattr__" = some none
 cl:findIn K (.ref C) "__class__" = some (some (.builtin "object.__class__"))
 cg:specialIn K (.builtin "object.__class__") "__get__" = some (some (.builtin "getset_descriptor.__get__"))
 ct:takesIn K (.builtin "object.__class__")=some true
 mo:mroIn K C (.type "object")=some true
 mb:mroIn K C (.type "BaseException")=some true
theorem OQ(X:K.In h)(I:jH h x ox C)(XC:fD K C):Looks M h (Builtin.ObjectAttr.find (.ref x) (.ref C) "__class__") (.bind (.builtin "getset_descriptor.__get__") (.builtin "object.__class__")):=by have L1:=looks_findIn (M:=M) X XC.cl;have L2:Looks M h (Builtin.ObjectAttr.getOf (some (.builtin "object.__class__"))) _:=looks_specialIn (M:=M) X XC.cg;have L3:=looks_takesIn (M:=M) X XC.ct;exact L1.andThen (L2.andThen ((show Looks M h (Builtin.ObjectAttr.dataDescriptor? (some (.builtin "object.__class__")) (some (.builtin "getset_descriptor.__get__"))) (some ((.builtin "getset_descriptor.__get__"),(.builtin "object.__class__")))from L3.andThen .now).andThen (Looks.tag .now)))
theorem OR{tp:Value}(X:K.In s.heap)(I:jH s.heap x ox C)(hm:mroIn K C (.type "object")=some true)
  (h:R (.ok (.ret (.ref C))) s):codeAny (model prog w) A (.call (.builtin "getset_descriptor.__get__") ⟨[.builtin "object.__class__",.ref x,tp],[]⟩) R s:=by
 obtain⟨hh,g,dr,t,os⟩:=s;have L0:=I.type (M:=model prog w);have L1:=looks_mroIn (M:=model prog w) X hm;refine ZN KF.slot_gs.plain KF.entry_gs (KF.slot_gs.check _ _ _ _ _ _ _ _ KF.type_class (KF.args_gs _ _ _) ?_);unfold Builtin.«getset_descriptor.__get__» Builtin.Getset_descriptor.descrGet;rw[dga_obj];refine Qa (Qe ?_);unfold Builtin.Getset_descriptor.descrGetter Builtin.Getset_descriptor.descrCheckInstance Builtin.Getset_descriptor.descrNameAndClass isInstance;simp only[KF.owner_class]
 repeat lk
 refine⟨JW _ (by decide +kernel),ZC KF.entry_class ?_⟩;unfold Builtin.«object.__class__» shownTypeOf
 repeat lk
 exact h
theorem OS{pZ:Value}{Q:Unit->Shared->Prop}(X:K.In s.heap)(I:jH s.heap x ox C)(XC:fD K C)(hq:Q () s):wpAny M A (checkBuiltinCall "BaseException.__getattribute__" ⟨[.ref x,pZ],[]⟩) Q E s:=by
 obtain⟨hh,g,d,t,os⟩:=s;have L0:=I.type (M:=M);have L1:=looks_mroIn (M:=M) X XC.mb;have hk:builtinKind "BaseException.__getattribute__" = some .slot:=by decide +kernel
 have rJ:splitId "BaseException.__getattribute__" = some ("BaseException","__getattribute__"):=by decide +kernel
 have ha:=PySem.F.args_bexc_ga (.ref x) pZ;simp only[checkBuiltinCall,hk,rJ];unfold isInstance
 repeat lk
 exact hq
theorem OT{tk:Tok}(X:K.In s.heap)(I:jH s.heap x ox C)(XC:fD K C)(h:R (.ok (.ret (.ref C))) s) :
  codeAny (model prog w) A (.call (.builtin "BaseException.__getattribute__") ⟨[.ref x,.str "__class__" tk],[]⟩) R s:=by refine ZN JX.ga.plain PySem.F.entry_bexc_ga (OS X I XC ?_);obtain⟨hh,g,d,t,os⟩:=s;have L0:=I.type (M:=model prog w);have L1:=OQ (M:=model prog w) X I XC;show wpAny _ _ (Builtin.«object.__getattribute__» ⟨[.ref x,.str "__class__" tk],[]⟩) _ _ _;refine Qa (Qe ?_);refine Qa (Qe ?_);refine Qa (L0.at (Qa (L1.at ?_)));show wpAny _ _ (holding [.builtin "object.__class__"] (call (.builtin "getset_descriptor.__get__") [.builtin "object.__class__",.ref x,.ref C]) >>= ret) _ _ _;exact Qa (Zk (Yw (OR X I XC.mo (Qe h))))
theorem OU{Q:Option Value->Shared->Prop}(X:K.In s.heap)(I:jH s.heap x ox C)(XC:fD K C)(h:Q (some (.ref C)) { s with toks:=s.toks+1 }):wpAny (model prog w) A (getAttr? (.ref x) "__class__") Q E s:=by obtain⟨hh,g,d,t,os⟩:=s;have L0:=I.type (M:=model prog w);have L1:=looks_findIn (M:=model prog w) X XC.ga;have L2:=looks_findIn (M:=model prog w) X XC.gt;have f3:=JX.ga.bind (.ref x);unfold getAttr? getAttrBy? getAttrBy;refine Qa (wpAny_mkText (Qa (Ye (Zk (Qa (L0.at (Qa (L1.at ?_))))))));show wpAny _ _ (getAttrByItsOwn _ _ _ _ _ _) _ _ _;unfold getAttrByItsOwn;refine Qa (L2.at ?_);refine Qa (Ye (Zk ?_));show wpAny _ _ (boundAndCalled _ _ _) _ _ _;unfold boundAndCalled;rw[f3];refine Qa (Qe ?_);show wpAny _ _ (call (.builtin "BaseException.__getattribute__") [.ref x,.str "__class__" t]) _ _ _;refine Yw (OT (s:=⟨hh,g,d,t+1,os⟩) X I XC ?_);exact handed_on rfl (Qe h)
theorem AZ{D:Addr}(X:K.In h)(e:(clsIn K D).isSome=true):Looks M h (isType (.ref D)) true:=by
 unfold clsIn at e;split at e;next c' d' cd' nF ho=>
  intro A' Q' E' s' k q;unfold isType loadHead;exact Qa (wpAny_loadPart (k _ _ (X _ _ ho)) (Qe q))
 .cases e
theorem Fz{c:Value}{kB:Int}{tk:Tok}{Q:Fin->Shared->Prop}(X:K.In s.heap)(I:jH s.heap x ox C)(XC:fD K C)(oE:Looks (model prog w) s.heap (typeOf c) (.type "type"))(OV:Looks (model prog w) s.heap (isType c) true)
  (cG:(Value.ref C==c)=false) (da:Looks (model prog w) s.heap (isSubtype (.ref C) c) false) (h:Q (.done (.ret (.bool false))) { s with toks:=s.toks+1 }) :
  wpAny (model prog w) A (Builtin.«isinstance.nested» ⟨[.ref x,c,.int kB tk],[]⟩) Q E s:=by
 have A_:=AZ (M:=model prog w) X XC.ci;obtain⟨h0,g,d,tt,os⟩:=s;have L0:=I.type (M:=model prog w);have LI:Looks (model prog w) h0 (isInstance (.ref x) c) false:=L0.andThen da;unfold Builtin.«isinstance.nested»;refine Qa (L0.at ?_);rw[Qt (λq=>by rw[cG]at q;exact Bool.noConfusion q)];refine Qa (oE.at ?_);rw[Ql (by decide)]
 k_delta "plainIsInstance"
 refine Qa (Qa (OV.at ?_));simp only[Yf,Ze,JV];refine Qa (LI.at ?_);simp only[Ze,JV];refine Qa (OU X I XC ?_);refine Qa (A_.at ?_);simp only[Yf,Ze,JV];refine Qa (wpAny_rule ?_);refine da.at ?_
 first
  | exact Qe h
  | exact Qe (Qe h)
  | exact Qa (Qe (Qe h))
theorem OW{D:Addr}(X:K.In s.heap)(I:jH s.heap x ox C)(XC:fD K C)(e:kin_not K C D=true)(h:Q (.bool false) { s with toks:=s.toks+1 }):wpAny (model prog w) A (call (.builtin "isinstance") [.ref x,.ref D]) Q E s:=by
 unfold kin_not at e;rw[Zo,Zo,Zo]at e;obtain⟨⟨⟨e0,e1⟩,e2⟩,e3⟩:=e;have cG:(Value.ref C==Value.ref D)=false:=Bool.eq_false_iff.mpr λq=>Z4 e0 (Value.ref.inj (ZB.mp q));exact YG (S:=λ_ R s=>(K.In s.heap/\jH s.heap x ox C)/\R (.ok (.ret (.bool false))) { s with toks:=s.toks+1 })
  (λ_ _ _ _ _ hs=>Yo (Fz hs.1.1 hs.1.2 XC (looks_typeIn hs.1.1 (ZB.mp e2)) (AZ hs.1.1 e1) cG (YV hs.1.1 (ZB.mp e3)) hs.2) (by intro q;cases q)) ⟨⟨X,I⟩,h⟩
theorem OY{D:Addr}(X:K.In s.heap)(I:jH s.heap x ox C)(e:isIn K (.ref C) D=true)(h:Q (.bool true) s):wpAny (model prog w) A (call (.builtin "isinstance") [.ref x,.ref D]) Q E s:=
 isi_call X (λM=>I.type) e (by intro q;cases q) h
theorem OZ(X:K.In s.heap)(I:jH s.heap x ox C)(oE:typeOf (.type T)=pure (.type "type"))(e:subIn K (.ref C) (.type T)=some true)(h:Q (.bool true) s):wpAny (model prog w) A (call (.builtin "isinstance") [.ref x,.type T]) Q E s:=
 YG (S:=λ_ R s=>(K.In s.heap/\jH s.heap x ox C)/\R (.ok (.ret (.bool true))) s) (λprog w A R s hs=>Yo (by
  obtain⟨⟨X,I⟩,h⟩:=hs;obtain⟨h0,g,d,tt,os⟩:=s;have L0:=I.type (M:=model prog w);have LI:Looks (model prog w) h0 (isInstance (.ref x) (.type T)) true:=L0.andThen (YV X e);have hT:Looks (model prog w) h0 (typeOf (.type T)) (.type "type"):=JC oE;have hI:Looks (model prog w) h0 (isType (.type T)) true:=JC rfl;unfold Builtin.«isinstance.nested»;refine Qa (L0.at ?_);rw[Qt (λq=>by cases ZB.mp q)];refine Qa (hT.at ?_);rw[Ql (by decide)]
  k_delta "plainIsInstance"
  refine Qa (Qa (hI.at ?_));simp only[Yf,Ze,JV];refine Qa (LI.at ?_);simp only[Z7];exact Qe (Qe h)) (by intro q;cases q)) ⟨⟨X,I⟩,h⟩
theorem O0(X:K.In s.heap)(I:jH s.heap x ox C)(XC:fD K C)(oE:typeOf (.type T)=pure (.type "type"))(e:subIn K (.ref C) (.type T)=some false)(h:Q (.bool false) { s with toks:=s.toks+1 }):wpAny (model prog w) A (call (.builtin "isinstance") [.ref x,.type T]) Q E s:=
 YG (S:=λ_ R s=>(K.In s.heap/\jH s.heap x ox C)/\R (.ok (.ret (.bool false))) { s with toks:=s.toks+1 })
  (λ_ _ _ _ _ hs=>Yo (Fz hs.1.1 hs.1.2 XC (JC oE) (JC rfl) (Bool.eq_false_iff.mpr λq=>by cases ZB.mp q) (YV hs.1.1 e) hs.2) (by intro q;cases q)) ⟨⟨X,I⟩,h⟩
end
def Ba:List Value:=[.type "ValueError",.type "Exception",.type "BaseException",.type "object"]
structure ji (K:Frag) (nm:Str) (C:Addr):Prop where
 ns:nsIn K mainGlobals nm=some (some (.ref C))
 xc:fD K C
 ex:excIn K C Ba "ValueError.__new__" = true
 ve:subIn K (.ref C) (.type "ValueError")=some true
 no:∀ T ∈ ["int","bool","tuple","list","str"],subIn K (.ref C) (.type T)=some false
def XO (K:Frag)(nm:Str)(ob:Obj):Prop:=∃ C,ob.cls=.ref C/\ji K nm C
end L3
namespace L3
open PySem PySem.Spec PyProof.Rows L2
variable {A:Around}{E:XK}{F:List Addr}{H H' H1 H2:Hp}{K:PySem.W.Frag}{N ps:List Str}{X:Cx}{a p:Addr}{b c:Int}{deep:Bool}{es:List Expr}{fd:FuncData}{h:Int->Int->V}{i n t t':Nat}{op:CmpOp}{r:R2}{te:TE}{tg:Expr}{u:Tok}{v:V}{vs xs:List V}{x:HO}{y:Option HO}
theorem yj:Slot "function" "__getattribute__" "object.__getattribute__" :=
 .of (owner:="object") (n:="__getattribute__") (by rw[JH,Z2];kernel_rfl) (by decide +kernel) (by decide +kernel) (by decide +kernel)
  (by first|exact .inl (by decide +kernel)|exact .inr (by decide +kernel)) (by rw[Jq];kernel_rfl)
theorem O1:typeLookup (.type "function") "__class__" = pure (some (.builtin "object.__class__")):=by rw[JH,Z2];kernel_rfl
theorem O2:isSubtype (.type "function") (.type (".".intercalate ("object.__class__".cutAt '.').dropLast))=pure true:=by rw[PySem.F.owner_object_class,Jq];kernel_rfl
theorem O3:entryFor table "object.__getattribute__" = some Builtin.«object.__getattribute__»:=entryFor_of_tree (by kernel_rfl)
theorem O4(a b:Value):argsOk "object.__getattribute__" ⟨[a,b],[]⟩:=by unfold argsOk;kernel_rfl
section
variable {prog:Program}{w:World}{A:Around}{E:Tk}{s:Shared}{a:Addr}
theorem O5{R:Result->Shared->Prop}(hT:s.TypeIs (.ref a) "function")(hq:R (.ok (.ret (.type "function"))) s) :
  codeAny (model prog w) A (.call (.builtin "getset_descriptor.__get__") ⟨[.builtin "object.__class__",.ref a,.type "function"],[]⟩) R s:=by
 obtain⟨h,g,d,t,os⟩:=s;have h5:(⟨h,g,d,t,os⟩:Shared).TypeIs (.builtin "object.__class__") "getset_descriptor":=Z5;have f8:=O2;refine ZN JM.plain PySem.F.entry_gs_get (JM.check _ _ _ _ _ _ _ _ h5 (PySem.F.args_gs_get _ _ _) ?_)
 repeat (any_goals (first|assumption|wp_step))
 refine⟨JW _ (by decide +kernel),ZC PySem.F.entry_object_class ?_⟩
 repeat (any_goals (first|assumption|wp_step))
theorem O6{Q:Option Value->Shared->Prop}(hT:s.TypeIs (.ref a) "function")(hq:Q (some (.type "function")) { s with toks:=s.toks+1 }):wpAny (model prog w) A (getAttr? (.ref a) "__class__") Q E s:=by
 obtain⟨h,g,d,t,os⟩:=s;have FA:∀ t',(⟨h,g,d,t',os⟩:Shared).TypeIs (.ref a) "function":=λ_=>hT;have en:∀ {tk:Tok} {t':Nat} {Q:Fin->Shared->Prop} {E:Tk} {A:Around},Q (.done (.ret (.type "function"))) ⟨h,g,d,t',os⟩->
   wpAny (model prog w) A (Builtin.«object.__getattribute__» ⟨[.ref a,.str "__class__" tk],[]⟩) Q E ⟨h,g,d,t',os⟩:=by
  intro tk t' Q E A hq;have hT:=FA t';have h5:(⟨h,g,d,t',os⟩:Shared).TypeIs (.builtin "object.__class__") "getset_descriptor":=Z5;have f4:=O1;have f5:=Z5;have f6:=JM.lookup;have f7:=PySem.F.slot_gs_set.lookup
  repeat (any_goals (first|assumption|wp_step))
  refine O5 hT ?_
  repeat (any_goals (first|assumption|wp_step))
 have O7:∀ {tk:Tok} {t':Nat} {Q:Tk} {E:Tk} {A:Around},Q (.type "function") ⟨h,g,d,t',os⟩->wpAny (model prog w) A (getAttrBy (.ref a) (.str "__class__" tk) false) Q E ⟨h,g,d,t',os⟩:=by
  intro tk t' Q E A hq;have hT:=FA t';have f2:=yj.lookup;have f3:=yj.bind (.ref a)
  repeat (any_goals (first|assumption|wp_step))
  refine ZN yj.plain O3 (yj.check _ _ _ _ _ _ _ _ hT (O4 _ _) (en ?_))
  repeat (any_goals (first|assumption|wp_step))
 unfold getAttr? getAttrBy?
 repeat (any_goals (first|assumption|with_reducible apply O7 | wp_step))
theorem O8:PySem.W.KitX K (.ref a) (.type "function") (PySem.W.KitAt a "function"):=W.kitx_of W.kitAt_ty (λ{_ _ _ _ _ s} p k=>O6 (by obtain⟨o,h1,h2⟩:=p;exact⟨o,h1,h2⟩) k)
end
theorem nM{α:Type}{P:α->Prop}(a:α)(z:a∈([]:List α)):P a:=nomatch z
inductive MK where
 | t (ks:List (List Key))
 | k (ks:List Key)
 | i (nm:Str) (fs:List Str) (p:Option Addr)
 | l (n:Nat) (p:Option Addr)
def MK.len:MK->Nat
 | .t ks=>ks.length
 | .k ks=>ks.length
 | .i _ fs _=>fs.length
 | .l n _=>n
inductive D where
 | aF|bl (b:Bool)|int (i:Int)|str (x:Str)|tup (ds:List D)|lst (ds:List D)
 | gN (ks:List Str) (ds:List D)
 | exc (nm:Str)
 | ob (f:Addr) (fo:Obj) (vs:List V) (ds:List D)
 | mp (k:MK) (ds:List D)
abbrev St:=L2.St
inductive Ow where
 | s (i:Nat)|t (i:Nat)|f
 deriving DecidableEq
abbrev Wn:=Addr->Option Ow
def KL (K:PySem.W.Frag)(a:Addr)(xs:List V):Prop:=
 ∃ (o:Obj) (ar:Array Value) (n:Nat),K.lookup a=some o/\o.cls=.type "list" /\ o.dict=none/\o.data=.seq ar n/\ar.size<=sizeLine/\bo xs ar.toList
theorem cQ.cases(h:cQ K H a xs):Rd H a (.lst xs)\/KL K a xs:=h
theorem KL.sq(h:KL K a xs):cQ K H a xs:=.inr h
def lU (ks:List Str)(vs:List V):List (Key×V):=(ks.map λx=>(Sum.inr x:Key)).zip vs
def nQ (fo:Obj)(c:Addr)(oc:Obj):Prop:=fo.cls=.type "function" /\ (∃ fd,fo.data=.func fd/\fd.code=.ref c)/\∃ fs q t,oc.data=.fields fs/\fs[1]? = some (.str q t)
structure Bb (K:PySem.W.Frag) (C:Addr):Prop where
 cl:L2.x4 K C
 ha:W.findIn K (.ref C) "__class__" = some (some (.builtin "object.__class__"))
 hn:W.specialIn K (.builtin "object.__class__") "__get__" = some (some (.builtin "getset_descriptor.__get__"))
 vc:W.takesIn K (.builtin "object.__class__")=some true
 hm:W.mroIn K C (.type "object")=some true
 no:∀ t∈(["bool","int","tuple","list","str"]:List String),W.kitOne K (.ref C) (.type t)=some false
def MK.Is (K:PySem.W.Frag)(a:Addr):MK->List V->HO->Prop
 | .t ks,vs,x=>x=.dT (ks.zip vs)
 | .k ks,vs,x=>x=.dK (ks.zip vs)
 | .i nm fs p,vs,x=>∃ C dx,W.nsIn K mainGlobals nm=some (some (.ref C))/\x=.ins C dx (fs.zip vs)/\Bb K C/\(∀ f∈fs,L2.Nf K C f)/\∀ d,p=some d->a=d
 | .l _ p,vs,x=>x=.lst vs/\∀ d,p=some d->a=d
mutual
inductive Rep (K:PySem.W.Frag) (H:Hp) (w:Wn) (o:Ow):Nat->D->V->List Addr->Prop
 | aF {q}:Rep K H w o q .aF .aF []
 | bl {q} (b:Bool):Rep K H w o q (.bl b) (.bl b) []
 | int {q} (i:Int):Rep K H w o q (.int i) (.int i) []
 | str {q} (x:Str):Rep K H w o q (.str x) (.str x) []
 | tup {q} {a:Addr} {vs:List V} {ds:List D}:H a=some (.tup vs)->ah K H w o 0 ds vs []->Rep K H w o q (.tup ds) (.ref a) []
 | gN {q} {a:Addr} {ks:List Str} {vs:List V} {ds:List D}:H a=some (.dK (lU ks vs))->w a=none->ah K H w o 0 ds vs []->Rep K H w o q (.gN ks ds) (.ref a) []
 | exc {q} {a:Addr} {nm:Str} {ob:Obj} {u:HO}:H a=some (.fM ob u)->XO K nm ob->(∀ xs,u ≠ .lst xs)->Rep K H w o q (.exc nm) (.ref a) []
 | ob {q} {f c:Addr} {fo oc:Obj} {u u':HO} {vs:List V} {ds:List D}:H f=some (.fM fo u)->H c=some (.fM oc u')->nQ fo c oc->ah K H w o 0 ds vs []->Rep K H w o q (.ob f fo vs ds) (.ref f) []
 | kl {a:Addr} {vs:List V} {ds:List D}:KL K a vs->ah K H w o 0 ds vs []->Rep K H w o 0 (.lst ds) (.ref a) []
 | shr {a:Addr} {vs:List V} {ds:List D}:Rd H a (.lst vs)->w a=none->ah K H w o 0 ds vs []->Rep K H w o 0 (.lst ds) (.ref a) []
 | own {q} {a:Addr} {vs:List V} {ds:List D} {F:List Addr}:H a=some (.lst vs)->w a=some o->ah K H w o q ds vs F->a ∉ F->Rep K H w o (q+1) (.lst ds) (.ref a) (a::F)
 | p6 {a:Addr} {vs:List V} {ds:List D} {k:MK} {x:HO}:H a=some x->k.Is K a vs x->w a=none->k.len=ds.length->ah K H w o 0 ds vs []->Rep K H w o 0 (.mp k ds) (.ref a) []
 | p7 {q} {a:Addr} {vs:List V} {ds:List D} {k:MK} {x:HO}:H a=some x->k.Is K a vs x->w a=some o->k.len=ds.length->ah K H w o 0 ds vs []->Rep K H w o (q+1) (.mp k ds) (.ref a) [a]
inductive ah (K:PySem.W.Frag) (H:Hp) (w:Wn) (o:Ow):Nat->List D->List V->List Addr->Prop
 | nil {q}:ah K H w o q [] [] []
 | cons {q} {d:D} {v:V} {ds:List D} {vs:List V} {F G:List Addr}:Rep K H w o q d v F->ah K H w o q ds vs G->(∀ a∈F,a ∉ G)->ah K H w o q (d::ds) (v::vs) (F++G)
end
def Bc:HO->Bool
 | .lst _=>true
 | .dK _=>true
 | .dT _=>true
 | .ins _ _ _=>true
 | _=>false
inductive OX where
 | l (vs:List V)|t (aG:List (List Key×V))|k (aG:List (Key×V))|i (C dx:Addr) (fs:List (Str×V))
def OX.ho:OX->HO
 | .l vs=>.lst vs
 | .t aG=>.dT aG
 | .k aG=>.dK aG
 | .i C dx fs=>.ins C dx fs
theorem OX.is(v:OX):Bc v.ho=true:=by cases v<;>rfl
theorem MK.ox{k:MK}(h:k.Is K a vs x):∃ v:OX,x=v.ho:=by
 cases k with
 | t ks=>exact⟨.t _,h⟩
 | k ks=>exact⟨.k _,h⟩
 | i nm fs p=>obtain⟨C,dx,_,h,_⟩:=h;exact⟨.i _ _ _,h⟩
 | l n p=>exact⟨.l _,h.1⟩
def tS:HO->Bool
 | .jE _=>true
 | _=>false
def Sm (x:HO)(y:Option HO):Prop:=match x with
 | .jE _=>∃ ps,y=some (.jE ps)
 | x=>y=some x
theorem sm(h:y=some x):Sm x y:=by cases x<;>first|exact h|exact⟨_,h⟩
theorem Sm.is(h:Sm x y):∃ z,y=some z/\tS z=tS x:=by cases x<;>first|exact⟨_,h,rfl⟩|(obtain⟨ps,e⟩:=h;exact⟨_,e,rfl⟩)
theorem Sm.eq(h:Sm x y)(n:tS x=false):y=some x:=by cases x<;>first|exact h|cases n
def tT:List Str:=["turned","chain_ladder","flat_ladder","paired","height_of","_law_high"]
structure TB (K:PySem.W.Frag) (H:Hp):Prop where
 tr:∀ P ps,H P=some (.jE ps)->PySem.TriplesOk ps.toList
 cd:∀ P ps,H P=some (.jE ps)->∀ pos cv,PySem.codeAmong pos ps.toList=some cv->∃ c oc u vs q t,cv=.ref c/\H c=some (.fM oc u)/\oc.data=.fields vs/\vs[1]? = some (.str q t)/\∀ xs,u ≠ .lst xs
 is:∀ x∈tT,∀ c P,W.tabIn K x=some (c,P)->∃ ps,H P=some (.jE ps)
structure WL (K:PySem.W.Frag) (w:Wn) (H:Hp):Prop where
 own:∀ a o,w a=some o->∃ vs:OX,H a=some vs.ho
 tb:TB K H
instance {K:PySem.W.Frag} {w:Wn} {H:Hp}:CoeFun (WL K w H) (λ_=>∀ a o,w a=some o->∃ vs:OX,H a=some vs.ho):=⟨WL.own⟩
theorem TB.upd(t:TB K H)(hx:tS x=false)(hp:H p=none\/∃ vs:OX,H p=some vs.ho):TB K (L2.upd H p x):=by
 have ne:∀ a y,H a=some y->Bc y=false->a≠p:=λa y e h z=>by
  subst z;rcases hp with q|⟨vs,q⟩
  .rw[e]at q;cases q
  .rw[e]at q;rw[QJ q,vs.is]at h;cases h
 refine⟨λP ps e=>?_,λP ps e pos cv hc=>?_,λx hx c P hP=>by obtain⟨ps,e⟩:=t.is x hx c P hP;exact⟨ps,by rw[bw (ne P _ e rfl)];exact e⟩⟩
 .by_cases hP:P=p
  .subst hP;rw[gM]at e;cases e;cases hx
  .rw[bw hP]at e;exact t.tr P ps e
 .by_cases hP:P=p
  .subst hP;rw[gM]at e;cases e;cases hx
  .rw[bw hP]at e;obtain⟨c,oc,u,vs,q,tt,h1,h2,h3,h4,h5⟩:=t.cd P ps e pos cv hc;exact⟨c,oc,u,vs,q,tt,h1,by rw[bw (ne c _ h2 rfl)];exact h2,h3,h4,h5⟩
def dk (H:Hp)(w:Wn)(H':Hp)(w':Wn):Prop:=∀ a x,H a=some x->w a=none->Sm x (H' a)/\w' a=none
theorem dk.trans{w w1 w2:Wn}(a:dk H w H1 w1)(b:dk H1 w1 H2 w2):dk H w H2 w2:=λc x h n=>by
 obtain⟨s1,n1⟩:=a c x h n;cases ht:tS x with
 | false=>exact b c x (s1.eq ht) n1
 | true=>
  obtain⟨y,e,hy⟩:=s1.is;obtain⟨s2,n2⟩:=b c y e n1;refine⟨?_,n2⟩;rw[ht]at hy;cases x with
  | jE ps=>
   cases y with
   | jE ps'=>exact s2
   | _=>cases hy
  | _=>cases ht
theorem WL.tU{w:Wn}(wl:WL K w H)(e:H a=some x)(h:Bc x=false):w a=none:=by
 cases q:w a with
 | none=>rfl
 | some o=>
  obtain⟨vs,e'⟩:=wl a o q;rw[e]at e';rw[QJ e',vs.is]at h;cases h
theorem du.go{w w':Wn}(wl:WL K w H)(st:dk H w H' w')(h:du K H a vs):du K H' a vs:=by
 rcases h with(h|⟨o,h⟩)|h
 .exact .inl (.inl (st a _ h (wl.tU h rfl)).1)
 .exact .inl (.inr ⟨o,(st a _ h (wl.tU h rfl)).1⟩)
 .exact .inr h
theorem yk.go{w w':Wn}(st:dk H w H' w')(n:w a=none)(h:Rd H a (.lst vs)):Rd H' a (.lst vs)/\w' a=none:=by
 rcases h with h|⟨o,h⟩
 .exact⟨.inl (st a _ h n).1,(st a _ h n).2⟩
 .exact⟨.inr ⟨o,(st a _ h n).1⟩,(st a _ h n).2⟩
theorem Rep.go{w w':Wn}{o o':Ow}(wl:WL K w H)(st:dk H w H' w'):∀ {q:Nat} {d:D} {v:V} {F:List Addr},Rep K H w o q d v F->(∀ a∈F,H' a=H a/\w' a=some o')->Rep K H' w' o' q d v F:=by
 intro q d v F r;refine Rep.rec (motive_1:=λq d v F _=>(∀ a∈F,H' a=H a/\w' a=some o')->Rep K H' w' o' q d v F) (motive_2:=λq ds vs F _=>(∀ a∈F,H' a=H a/\w' a=some o')->ah K H' w' o' q ds vs F) ?_ ?_ ?_ ?_ ?_ ?_ ?_ ?_ ?_ ?_ ?_ ?_ ?_ ?_ ?_ r
 .intro q _;exact .aF
 .intro q b _;exact .bl b
 .intro q i _;exact .int i
 .intro q x _;exact .str x
 .intro q a vs ds h r ih _;exact .tup (st _ _ h (wl.tU h rfl)).1 (ih nM)
 .intro q a ks vs ds h n r ih _;exact .gN (st _ _ h n).1 (st _ _ h n).2 (ih nM)
 .intro q a nm ob u h x n _;exact .exc (st _ _ h (wl.tU h rfl)).1 x n
 .intro q f c fo oc u u' vs ds h1 h2 x r ih _;exact .ob (st _ _ h1 (wl.tU h1 rfl)).1 (st _ _ h2 (wl.tU h2 rfl)).1 x (ih nM)
 .intro a vs ds h r ih _;exact .kl h (ih nM)
 .intro a vs ds h n r ih _;exact .shr (yk.go st n h).1 (yk.go st n h).2 (ih nM)
 .intro q a vs ds F h e r ne ih k;exact .own ((k _ Qc).1.trans h) (k _ Qc).2 (ih λa m=>k a (Qb _ m)) ne
 .intro a vs ds k x h i n l r ih _;have nt:tS x=false:=by obtain⟨v,rfl⟩:=MK.ox i;cases v<;>rfl
  exact .p6 ((st _ _ h n).1.eq nt) i (st _ _ h n).2 l (ih nM)
 .intro q a vs ds k x h i e l r ih kk;exact .p7 ((kk _ Qc).1.trans h) i (kk _ Qc).2 l (ih nM)
 .intro q _;exact .nil
 .intro q d v ds vs F G r s ne rK rL k;exact .cons (rK λa m=>k a (Qx _ m)) (rL λa m=>k a (Qm _ m)) ne
theorem ah.go{w w':Wn}{o o':Ow}(wl:WL K w H)(st:dk H w H' w'):∀ {q:Nat} {ds:List D} {vs:List V} {F:List Addr},ah K H w o q ds vs F->(∀ a∈F,H' a=H a/\w' a=some o')->ah K H' w' o' q ds vs F
 | _,_,_,_,.nil,_=>.nil
 | _,_,_,_,.cons r s ne,k=>.cons (Rep.go wl st r λa m=>k a (Qx _ m)) (ah.go wl st s λa m=>k a (Qm _ m)) ne
theorem Rep.freeze{w w':Wn}{o o':Ow}(n:∀ a,w a=none->w' a=none):∀ {q:Nat} {d:D} {v:V} {F:List Addr},Rep K H w o q d v F->(∀ a∈F,w' a=none)->Rep K H w' o' 0 d v []:=by
 intro q d v F r;refine Rep.rec (motive_1:=λq d v F _=>(∀ a∈F,w' a=none)->Rep K H w' o' 0 d v []) (motive_2:=λq ds vs F _=>(∀ a∈F,w' a=none)->ah K H w' o' 0 ds vs []) ?_ ?_ ?_ ?_ ?_ ?_ ?_ ?_ ?_ ?_ ?_ ?_ ?_ ?_ ?_ r
 .intro q _;exact .aF
 .intro q b _;exact .bl b
 .intro q i _;exact .int i
 .intro q x _;exact .str x
 .intro q a vs ds h r ih _;exact .tup h (ih nM)
 .intro q a ks vs ds h e r ih _;exact .gN h (n _ e) (ih nM)
 .intro q a nm ob u h x n _;exact .exc h x n
 .intro q f c fo oc u u' vs ds h1 h2 x r ih _;exact .ob h1 h2 x (ih nM)
 .intro a vs ds h r ih _;exact .kl h (ih nM)
 .intro a vs ds h e r ih _;exact .shr h (n _ e) (ih nM)
 .intro q a vs ds F h e r ne ih k;exact .shr (Rd.of h) (k _ Qc) (ih λa m=>k a (Qb _ m))
 .intro a vs ds k x h i e l r ih _;exact .p6 h i (n _ e) l (ih nM)
 .intro q a vs ds k x h i e l r ih kk;exact .p6 h i (kk _ Qc) l (ih nM)
 .intro q _;exact .nil
 .intro q d v ds vs F G r s ne rK rL k;exact .cons (F:=[]) (G:=[]) (rK λa m=>k a (Qx _ m)) (rL λa m=>k a (Qm _ m)) nM
theorem ah.freeze{w w':Wn}{o o':Ow}(n:∀ a,w a=none->w' a=none):∀ {q:Nat} {ds:List D} {vs:List V} {F:List Addr},ah K H w o q ds vs F->(∀ a∈F,w' a=none)->ah K H w' o' 0 ds vs []
 | _,_,_,_,.nil,_=>.nil
 | _,_,_,_,.cons r s ne,k=>.cons (F:=[]) (G:=[]) (Rep.freeze n r λa m=>k a (Qx _ m)) (ah.freeze n s λa m=>k a (Qm _ m)) nM
theorem Rep.aM{w:Wn}{o:Ow}:∀ {q:Nat} {d:D} {v:V} {F:List Addr},Rep K H w o q d v F->∀ a∈F,w a=some o:=by
 intro q d v F r;refine Rep.rec (motive_1:=λq d v F _=>∀ a∈F,w a=some o) (motive_2:=λq ds vs F _=>∀ a∈F,w a=some o) ?_ ?_ ?_ ?_ ?_ ?_ ?_ ?_ ?_ ?_ ?_ ?_ ?_ ?_ ?_ r
 .intro q a m;exact(QK m).elim
 .intro q b a m;exact(QK m).elim
 .intro q i a m;exact(QK m).elim
 .intro q x a m;exact(QK m).elim
 .intro q a vs ds h r ih b m;exact(QK m).elim
 .intro q a ks vs ds h e r ih b m;exact(QK m).elim
 .intro q a nm ob u h x n b m;exact(QK m).elim
 .intro q f c fo oc u u' vs ds h1 h2 x r ih b m;exact(QK m).elim
 .intro a vs ds h r ih b m;exact(QK m).elim
 .intro a vs ds h e r ih b m;exact(QK m).elim
 .intro q a vs ds F h e r ne ih b m;rcases Qr.mp m with z|z
  .rw[z];exact e
  .exact ih b z
 .intro a vs ds k x h i e l r ih b m;exact(QK m).elim
 .intro q a vs ds k x h i e l r ih b m;rw[Qs.mp m];exact e
 .intro q a m;exact(QK m).elim
 .intro q d v ds vs F G r s ne rK rL a m;rcases QI.mp m with z|z
  .exact rK a z
  .exact rL a z
theorem ah.aM{w:Wn}{o:Ow}:∀ {q:Nat} {ds:List D} {vs:List V} {F:List Addr},ah K H w o q ds vs F->∀ a∈F,w a=some o
 | _,_,_,_,.nil,a,m=>(QK m).elim
 | _,_,_,_,.cons r s ne,a,m=>(QI.mp m).elim (r.aM a) (s.aM a)
def D.cO:D->Bool
 | .lst _=>true
 | .mp _ _=>true
 | _=>false
@[simp] theorem D.ym:D.cO .aF=false:=rfl
@[simp] theorem D.Bd(b:Bool):D.cO (.bl b)=false:=rfl
@[simp] theorem D.yn(i:Int):D.cO (.int i)=false:=rfl
@[simp] theorem D.yo(x:Str):D.cO (.str x)=false:=rfl
@[simp] theorem D.yq(ds:List D):D.cO (.tup ds)=false:=rfl
@[simp] theorem D.yr(ks:List Str)(ds:List D):D.cO (.gN ks ds)=false:=rfl
@[simp] theorem D.yt(nm:Str):D.cO (.exc nm)=false:=rfl
@[simp] theorem D.Be(f:Addr)(fo:Obj)(vs:List V)(ds:List D):D.cO (.ob f fo vs ds)=false:=rfl
@[simp] theorem D.Bf(k:MK)(ds:List D):D.cO (.mp k ds)=true:=rfl
@[simp] theorem D.yu(ds:List D):D.cO (.lst ds)=true:=rfl
theorem Rep.dm{w:Wn}{o:Ow}{q:Nat}{d:D}(r:Rep K H w o q d v F)(h:d.cO=false):F=[]/\∀ q',Rep K H w o q' d v []:=by
 cases r with
 | aF=>exact⟨rfl,λ_=>.aF⟩
 | bl b=>exact⟨rfl,λ_=>.bl b⟩
 | int i=>exact⟨rfl,λ_=>.int i⟩
 | str x=>exact⟨rfl,λ_=>.str x⟩
 | tup h' r'=>exact⟨rfl,λ_=>.tup h' r'⟩
 | gN h' e' r'=>exact⟨rfl,λ_=>.gN h' e' r'⟩
 | exc h' x n=>exact⟨rfl,λ_=>.exc h' x n⟩
 | ob h1 h2 x r=>exact⟨rfl,λ_=>.ob h1 h2 x r⟩
 | kl=>cases h
 | shr=>cases h
 | own=>cases h
 | p6=>cases h
 | p7=>cases h
def RL (K:PySem.W.Frag)(H:Hp)(w:Wn)(o:Ow)(a:Addr)(vs:List V)(ds:List D)(F:List Addr):Nat->Prop
 | 0=>(KL K a vs\/Rd H a (.lst vs)/\w a=none)/\ah K H w o 0 ds vs []/\F=[]
 | q+1=>∃ F',F=a::F'/\H a=some (.lst vs)/\w a=some o/\ah K H w o q ds vs F'/\a ∉ F'
def RI (K:PySem.W.Frag)(H:Hp)(w:Wn)(o:Ow)(q:Nat)(v:V)(F:List Addr):D->Prop
 | .aF=>v=.aF/\F=[]
 | .bl b=>v=.bl b/\F=[]
 | .int i=>v=.int i/\F=[]
 | .str x=>v=.str x/\F=[]
 | .tup ds=>∃ a vs,v=.ref a/\F=[]/\H a=some (.tup vs)/\ah K H w o 0 ds vs []
 | .lst ds=>∃ a vs,v=.ref a/\RL K H w o a vs ds F q
 | .exc nm=>∃ a ob u,v=.ref a/\H a=some (.fM ob u)/\XO K nm ob
 | .gN ks ds=>∃ a vs,v=.ref a/\F=[]/\H a=some (.dK (lU ks vs))/\ah K H w o 0 ds vs []
 | _=>True
theorem Rep.inv{w:Wn}{o:Ow}{q:Nat}{d:D}(r:Rep K H w o q d v F):RI K H w o q v F d:=by
 cases r with
 | aF=>exact⟨rfl,rfl⟩
 | bl=>exact⟨rfl,rfl⟩
 | int=>exact⟨rfl,rfl⟩
 | str=>exact⟨rfl,rfl⟩
 | tup h r=>exact⟨_,_,rfl,rfl,h,r⟩
 | gN h _ r=>exact⟨_,_,rfl,rfl,h,r⟩
 | exc h x _=>exact⟨_,_,_,rfl,h,x⟩
 | ob=>trivial
 | kl h r=>exact⟨_,_,rfl,.inl h,r,rfl⟩
 | shr h n r=>exact⟨_,_,rfl,.inr ⟨h,n⟩,r,rfl⟩
 | own h n r m=>exact⟨_,_,rfl,_,rfl,h,n,r,m⟩
 | p6=>trivial
 | p7=>trivial
theorem Rep.zero{w:Wn}{o:Ow}{d:D}(r:Rep K H w o 0 d v F):F=[]:=by cases r<;>rfl
theorem ah.zero{w:Wn}{o:Ow}:∀ {ds:List D} {vs:List V} {F:List Addr},ah K H w o 0 ds vs F->F=[]
 | _,_,_,.nil=>rfl
 | _,_,_,.cons r s _=>by rw[r.zero,s.zero];rfl
theorem ah.length{w:Wn}{o:Ow}{q:Nat}:∀ {ds:List D} {vs:List V} {F:List Addr},ah K H w o q ds vs F->ds.length=vs.length
 | _,_,_,.nil=>rfl
 | _,_,_,.cons _ s _=>by simp[s.length]
theorem Rep.any{w:Wn}{o o':Ow}{q:Nat}{d:D}(r:Rep K H w o q d v [])(wl:WL K w H):Rep K H w o' q d v []:=
 Rep.go wl (λa x h n=>⟨sm h,n⟩) r nM
theorem ah.any{w:Wn}{o o':Ow}{q:Nat}{d:List D}{v:List V}(r:ah K H w o q d v [])(wl:WL K w H):ah K H w o' q d v []:=
 ah.go wl (λa x h n=>⟨sm h,n⟩) r nM
theorem ah.get{w:Wn}{o:Ow}:∀ {ds:List D} {vs:List V} {i:Nat} {d:D},ah K H w o 0 ds vs []->ds[i]? = some d->∃ v,vs[i]? = some v/\Rep K H w o 0 d v []
 | ds,vs,i,d,r,e=>by
  generalize hF:([]:List Addr)=F at r;cases r with
  | nil=>simp at e
  | @cons _ d' v' cJ eN F' G' r s _=>
   have h1:F'=[]:=r.zero;have h2:G'=[]:=s.zero;subst h1 h2;cases i with
   | zero=>simp at e;subst e;exact⟨v',rfl,r⟩
   | succ j=>
    obtain⟨v,h1,h2⟩:=ah.get (i:=j) (d:=d) s (by simpa using e);exact⟨v,by simpa using h1,h2⟩
theorem ah.snoc{w:Wn}{o:Ow}{q:Nat}{d:D}{G:List Addr}(r':Rep K H w o q d v G):∀ {ds:List D} {vs:List V} {F:List Addr},ah K H w o q ds vs F->(∀ a∈F,a ∉ G)->ah K H w o q (ds++[d]) (vs++[v]) (F++G)
 | _,_,_,.nil,_=>by have:ah K H w o q [d] [v] (G++[]):=.cons r' .nil (λa _ z=>nomatch z);simpa using this
 | _,_,_,.cons (F:=F) (G:=F') r s ne,k=>by
  rw[QW];refine .cons r (ah.snoc r' s λa m=>k a (Qm _ m)) λa m z=>?_;rcases QI.mp z with z|z
  .exact ne a m z
  .exact k a (Qx _ m) z
abbrev OD:=Option (D×Nat)
abbrev aW:=List (OD)
structure Good (K:PySem.W.Frag) (ρ:aW) (σ:St) (H:Hp) (w:Wn) (t:Nat):Prop where
 wl:WL K w H
 ws:∀ a i,w a=some (.s i)->i<σ.length
 wt:∀ a i,w a=some (.t i)->i<t
 len:ρ.length=σ.length
 slot:∀ (i:Nat) d q,ρ[i]? = some (some (d,q))->∃ v F,σ[i]? = some (some v)/\Rep K H w (.s i) q d v F
structure Go (H:Hp) (w:Wn) (H':Hp) (w':Wn):Prop where
 bO:dk H w H' w'
 keep:∀ a o,w a=some o->(∀ i,o ≠ .s i)->H' a=H a/\w' a=some o
theorem Go.refl{w:Wn}:Go H w H w:=⟨λa x h n=>⟨sm h,n⟩,λa o e _=>⟨rfl,e⟩⟩
theorem Go.trans{w w1 w2:Wn}(a:Go H w H1 w1)(b:Go H1 w1 H2 w2):Go H w H2 w2:=
 ⟨a.bO.trans b.bO,λc o e h=>by obtain⟨h1,w1⟩:=a.keep c o e h;obtain⟨h2,w2⟩:=b.keep c o w1 h;exact⟨h2.trans h1,w2⟩⟩
theorem Rep.gone{w w':Wn}{q:Nat}{d:D}(r:Rep K H w (.t i) q d v F)(wl:WL K w H)(g:Go H w H' w'):Rep K H' w' (.t i) q d v F:=
 Rep.go wl g.bO r λa m=>g.keep a _ (r.aM a m) (λ_ z=>nomatch z)
theorem ah.gone{w w':Wn}{q:Nat}{d:List D}{v:List V}(r:ah K H w (.t i) q d v F)(wl:WL K w H)(g:Go H w H' w'):ah K H' w' (.t i) q d v F:=
 ah.go wl g.bO r λa m=>g.keep a _ (r.aM a m) (λ_ z=>nomatch z)
def cH (t:Nat)(w:Wn):Wn:=λa=>match w a with
 | some (.t i)=>if t<=i then none else some (.t i)
 | x=>x
theorem yv{w:Wn}(h:w a=none):cH t w a=none:=by unfold cH;rw[h]
theorem O9{w:Wn}(h:w a=some (.s i)):cH t w a=some (.s i):=by unfold cH;rw[h]
theorem O_{w:Wn}(h:w a=some .f):cH t w a=some .f:=by unfold cH;rw[h]
theorem Pa{w:Wn}(h:w a=some (.t i))(hi:i<t):cH t w a=some (.t i):=by unfold cH;rw[h];exact Qt (by omega)
theorem Pb{w:Wn}(h:w a=some (.t i))(hi:t<=i):cH t w a=none:=by unfold cH;rw[h];exact Ql hi
theorem Bg{w:Wn}{o:Ow}(h:cH t w a=some o):w a=some o/\∀ i,o=.t i->i<t:=by
 unfold cH at h;cases e:w a with
 | none=>rw[e]at h;cases h
 | some o'=>
  rw[e]at h;cases o' with
  | s i=>cases h;exact⟨rfl,λi z=>nomatch z⟩
  | f=>cases h;exact⟨rfl,λi z=>nomatch z⟩
  | t i=>
   dsimp only at h;split at h
   .cases h
   .cases h;exact⟨rfl,λj z=>by cases z;omega⟩
theorem Good.drop{ρ:aW}{σ:St}{w:Wn}(g:Good K ρ σ H w t):Good K ρ σ H (cH t' w) t':=by refine⟨⟨λa o e=>g.wl a o (Bg e).1,g.wl.tb⟩,λa i e=>g.ws a i (Bg e).1,λa i e=>(Bg e).2 i rfl,g.len,λi d q e=>?_⟩;obtain⟨v,F,h1,h2⟩:=g.slot i d q e;exact⟨v,F,h1,Rep.go g.wl (λa x h n=>⟨sm h,yv n⟩) h2 λa m=>⟨rfl,O9 (h2.aM a m)⟩⟩
theorem Go.drop{w w':Wn}(g:Go H w H' w')(wt:∀ a i,w a=some (.t i)->i<t):Go H w H' (cH t w'):=
 ⟨λa x h n=>⟨(g.bO a x h n).1,yv (g.bO a x h n).2⟩,λa o e h=>by
   obtain⟨h1,h2⟩:=g.keep a o e h;refine⟨h1,?_⟩;cases o with
   | s i=>exact absurd rfl (h i)
   | f=>exact O_ h2
   | t i=>exact Pa h2 (wt a i e)⟩
theorem Rep.drop{w:Wn}{q:Nat}{d:D}{o:Ow}(r:Rep K H w (.t t) q d v F)(h:t'<=t):Rep K H (cH t' w) o 0 d v []:=
 Rep.freeze (λa n=>yv n) r λa m=>Pb (r.aM a m) h
abbrev aJ:=aW->Option (D×Nat×aW)
def tD (K:PySem.W.Frag)(f:aJ):TE:=λσ H Q=>∃ ρ w t r q ad,Good K ρ σ H w t/\f ρ=some (r,q,ad)/\∀ v H' w' F,Good K ad σ H' w' (t+1)->Go H w H' w'->Rep K H' w' (.t t) q r v F->Q v H'
theorem PE.imp{e:Expr}{t t':TE}(h:PE X e t)(i:∀ σ H Q,t' σ H Q->t σ H Q):PE X e t':=λUf s σ H Q I q=>h Uf s σ H Q I (i σ H Q q)
abbrev PD (X:Cx)(e:Expr)(f:aJ):Prop:=PE X e (tD X.K f)
structure QD (X:Cx) (e:Expr) (f:aJ):Prop where mk::o:PD X e f
theorem Good.up{ρ:aW}{σ:St}{w:Wn}(g:Good K ρ σ H w t):Good K ρ σ H w (t+1):=⟨g.wl,g.ws,λa i e=>Zh (g.wt a i e),g.len,g.slot⟩
@[simp] def gj (d:D):Nat:=if d.cO then 0 else 9
theorem Rep.kB{w:Wn}{o:Ow}{d:D}(r:Rep K H w o 0 d v []):Rep K H w o (gj d) d v []:=by
 unfold gj;cases e:d.cO with
 | true=>exact r
 | false=>exact(r.dm e).2 9
section
variable {K:PySem.W.Frag}{σ:St}{H:Hp}{ρ ad ac am:aW}{w:Wn}{t:Nat}{Q:VK}
theorem p9{fa fb:aJ}{R:V->V->Hp->Prop}(g:Good K ρ σ H w t){d1 d2:D}{q1 q2:Nat}(e1:fa ρ=some (d1,q1,ac))(e2:fb ac=some (d2,q2,am))
  (k:∀ x y H2 w2 F1 F2,Good K am σ H2 w2 (t+2)->Go H w H2 w2->Rep K H2 w2 (.t t) q1 d1 x F1->Rep K H2 w2 (.t (t+1)) q2 d2 y F2->R x y H2) :
  tD K fa σ H λx H1=>tD K fb σ H1 λy H2=>R x y H2:=
 ⟨ρ,w,t,d1,q1,ac,g,e1,λx H1 w1 F1 g1 aN r1=>⟨ac,w1,t+1,d2,q2,am,g1,e2,λy H2 w2 F2 g2 bC r2=>k x y H2 w2 F1 F2 g2 (aN.trans bC) (r1.gone g1.wl bC) r2⟩⟩
theorem oM{r:D}{q:Nat}{w2:Wn}{t2:Nat}(k:∀ v H' w' F,Good K ad σ H' w' (t+1)->Go H w H' w'->Rep K H' w' (.t t) q r v F->Q v H')(g:Good K ρ σ H w t)(g2:Good K ad σ H2 w2 t2)(go:Go H w H2 w2)
  (rr:Rep K H2 (cH t w2) (.t t) q r v []):Q v H2:=k v H2 (cH t w2) [] g2.drop.up (go.drop g.wt) rr
def i6 (p:Addr)(o:Ow)(w:Wn):Wn:=λa=>if a=p then some o else w a
theorem nR{o:Ow}{w:Wn}:i6 p o w p=some o:=Ql rfl
theorem gr{o:Ow}{w:Wn}(h:a≠p):i6 p o w a=w a:=Qt h
theorem oO{ds:List D}{w1:Wn}(g:Good K ρ σ H1 w1 t)(hp:H1 p=none)(r:ah K H1 w1 .f 0 ds vs []) :
  Good K ρ σ (upd H1 p (.lst vs)) (i6 p (.t t) w1) (t+1)/\Go H1 w1 (upd H1 p (.lst vs)) (i6 p (.t t) w1)/\Rep K (upd H1 p (.lst vs)) (i6 p (.t t) w1) (.t t) 1 (.lst ds) (.ref p) [p]:=by
 have ne:∀ a x,H1 a=some x->a≠p:=λa x e=>iF e hp;have nw:∀ a o,w1 a=some o->a≠p:=λa o e=>by obtain⟨vs,q⟩:=g.wl a o e;exact ne a _ q
 have st:dk H1 w1 (upd H1 p (.lst vs)) (i6 p (.t t) w1):=λa x e n=>⟨sm (by rw[bw (ne a x e)];exact e),by rw[gr (ne a x e)];exact n⟩;refine⟨⟨⟨λa o e=>?_,g.wl.tb.upd rfl (.inl hp)⟩,λa i e=>?_,λa i e=>?_,g.len,λi d q e=>?_⟩,⟨st,λa o e _=>⟨bw (nw a o e),(gr (nw a o e)).trans e⟩⟩,?_⟩
 .by_cases h:a=p
  .subst h;exact⟨.l vs,gM⟩
  .rw[gr h]at e;obtain⟨us,q⟩:=g.wl a o e;exact⟨us,by rw[bw h];exact q⟩
 .by_cases h:a=p
  .subst h;rw[nR]at e;cases e
  .rw[gr h]at e;exact g.ws a i e
 .by_cases h:a=p
  .subst h;rw[nR]at e;cases e;exact Zg _
  .rw[gr h]at e;exact Zh (g.wt a i e)
 .obtain⟨v,F,h1,h2⟩:=g.slot i d q e;exact⟨v,F,h1,Rep.go g.wl st h2 λa m=>⟨bw (nw a _ (h2.aM a m)),(gr (nw a _ (h2.aM a m))).trans (h2.aM a m)⟩⟩
 .exact .own gM nR (ah.go g.wl st r nM) (λz=>nomatch z)
theorem tV{ds:List D}{w1:Wn}(g:Good K ρ σ H1 w1 t)(hp:H1 p=none)(r:ah K H1 w1 .f 0 ds vs []) :
  Good K ρ σ (upd H1 p (.tup vs)) w1 (t+1)/\Go H1 w1 (upd H1 p (.tup vs)) w1/\Rep K (upd H1 p (.tup vs)) w1 (.t t) 9 (.tup ds) (.ref p) []:=by
 have ne:∀ a x,H1 a=some x->a≠p:=λa x e=>iF e hp;have nw:∀ a o,w1 a=some o->a≠p:=λa o e=>by obtain⟨vs,q⟩:=g.wl a o e;exact ne a _ q
 have st:dk H1 w1 (upd H1 p (.tup vs)) w1:=λa x e n=>⟨sm (by rw[bw (ne a x e)];exact e),n⟩;refine⟨⟨⟨λa o e=>?_,g.wl.tb.upd rfl (.inl hp)⟩,g.ws,λa i e=>Zh (g.wt a i e),g.len,λi d q e=>?_⟩,⟨st,λa o e _=>⟨bw (nw a o e),e⟩⟩,?_⟩
 .obtain⟨us,q⟩:=g.wl a o e;exact⟨us,by rw[bw (nw a o e)];exact q⟩
 .obtain⟨v,F,h1,h2⟩:=g.slot i d q e;exact⟨v,F,h1,Rep.go g.wl st h2 λa m=>⟨bw (nw a _ (h2.aM a m)),h2.aM a m⟩⟩
 .exact .tup gM (ah.go g.wl st r nM)
end
@[simp] def eC (d:D):aJ:=λρ=>some (d,9,ρ)
@[simp] def aa (i:Nat):aJ:=λρ=>match ρ[i]? with
 | some (some (d,q))=>if d.cO=false then some (d,9,ρ)else if q=0 then some (d,0,ρ)else some (d,0,ρ.set i (some (d,0)))
 | _=>none
section
variable {X:Cx}{a b c e:Expr}{fa fb fc f:aJ}{pos:Pos}
theorem yw{d:D}(h:PE X e (tC v))(r:∀ K H w o q,Rep K H w o q d v []):PD X e (eC d):=PE.imp h λσ H Q ao=>by obtain⟨ρ,w,t,r',q,ad,g,ee,k⟩:=ao;cases ee;exact k v H w [] g.up Go.refl (r _ _ _ _ _)
theorem aY{i j}:QD X (.Constant (.int i) j pos) (eC (.int i)):=⟨yw En λ_ _ _ _ _=>.int i⟩
theorem tW{i j}:QD X (.Constant (.bool i) j pos) (eC (.bl i)):=⟨yw LY λ_ _ _ _ _=>.bl i⟩
theorem rM{j}:QD X (.Constant .none j pos) (eC .aF):=⟨yw LZ λ_ _ _ _ _=>.aF⟩
theorem kC{x j}:QD X (.Constant (.str x) j pos) (eC (.str x)):=⟨yw xT λ_ _ _ _ _=>.str x⟩
def iK (i:Nat)(w:Wn):Wn:=λa=>if w a=some (.s i)then none else w a
theorem vD{w:Wn}{a:Addr}(h:w a=none):iK i w a=none:=by unfold iK;rw[h];rfl
theorem FC{w:Wn}{a:Addr}(h:w a=some (.s i)):iK i w a=none:=by unfold iK;rw[Ql h]
theorem tY{w:Wn}{a:Addr}{o:Ow}(h:w a=some o)(n:o ≠ .s i):iK i w a=some o:=by unfold iK;rw[Qt (by rw[h];exact λz=>n (QJ z))];exact h
theorem oP{w:Wn}{a:Addr}{o:Ow}(h:iK i w a=some o):w a=some o/\o ≠ .s i:=by
 unfold iK at h;split at h
 .cases h
 .rename_i n;exact⟨h,λz=>n (by rw[h,z])⟩
theorem Good.give{ρ:aW}{σ:St}{w:Wn}{d:D}{q:Nat}(g:Good K ρ σ H w t)(e:ρ[i]? = some (some (d,q))):Good K (ρ.set i (some (d,0))) σ H (iK i w) t/\Go H w H (iK i w):=by
 have st:dk H w H (iK i w):=λa x h n=>⟨sm h,vD n⟩;refine⟨⟨⟨λa o h=>g.wl a o (oP h).1,g.wl.tb⟩,λa j h=>g.ws a j (oP h).1,λa j h=>g.wt a j (oP h).1,by rw[QA];exact g.len,λj d' q' e'=>?_⟩,⟨st,λa o h n=>⟨rfl,tY h (n i)⟩⟩⟩;by_cases hj:i=j
 .subst hj;rw[Qz (Qq.mp e).1]at e';cases e';obtain⟨v,F,h1,h2⟩:=g.slot i d q e;exact⟨v,[],h1,Rep.freeze (λa n=>vD n) h2 λa m=>FC (h2.aM a m)⟩
 .rw[Qy hj]at e';obtain⟨v,F,h1,h2⟩:=g.slot j d' q' e';exact⟨v,F,h1,Rep.go g.wl st h2 λa m=>⟨rfl,tY (h2.aM a m) (λz=>hj (by cases z;rfl))⟩⟩
theorem cV{x:Str}(h:QE X (.Name x pos) (iH i)):QD X (.Name x pos) (aa i):=⟨have h:=h.o;PE.imp h λσ H Q ao=>by
 obtain⟨ρ,w,t,r',q,ad,g,ee,k⟩:=ao;unfold aa at ee;split at ee;next d q0 e0=>
  obtain⟨v,F,h1,h2⟩:=g.slot i d q0 e0;refine⟨v,h1,?_⟩;split at ee;next hl=>
   cases ee;obtain⟨hF,hr⟩:=h2.dm hl;exact k v H w [] g.up Go.refl ((hr 9).any g.wl)
  .split at ee;next hq=>
    subst hq;cases ee;have:=h2.zero;subst this;exact k v H w [] g.up Go.refl (h2.any g.wl)
   .cases ee;obtain⟨g',gu⟩:=g.give e0;refine k v H (iK i w) [] g'.up gu ?_;exact Rep.freeze (λa n=>vD n) h2 λa m=>FC (h2.aM a m)
 .cases ee⟩
def jj:D->Option V
 | .aF=>some .aF
 | .bl b=>some (.bl b)
 | .int i=>some (.int i)
 | .str x=>some (.str x)
 | _=>none
theorem Rep.Bh{w:Wn}{o:Ow}{q:Nat}{d:D}{v':V}(r:Rep K H w o q d v F)(h:jj d=some v'):v=v':=by cases r<;>cases h<;>rfl
theorem vE{w:Wn}{o:Ow}{q:Nat}{d:D}(h:jj d=some v):Rep K H w o q d v []:=by
 cases d<;>cases h
 .exact .aF
 .exact .bl _
 .exact .int _
 .exact .str _
@[simp] def e2 (g:D->D->Option D)(fa fb:aJ):aJ:=λρ=>match fa ρ with
 | some (x,_,ac)=>match fb ac with
  | some (y,_,am)=>match g x y with
   | some d=>some (d,9,am)
   | none=>none
  | none=>none
 | none=>none
theorem Pc{g:D->D->Option D}{ρ ad:aW}{r:D}{q:Nat}(h:e2 g fa fb ρ=some (r,q,ad)):∃ x q1 ac y q2,fa ρ=some (x,q1,ac)/\fb ac=some (y,q2,ad)/\g x y=some r/\q=9:=by
 unfold e2 at h;split at h;next x q1 ac h1=>
  split at h;next y q2 am h2=>
   split at h;next d hd=>
    cases h;exact⟨x,q1,ac,y,q2,h1,h2,hd,rfl⟩
   .cases h
  .cases h
 .cases h
theorem tZ{g:D->D->Option D}(hg:∀ x y d,g x y=some d->∃ v,jj d=some v/\∀ H w o o' q q' u u' F F',Rep K H w o q x u F->Rep K H w o' q' y u' F'->WL K w H->∀ Q:VK,Q v H->r u u' H Q) :
  ∀ σ H Q,tD K (e2 g fa fb) σ H Q->jF r (tD K fa) (tD K fb) σ H Q:=λσ H Q ao=>by obtain⟨ρ,w,t,r',q,ad,gd,ee,k⟩:=ao;obtain⟨x,q1,ac,y,q2,h1,h2,h3,rfl⟩:=Pc ee;obtain⟨v,hv,hr⟩:=hg x y r' h3;exact p9 gd h1 h2 λu u' H2 w2 F1 F2 g2 go r1 r2=>hr H2 w2 _ _ _ _ u u' F1 F2 r1 r2 g2.wl Q (oM k gd g2 go (vE hv))
@[simp] def gI (f:Int->Int->Option D):D->D->Option D
 | .int i,.int j=>f i j
 | _,_=>none
theorem p_{f:Int->Int->Option D}{x y d:D}(h:gI f x y=some d):∃ i j,x=.int i/\y=.int j/\f i j=some d:=by
 unfold gI at h;split at h
 .exact⟨_,_,rfl,rfl,h⟩
 .cases h
theorem dU{w:Wn}{o:Ow}{q:Nat}{i:Int}(r:Rep K H w o q (.int i) v F):v=.int i:=r.inv.1
theorem Bi{f:Int->Int->Option D}{C:Int->Int->Prop}(hf:∀ i j d,f i j=some d->C i j/\jj d=some (h i j)) :
  ∀ σ H Q,tD K (e2 (gI f) fa fb) σ H Q->jF (rI C h) (tD K fa) (tD K fb) σ H Q:=
 tZ λx y d e=>by obtain⟨i,j,rfl,rfl,e⟩:=p_ e;obtain⟨c,s⟩:=hf i j d e;exact⟨_,s,λH w o o' q q' u u' F F' r1 r2 _ Q hq=>⟨i,j,dU r1,dU r2,c,hq⟩⟩
theorem vF{f:Int->Int->Option D}(hf:∀ i j d,f i j=some d->jj d=some (h i j)) :
  ∀ σ H Q,tD K (e2 (gI f) fa fb) σ H Q->jF (jG h) (tD K fa) (tD K fb) σ H Q:=
 tZ λx y d e=>by obtain⟨i,j,rfl,rfl,e⟩:=p_ e;exact⟨_,hf i j d e,λH w o o' q q' u u' F F' r1 r2 _ Q hq=>⟨i,j,dU r1,dU r2,hq⟩⟩
@[simp] def cb:D->D->Option D:=gI λi j=>some (.int (i+j))
@[simp] def la:D->D->Option D:=gI λi j=>some (.int (i-j))
@[simp] def ix:D->D->Option D:=gI λi j=>if(-(2 ^ 64)<i/\i<2 ^ 64)\/(-(2 ^ 64)<j/\j<2 ^ 64)then some (.int (i*j))else none
@[simp] def yx:D->D->Option D:=gI λi j=>if 0<j/\j<1073741824 then some (.int (i / j))else none
@[simp] def lb:D->D->Option D:=gI λi j=>if 0<j then some (.int (i % j))else none
theorem dv(ha:QD X a fa)(hb:QD X b fb):QD X (.BinOp a .Add b pos) (e2 cb fa fb):=⟨have ha:=ha.o;have hb:=hb.o;PE.imp (oz MT ha hb) (vF λi j d h=>by cases h;rfl)⟩
theorem t4(ha:QD X a fa)(hb:QD X b fb):QD X (.BinOp a .Sub b pos) (e2 la fa fb):=⟨have ha:=ha.o;have hb:=hb.o;PE.imp (oz MU ha hb) (vF λi j d h=>by cases h;rfl)⟩
theorem mG(ha:QD X a fa)(hb:QD X b fb):QD X (.BinOp a .Mult b pos) (e2 ix fa fb):=⟨have ha:=ha.o;have hb:=hb.o;PE.imp (oz MV ha hb) (Bi λi j d h=>by
 split at h
 .cases h;exact⟨by assumption,rfl⟩
 .cases h)⟩
theorem Bj(ha:QD X a fa)(hb:QD X b fb):QD X (.BinOp a .FloorDiv b pos) (e2 yx fa fb):=⟨have ha:=ha.o;have hb:=hb.o;PE.imp (oz MW ha hb) (Bi λi j d h=>by
 split at h
 .cases h;exact⟨by assumption,rfl⟩
 .cases h)⟩
theorem oQ(ha:QD X a fa)(hb:QD X b fb):QD X (.BinOp a .Mod b pos) (e2 lb fa fb):=⟨have ha:=ha.o;have hb:=hb.o;PE.imp (oz MX ha hb) (Bi λi j d h=>by
 split at h
 .cases h;exact⟨by assumption,rfl⟩
 .cases h)⟩
def cS:D->Int->Option D
 | .lst ds,i=>dz ds i
 | .tup ds,i=>dz ds i
 | _,_=>none
@[simp] def cK (fa fb:aJ):aJ:=λρ=>match fa ρ with
 | some (x,_,ac)=>match fb ac with
  | some (.int i,_,am)=>match cS x i with
   | some d=>some (d,gj d,am)
   | none=>none
  | _=>none
 | none=>none
theorem Rep.oR{w:Wn}{o:Ow}{q:Nat}{ds:List D}(r:Rep K H w o q (.lst ds) v F):∃ a vs q' G,v=.ref a/\cQ K H a vs/\ah K H w o q' ds vs G:=by
 obtain⟨a,vs,e,h⟩:=r.inv;cases q with
 | zero=>exact⟨a,vs,_,_,e,h.1.elim (·.sq) λh=>.inl h.1,h.2.1⟩
 | succ q=>
  obtain⟨G,_,h,_,r,_⟩:=h;exact⟨a,vs,_,G,e,cQ.of h,r⟩
theorem Rep.eX{w:Wn}{o:Ow}{ds:List D}(r:Rep K H w o 0 (.lst ds) v F):∃ a vs,v=.ref a/\cQ K H a vs/\ah K H w o 0 ds vs []:=by obtain⟨a,vs,e,h,r,_⟩:=r.inv;exact⟨a,vs,e,h.elim (·.sq) λh=>.inl h.1,r⟩
theorem Rep.d_{w:Wn}{o:Ow}{q:Nat}{ds:List D}(r:Rep K H w o q (.tup ds) v F):∃ a vs,v=.ref a/\du K H a vs/\ah K H w o 0 ds vs []:=by obtain⟨a,vs,e,_,h,r⟩:=r.inv;exact⟨a,vs,e,du.of h,r⟩
theorem Rep.vG{w:Wn}{o:Ow}{q:Nat}{ds:List D}(r:Rep K H w o q (.tup ds) v F):∃ a vs,v=.ref a/\H a=some (.tup vs)/\ah K H w o 0 ds vs []:=by obtain⟨a,vs,e,_,h,r⟩:=r.inv;exact⟨a,vs,e,h,r⟩
theorem ah.dz{w:Wn}{o:Ow}{ds:List D}{i:Int}{d:D}(r:ah K H w o 0 ds vs [])(h:L2.dz ds i=some d):∃ v,L2.dz vs i=some v/\Rep K H w o 0 d v []:=by
 unfold L2.dz at h ⊢;rw[<- r.length];cases e:g8 ds.length i with
 | none=>rw[e]at h;cases h
 | some j=>
  rw[e]at h;exact r.get h
theorem gw(ha:QD X a fa)(hb:QD X b fb)(hs:tO b:=by exact λ_ _=>rfl):QD X (.Subscript a b pos) (cK fa fb):=⟨have ha:=ha.o;have hb:=hb.o;PE.imp (vh vi ha hb hs) λσ H Q ao=>by
 obtain⟨ρ,w,t,r',q,ad,gd,ee,k⟩:=ao;unfold cK at ee;split at ee;next x q1 ac h1=>
  split at ee;next i q2 am h2=>
   split at ee;next d hd=>
    cases ee;refine p9 gd h1 h2 λu u' H2 w2 F1 F2 g2 go r1 r2=>?_;have Bk:=dU r2;subst Bk;have r0:=r1.drop (o:=.t t) (Qf t);cases x with
    | lst ds=>
     obtain⟨p,vs,rfl,hq,rs⟩:=r0.eX;obtain⟨v,hv,rv⟩:=rs.dz hd;exact .inl ⟨p,vs,i,v,rfl,rfl,hq,hv,oM k gd g2 go rv.kB⟩
    | tup ds=>
     obtain⟨p,vs,rfl,hq,rs⟩:=r0.d_;obtain⟨v,hv,rv⟩:=rs.dz hd;exact .inr (.inl ⟨p,vs,i,v,rfl,rfl,hq,hv,oM k gd g2 go rv.kB⟩)
    | _=>cases hd
   .cases ee
  .cases ee
 .cases ee⟩
abbrev bP:=aW->Option (List D×aW)
def Bl (K:PySem.W.Frag)(f:bP):TA:=λσ H Q=>∃ ρ w t ds ad,Good K ρ σ H w t/\f ρ=some (ds,ad)/\∀ vs H' w',Good K ad σ H' w' t->Go H w H' w'->ah K H' w' .f 0 ds vs []->Q vs H'
abbrev FD (X:Cx)(es:List Expr)(f:bP):Prop:=PA X es (Bl X.K f)
structure ft (X:Cx) (e:List Expr) (f:bP):Prop where mk::o:FD X e f
theorem PA.imp{X:Cx}{e:List Expr}{t t':TA}(h:PA X e t)(i:∀ σ H Q,t' σ H Q->t σ H Q):PA X e t':=λpos Uf s σ H Q I q=>h pos Uf s σ H Q I (i σ H Q q)
@[simp] def ai:bP:=λρ=>some ([],ρ)
@[simp] def af (f:aJ)(g:bP):bP:=λρ=>match f ρ with
 | some (d,_,ac)=>match g ac with
  | some (ds,am)=>some (d::ds,am)
  | none=>none
 | none=>none
theorem aq:ft X [] ai:=⟨PA.imp k_ λσ H Q ao=>by obtain⟨ρ,w,t,ds,ad,gd,ee,k⟩:=ao;cases ee;exact k [] H w gd Go.refl .nil⟩
theorem au{g:bP}(ha:QD X e f)(hr:ft X es g)(hs:starEach (e::es) X.env=(false,eval e X.env)::starEach es X.env:=by rfl):ft X (e::es) (af f g):=⟨have ha:=ha.o;have hr:=hr.o;PA.imp (jf ha hr hs) λσ H Q ao=>by
 obtain⟨ρ,w,t,ds,ad,gd,ee,k⟩:=ao;unfold af at ee;split at ee;next d q ac h1=>
  split at ee;next cJ am h2=>
   cases ee;refine⟨ρ,w,t,d,q,ac,gd,h1,λx H1 w1 F1 g1 aN r1=>⟨ac,cH t w1,t,cJ,_,g1.drop,h2,λvs H2 w2 g2 bC r2=>?_⟩⟩;have gl:=(g1.drop (t':=t)).wl;have r0:Rep X.K H2 w2 .f 0 d x []:=Rep.go gl bC.bO (r1.drop (o:=.f) (Qf t)) nM;exact k (x::vs) H2 w2 g2 ((aN.drop gd.wt).trans bC) (.cons (F:=[]) (G:=[]) r0 r2 nM)
  .cases ee
 .cases ee⟩
@[simp] def cZ (g:bP):aJ:=λρ=>match g ρ with
 | some (ds,ac)=>if ds.length<=1000 then some (.lst ds,1,ac)else none
 | none=>none
@[simp] def bS (g:bP):aJ:=λρ=>match g ρ with
 | some (ds,ac)=>if ds.length<=1000 then some (.tup ds,9,ac)else none
 | none=>none
theorem qc(h:n<=1000):n<=sizeLine:=ZF (pW h)
theorem el{g:bP}(h:ft X es g):QD X (.List es pos) (cZ g):=⟨have h:=h.o;PE.imp (Nj h) λσ H Q ao=>by
 obtain⟨ρ,w,t,r',q,ad,gd,ee,k⟩:=ao;unfold cZ at ee;split at ee;next ds ac h1=>
  split at ee;next hl=>
   cases ee;refine⟨ρ,w,t,ds,_,gd,h1,λvs H1 w1 g1 aN r1=>⟨by rw[<- r1.length];exact qc hl,λp hp=>?_⟩⟩;obtain⟨a1,a2,a3⟩:=oO g1 hp r1;exact k _ _ _ _ a1 (aN.trans a2) a3
  .cases ee
 .cases ee⟩
theorem d3{g:bP}{x1}(h:ft X es g):QD X (.Tuple es x1 pos) (bS g):=⟨have h:=h.o;PE.imp (Ni h) λσ H Q ao=>by
 obtain⟨ρ,w,t,r',q,ad,gd,ee,k⟩:=ao;unfold bS at ee;split at ee;next ds ac h1=>
  split at ee;next hl=>
   cases ee;refine⟨ρ,w,t,ds,_,gd,h1,λvs H1 w1 g1 aN r1=>⟨by rw[<- r1.length];exact qc hl,λp hp=>?_⟩⟩;obtain⟨a1,a2,a3⟩:=tV g1 hp r1;exact k _ _ _ _ a1 (aN.trans a2) a3
  .cases ee
 .cases ee⟩
def lg (K:PySem.W.Frag)(n:Nat)(F:List D->OD):Sp:=λvs H Q _=>vs.length=n/\∃ ds w r q,(∀ a o,w a=some o->o=.f)/\WL K w H/\ah K H w .f 0 ds vs []/\F ds=some (r,q) /\
 ∀ v H' w' Fo,Go H w H' w'->WL K w' H'->Rep K H' w' (.t 0) q r v Fo->Q v H'
@[simp] def aE (F:List D->OD)(n:Nat)(g:bP):aJ:=λρ=>match g ρ with
 | some (ds,ac)=>if ds.length=n then match F ds with
  | some (r,q)=>some (r,q,ac)
  | none=>none
  else none
 | none=>none
theorem Bm{ρ:aW}{σ:St}{w w':Wn}{q:Nat}{d:D}{Fo:List Addr}(g:Good K ρ σ H w t)
  (go:Go H (λa=>(w a).map λ_=>Ow.f) H' w') (lh:WL K w' H') (r:Rep K H' w' (.t 0) q d v Fo) :
  Good K ρ σ H' (λa=>if a∈Fo then some (.t t)else w a) (t+1)/\Go H w H' (λa=>if a∈Fo then some (.t t)else w a)/\Rep K H' (λa=>if a∈Fo then some (.t t)else w a) (.t t) q d v Fo:=by
 have kf:∀ a o,w a=some o->H' a=H a/\w' a=some .f:=λa o e=>go.keep a .f (by show(w a).map _=_;rw[e];rfl) (λ_ z=>nomatch z);have nf:∀ a x,H a=some x->a ∉ Fo:=λa x e m=>by
  have h1:=r.aM a m;cases ew:w a with
  | none=>
   have:=(go.bO a x e (by show(w a).map _=_;rw[ew];rfl)).2;rw[h1]at this;cases this
  | some o=>rw[(kf a o ew).2]at h1;cases h1
 have nw:∀ a o,w a=some o->a ∉ Fo:=λa o e=>by obtain⟨vs,q⟩:=g.wl a o e;exact nf a _ q
 have st:dk H w H' (λa=>if a∈Fo then some (.t t)else w a):=λa x e n=>⟨(go.bO a x e (by show(w a).map _=_;rw[n];rfl)).1,by show(if a∈Fo then _ else _)=_;rw[Qt (nf a x e)];exact n⟩;have wv:∀ a o,(if a∈Fo then some (Ow.t t)else w a)=some o->(a∈Fo/\o=.t t)\/w a=some o:=λa o e=>by
  split at e
  .cases e;exact .inl ⟨by assumption,rfl⟩
  .exact .inr e
 refine⟨⟨⟨λa o e=>?_,lh.tb⟩,λa i e=>?_,λa i e=>?_,g.len,λi d q e=>?_⟩,⟨st,λa o e _=>⟨(kf a o e).1,by show(if a∈Fo then _ else _)=_;rw[Qt (nw a o e)];exact e⟩⟩,?_⟩
 .rcases wv a o e with⟨m,_⟩|z
  .exact lh a _ (r.aM a m)
  .obtain⟨vs,h⟩:=g.wl a o z;exact⟨vs,(kf a o z).1.trans h⟩
 .rcases wv a _ e with⟨_,z⟩|z
  .cases z
  .exact g.ws a i z
 .rcases wv a _ e with⟨_,z⟩|z
  .cases z;exact Zg _
  .exact Zh (g.wt a i z)
 .obtain⟨v,F,h1,h2⟩:=g.slot i d q e;refine⟨v,F,h1,Rep.go g.wl st h2 λa m=>⟨(kf a _ (h2.aM a m)).1,?_⟩⟩;show(if a∈Fo then _ else _)=_;rw[Qt (nw a _ (h2.aM a m))];exact h2.aM a m
 .refine Rep.go lh (λa x e n=>⟨sm e,?_⟩) r λa m=>⟨rfl,Ql m⟩;show(if a∈Fo then _ else _)=_;rw[Qt (λm=>by have:=r.aM a m;rw[n]at this;cases this)];cases ew:w a with
  | none=>rfl
  | some o=>have:=(kf a o ew).2;rw[n]at this;cases this
theorem Pd{CX:mz}{k:Nat}{fn:Addr}{x:Str}{p:Pos}{F:List D->OD}{g:bP}(Fk:dS X.prog X.w X.K X.mg X.base CX k fn fd ps (lg X.K n F))(hr:bc k X.A)(hm:X.mg x=some (.ref fn))(hk:W.keepIn X.K (.ref fn)=true)(hb:nJ X.K fd ps [])
  (hx:x5 CX X E) (ha:FD X (e::es) g) (hg:Gl X x:=by rfl) (gZ:(x==("__debug__":Str))=false:=by decide) (he:starEach (e::es) X.env=(false,eval e X.env)::starEach es X.env:=by rfl) (cB:(backTo pos (starEach es X.env)).any (·.1)=false:=by rfl) :
  PD X (.Call (.Name x p) (e::es) [] pos) (aE F n g):=PE.imp (Am Fk hr hg hm hk hb .nil hx ha gZ he cB) λσ H Q ao=>by
 obtain⟨ρ,w,t,r',q,ad,gd,ee,k⟩:=ao;unfold aE at ee;split at ee;next ds ac h1=>
  split at ee;next hn=>
   split at ee;next r0 q0 h2=>
    cases ee;refine⟨ρ,w,t,ds,_,gd,h1,λvs H1 w1 g1 aN r1=>?_⟩;show lg X.K n F (vs++[]) H1 Q E;rw[Q5];refine⟨by rw[<- r1.length];exact hn,ds,λa=>(w1 a).map λ_=>Ow.f,r',q,λa o e=>?_,⟨λa o e=>?_,g1.wl.tb⟩,?_,h2,λv H2 w2 Fo bC rN rr=>?_⟩
    .dsimp only at e;cases ew:w1 a with
     | none=>rw[ew]at e;cases e
     | some o'=>rw[ew]at e;cases e;rfl
    .try dsimp only at e
     cases ew:w1 a with
     | none=>rw[ew]at e;cases e
     | some o'=>exact g1.wl a o' ew
    .exact ah.freeze (λa n=>by show(w1 a).map _=_;rw[n];rfl) r1 nM
    .obtain⟨b1,b2,b3⟩:=Bm g1 bC rN rr;exact k _ _ _ _ b1 (aN.trans b2) b3
   .cases ee
  .cases ee
 .cases ee
end
abbrev cI:=aW->Option (Bool×aW)
def rO (K:PySem.W.Frag)(f:cI):TT:=λσ H Q=>∃ ρ w t b ad,Good K ρ σ H w t/\f ρ=some (b,ad)/\∀ H' w',Good K ad σ H' w' t->Go H w H' w'->Q b H'
theorem PT.imp{e:Expr}{t t':TT}(h:PT X e t)(i:∀ σ H Q,t' σ H Q->t σ H Q):PT X e t':=λUf s σ H Q I q=>h Uf s σ H Q I (i σ H Q q)
theorem PW.imp{e:Expr}{t t':TT}(h:PW X e t)(i:∀ σ H Q,t' σ H Q->t σ H Q):PW X e t':=λwhole Uf s σ H Q I q=>h whole Uf s σ H Q I (i σ H Q q)
abbrev Bn (X:Cx)(e:Expr)(f:cI):Prop:=PT X e (rO X.K f)
structure g_ (X:Cx) (e:Expr) (f:cI):Prop where mk::o:Bn X e f
abbrev Pe (X:Cx)(e:Expr)(f:cI):Prop:=PW X e (rO X.K f)
structure rP (X:Cx) (e:Expr) (f:cI):Prop where mk::o:Pe X e f
@[simp] def Pf:D->Option Bool
 | .aF=>some false
 | .bl b=>some b
 | .int i=>some (i != 0)
 | .tup ds=>some (!ds.isEmpty)
 | .lst ds=>some (!ds.isEmpty)
 | .str _=>none
 | .gN _ _=>none
 | .exc _=>none
 | .ob _ _ _ _=>none
 | .mp _ _=>none
@[simp] def eA (f:aJ):cI:=λρ=>match f ρ with
 | some (d,_,ac)=>match Pf d with
  | some b=>some (b,ac)
  | none=>none
 | none=>none
section
variable {X:Cx}{a b c e:Expr}{fa fb fc f:aJ}{ga gb gc:cI}{pos:Pos}
theorem yy{α β:Type}{l:List α}{l':List β}(h:l.length=l'.length):(!l.isEmpty) = !l'.isEmpty:=by cases l<;>cases l'<;>first|rfl|cases h
theorem kD(ha:QD X a fa)(he:∀ whole,isTrue a X.env whole=(do let v <- whole;standAt a.pos;holding [v] (truthy v)):=by exact λ_=>rfl):g_ X a (eA fa):=⟨have ha:=ha.o;PT.imp (M_ ha he) λσ H Q ao=>by
 obtain⟨ρ,w,t,b,ad,gd,ee,k⟩:=ao;unfold eA at ee;split at ee;next d q ac h1=>
  split at ee;next b' hb=>
   cases ee;refine⟨ρ,w,t,d,q,_,gd,h1,λv H1 w1 F g1 aN r1=>⟨b,?_,k H1 (cH t w1) g1.drop (aN.drop gd.wt)⟩⟩;cases r1 with
   | aF=>cases hb;rfl
   | bl x=>cases hb;rfl
   | int i=>cases hb;rfl
   | str x=>cases hb
   | tup h r=>cases hb;exact .inr (.inl ⟨_,du.of h,yy r.length⟩)
   | gN h e r=>cases hb
   | exc h x n=>cases hb
   | ob h1 h2 x r=>cases hb
   | kl h r=>cases hb;exact .inl ⟨_,h.sq,yy r.length⟩
   | shr h _ r=>cases hb;exact .inl ⟨_,.inl h,yy r.length⟩
   | own h _ r _=>cases hb;exact .inl ⟨_,cQ.of h,yy r.length⟩
   | p6 h _ _ _ _=>cases hb
   | p7 h _ _ _ _=>cases hb
  .cases ee
 .cases ee⟩
@[simp] def bf (f:aJ):cI:=λρ=>match f ρ with
 | some (.bl b,_,ac)=>some (b,ac)
 | _=>none
theorem FE(h:∀ σ H Q,tD K f σ H Q->te σ H Q):∀ σ H Q,rO K (bf f) σ H Q->Ak te σ H Q:=λσ H Q ao=>by
 obtain⟨ρ,w,t,b,ad,gd,ee,k⟩:=ao;unfold bf at ee;split at ee;next b' q ac h1=>
  cases ee;refine h σ H _ ⟨ρ,w,t,.bl b,q,_,gd,h1,λv H1 w1 F g1 aN r1=>?_⟩;exact⟨b,r1.inv.1,k H1 (cH t w1) g1.drop (aN.drop gd.wt)⟩
 .cases ee
theorem rQ{g:D->D->Option D}(ho:cU X (compareOp op) r)(hr:∀ σ H Q,tD X.K (e2 g fa fb) σ H Q->jF r (tD X.K fa) (tD X.K fb) σ H Q)(ha:PD X a fa)(hb:PD X b fb)(hm:behindInMarks op b=false) :
  Bn X (.Compare a [op] [b] pos) (bf (e2 g fa fb)):=PT.imp (M5 ho ha hb hm) (FE hr)
theorem FF{g:D->D->Option D}(ho:cU X (compareOp op) r)(hr:∀ σ H Q,tD X.K (e2 g fa fb) σ H Q->jF r (tD X.K fa) (tD X.K fb) σ H Q)(ha:PD X a fa)(hb:PD X b fb)(hm:behindInMarks op b=false) :
  PD X (.Compare a [op] [b] pos) (e2 g fa fb):=PE.imp (M4 ho ha hb hm) hr
@[simp] def jk:D->D->Option D:=gI λi j=>some (.bl (decide (i<j)))
@[simp] def qd:D->D->Option D:=gI λi j=>some (.bl (decide (i<=j)))
@[simp] def vH:D->D->Option D:=gI λi j=>some (.bl (decide (j<i)))
@[simp] def kE:D->D->Option D:=gI λi j=>some (.bl (decide (j<=i)))
theorem Pg:∀ σ H Q,tD K (e2 jk fa fb) σ H Q->jF (jG λi j=>.bl (decide (i<j))) (tD K fa) (tD K fb) σ H Q:=vF λi j d h=>by cases h;rfl
theorem Ph:∀ σ H Q,tD K (e2 vH fa fb) σ H Q->jF (jG λi j=>.bl (decide (j<i))) (tD K fa) (tD K fb) σ H Q:=vF λi j d h=>by cases h;rfl
theorem Pj:∀ σ H Q,tD K (e2 kE fa fb) σ H Q->jF (jG λi j=>.bl (decide (j<=i))) (tD K fa) (tD K fb) σ H Q:=vF λi j d h=>by cases h;rfl
theorem yz(ha:QD X a fa)(hb:QD X b fb):g_ X (.Compare a [.Lt] [b] pos) (bf (e2 jk fa fb)):=⟨have ha:=ha.o;have hb:=hb.o;rQ Aj Pg ha hb (q_ _)⟩
theorem FG(ha:QD X a fa)(hb:QD X b fb):g_ X (.Compare a [.Gt] [b] pos) (bf (e2 vH fa fb)):=⟨have ha:=ha.o;have hb:=hb.o;rQ M1 Ph ha hb (q_ _)⟩
theorem FH(ha:QD X a fa)(hb:QD X b fb):g_ X (.Compare a [.GtE] [b] pos) (bf (e2 kE fa fb)):=⟨have ha:=ha.o;have hb:=hb.o;rQ M3 Pj ha hb (q_ _)⟩
@[simp] def iy (g:cI):cI:=λρ=>match g ρ with
 | some (b,ac)=>some (!b,ac)
 | none=>none
theorem nS(ha:g_ X a ga):g_ X (.UnaryOp .Not a pos) (iy ga):=⟨have ha:=ha.o;PT.imp (Md ha) λσ H Q ao=>by
 obtain⟨ρ,w,t,b,ad,gd,ee,k⟩:=ao;unfold iy at ee;split at ee;next b' ac h1=>
  cases ee;exact⟨ρ,w,t,b',_,gd,h1,λH1 w1 g1 aN=>k H1 w1 g1 aN⟩
 .cases ee⟩
@[simp] def iL (g h:cI):cI:=λρ=>match g ρ with
 | some (b,ac)=>if b=true then h ac else some (false,ac)
 | none=>none
@[simp] def t5 (g h:cI):cI:=λρ=>match g ρ with
 | some (b,ac)=>if b=true then some (true,ac)else h ac
 | none=>none
variable {bI:List Expr}
theorem FI(ha:g_ X a ga):rP X (.BoolOp .And [a] pos) ga:=⟨have ha:=ha.o;L_ ha⟩
theorem Bo(ha:g_ X a ga):rP X (.BoolOp .Or [a] pos) ga:=⟨have ha:=ha.o;Ma ha⟩
theorem Bp(ha:g_ X a ga)(hb:rP X (.BoolOp .And (b::bI) pos) gb):rP X (.BoolOp .And (a::b::bI) pos) (iL ga gb):=⟨have ha:=ha.o;have hb:=hb.o;PW.imp (Mb ha hb) λσ H Q ao=>by
 obtain⟨ρ,w,t,b,ad,gd,ee,k⟩:=ao;unfold iL at ee;split at ee;next b' ac h1=>
  refine⟨ρ,w,t,b',ac,gd,h1,λH1 w1 g1 aN=>?_⟩;split at ee
  .rename_i hb;rw[Ql hb]
   exact⟨ac,w1,t,b,ad,g1,ee,λH2 w2 g2 bC=>k H2 w2 g2 (aN.trans bC)⟩
  .rename_i hb;rw[Qt hb]
   cases ee;exact k H1 w1 g1 aN
 .cases ee⟩
theorem yA(ha:g_ X a ga)(hb:rP X (.BoolOp .Or (b::bI) pos) gb):rP X (.BoolOp .Or (a::b::bI) pos) (t5 ga gb):=⟨have ha:=ha.o;have hb:=hb.o;PW.imp (Mc ha hb) λσ H Q ao=>by
 obtain⟨ρ,w,t,b,ad,gd,ee,k⟩:=ao;unfold t5 at ee;split at ee;next b' ac h1=>
  refine⟨ρ,w,t,b',ac,gd,h1,λH1 w1 g1 aN=>?_⟩;split at ee
  .rename_i hb;rw[Ql hb]
   cases ee;exact k H1 w1 g1 aN
  .rename_i hb;rw[Qt hb]
   exact⟨ac,w1,t,b,ad,g1,ee,λH2 w2 g2 bC=>k H2 w2 g2 (aN.trans bC)⟩
 .cases ee⟩
@[simp] def lV (g:cI)(fa fb:aJ):aJ:=λρ=>match g ρ with
 | some (b,ac)=>if b=true then fa ac else fb ac
 | none=>none
theorem yB(hc:g_ X c gc)(ha:QD X a fa)(hb:QD X b fb):QD X (.IfExp c a b pos) (lV gc fa fb):=⟨have hc:=hc.o;have ha:=ha.o;have hb:=hb.o;PE.imp (Mk hc ha hb) λσ H Q ao=>by
 obtain⟨ρ,w,t,r',q,ad,gd,ee,k⟩:=ao;unfold lV at ee;split at ee;next b' ac h1=>
  refine⟨ρ,w,t,b',ac,gd,h1,λH1 w1 g1 aN=>?_⟩;split at ee
  .rename_i hb;rw[Ql hb]
   exact⟨ac,w1,t,r',q,ad,g1,ee,λv H2 w2 F g2 bC=>k v H2 w2 F g2 (aN.trans bC)⟩
  .rename_i hb;rw[Qt hb]
   exact⟨ac,w1,t,r',q,ad,g1,ee,λv H2 w2 F g2 bC=>k v H2 w2 F g2 (aN.trans bC)⟩
 .cases ee⟩
end
inductive Out where
 | nx (ρ:aW)|rt (d:D) (q:Nat)|bk (ρ:aW)|ct (ρ:aW)
abbrev aI:=aW->Option Out
def nT (K:PySem.W.Frag)(Dn:Ends)(n:Nat)(H:Hp)(w:Wn):Out->Prop
 | .nx ad=>∀ aT H' w',aT.length=n->Good K ad aT H' w' 0->Go H w H' w'->Dn.nx aT H'
 | .bk ad=>∀ aT H' w',aT.length=n->Good K ad aT H' w' 0->Go H w H' w'->Dn.bk aT H'
 | .ct ad=>∀ aT H' w',aT.length=n->Good K ad aT H' w' 0->Go H w H' w'->Dn.ct aT H'
 | .rt d q=>∀ v H' w' F,WL K w' H'->Go H w H' w'->Rep K H' w' (.t 0) q d v F->Dn.rt v H'
def qe (K:PySem.W.Frag)(f:aI):TS:=λDn σ H=>∃ ρ w o,Good K ρ σ H w 0/\f ρ=some o/\nT K Dn σ.length H w o
theorem PS.imp{e:Stmt}{t t':TS}(h:PS X e t)(i:∀ D σ H,t' D σ H->t D σ H):PS X e t':=λUf s σ H D I q=>h Uf s σ H D I (i D σ H q)
theorem gV.imp{e:List Stmt}{t t':TS}(h:gV X e t)(i:∀ D σ H,t' D σ H->t D σ H):gV X e t':=λUf s σ H D I q=>h Uf s σ H D I (i D σ H q)
abbrev yC (X:Cx)(st:Stmt)(f:aI):Prop:=PS X st (qe X.K f)
structure jl (X:Cx) (e:Stmt) (f:aI):Prop where mk::o:yC X e f
abbrev vI (X:Cx)(st:List Stmt)(f:aI):Prop:=gV X st (qe X.K f)
structure fY (X:Cx) (e:List Stmt) (f:aI):Prop where mk::o:vI X e f
@[simp] def d4:aI:=λρ=>some (.nx ρ)
@[simp] def az (f g:aI):aI:=λρ=>match f ρ with
 | some (.nx ac)=>g ac
 | o=>o
theorem nT.trans{Dn:Ends}{w w1:Wn}(go:Go H w H1 w1):∀ {o:Out},nT K Dn n H w o->nT K Dn n H1 w1 o
 | .nx _,h=>λaT H' w' e g gu=>h aT H' w' e g (go.trans gu)
 | .bk _,h=>λaT H' w' e g gu=>h aT H' w' e g (go.trans gu)
 | .ct _,h=>λaT H' w' e g gu=>h aT H' w' e g (go.trans gu)
 | .rt _ _,h=>λv H' w' F wl gu=>h v H' w' F wl (go.trans gu)
section
variable {X:Cx}{a b c e:Expr}{fa fb fc f:aJ}{ga gb gc:cI}{pos:Pos}{st:Stmt}{bI sa sb:List Stmt}{s s':aI}
theorem gO:fY X [] d4:=⟨gV.imp Mn λD σ H ao=>by obtain⟨ρ,w,o,g,ee,k⟩:=ao;cases ee;exact k σ H w rfl g Go.refl⟩
theorem aR(h1:jl X st s)(h2:fY X bI s'):fY X (st::bI) (az s s'):=⟨have h1:=h1.o;have h2:=h2.o;gV.imp (xW h1 h2) λD σ H ao=>by
 obtain⟨ρ,w,o,g,ee,k⟩:=ao;unfold az at ee;split at ee;next ac h1=>
  exact⟨ρ,w,.nx ac,g,h1,λaT H' w' e g' gu=>⟨ac,w',o,g',ee,by rw[e];exact k.trans gu⟩⟩
 next cG=>
  refine⟨ρ,w,o,g,ee,?_⟩;cases o with
  | nx ac=>exact absurd ee (cG ac)
  | bk ac=>exact k
  | ct ac=>exact k
  | rt d q=>exact k⟩
theorem aX(h1:jl X st s):fY X [st] s:=⟨have h1:=h1.o;Ep h1⟩
@[simp] def bG (f:aJ):aI:=λρ=>match f ρ with
 | some (d,q,_)=>some (.rt d q)
 | none=>none
theorem bU(h:QD X e f):jl X (.Return (some e) pos) (bG f):=⟨have h:=h.o;PS.imp (Mr h) λD σ H ao=>by
 obtain⟨ρ,w,o,g,ee,k⟩:=ao;unfold bG at ee;split at ee;next d q ac h1=>
  cases ee;exact⟨ρ,w,0,d,q,ac,g,h1,λv H' w' F g' gu r=>k v H' w' F g'.wl gu r⟩
 .cases ee⟩
@[simp] def dn (g:cI)(s s':aI):aI:=λρ=>match g ρ with
 | some (b,ac)=>if b=true then s ac else s' ac
 | none=>none
theorem gy(hc:g_ X c gc)(ha:fY X sa s)(hb:fY X sb s'):jl X (.If c sa sb pos) (dn gc s s'):=⟨have hc:=hc.o;have ha:=ha.o;have hb:=hb.o;PS.imp (Es hc ha hb) λD σ H ao=>by
 obtain⟨ρ,w,o,g,ee,k⟩:=ao;unfold dn at ee;split at ee;next b' ac h1=>
  refine⟨ρ,w,0,b',ac,g,h1,λH1 w1 g1 aN=>?_⟩;split at ee
  .rename_i hb;rw[Ql hb]
   exact⟨ac,w1,o,g1,ee,k.trans aN⟩
  .rename_i hb;rw[Qt hb]
   exact⟨ac,w1,o,g1,ee,k.trans aN⟩
 .cases ee⟩
def lp (t i:Nat)(w:Wn):Wn:=λa=>if w a=some (.t t)then some (.s i)else if w a=some (.s i)then none else w a
theorem Good.set{ρ:aW}{σ:St}{w:Wn}{q:Nat}{d:D}(g:Good K ρ σ H w 1)(hi:i<σ.length)(r:Rep K H w (.t 0) q d v F) :
  Good K (ρ.set i (some (d,q))) (σ.set i (some v)) H (lp 0 i w) 0/\∀ bM oS,Go bM oS H w->(∀ a j,oS a=some (.t j)->j<0)->Go bM oS H (lp 0 i w):=by
 have mN:∀ a,w a=none->lp 0 i w a=none:=λa e=>by unfold lp;rw[e];rfl
 have mT:∀ a,w a=some (.t 0)->lp 0 i w a=some (.s i):=λa e=>by unfold lp;rw[Ql e]
 have mS:∀ a j,w a=some (.s j)->j≠i->lp 0 i w a=some (.s j):=λa j e n=>by unfold lp;rw[Qt (by rw[e];exact λz=>nomatch z),Qt (by rw[e];intro z;cases z;exact n rfl)];exact e
 have mF:∀ a,w a=some .f->lp 0 i w a=some .f:=λa e=>by unfold lp;rw[Qt (by rw[e];exact λz=>nomatch z),Qt (by rw[e];exact λz=>nomatch z)];exact e
 have mI:∀ a o,lp 0 i w a=some o->(w a=some (.t 0)/\o=.s i)\/(w a=some o/\o ≠ .s i/\o ≠ .t 0):=λa o e=>by
  unfold lp at e;split at e
  .cases e;exact .inl ⟨by assumption,rfl⟩
  next n1=>
   split at e
   .cases e
   .rename_i n2;exact .inr ⟨e,λz=>n2 (by rw[e,z]),λz=>n1 (by rw[e,z])⟩
 have st:dk H w H (lp 0 i w):=λa x h n=>⟨sm h,mN a n⟩;refine⟨⟨⟨λa o e=>?_,g.wl.tb⟩,λa j e=>?_,λa j e=>?_,by rw[QA,QA];exact g.len,λj d' q' e'=>?_⟩,λbM oS go hw=>⟨λa x h n=>⟨(go.bO a x h n).1,mN a (go.bO a x h n).2⟩,λa o e n=>?_⟩⟩
 .rcases mI a o e with⟨z,_⟩|⟨z,_⟩
  .exact g.wl a _ z
  .exact g.wl a _ z
 .rw[QA];rcases mI a _ e with⟨_,z⟩|⟨z,_⟩
  .cases z;exact hi
  .exact g.ws a j z
 .rcases mI a _ e with⟨_,z⟩|⟨z,_,n⟩
  .cases z
  .have:=g.wt a j z;have:j=0:=by omega
   subst this;exact absurd rfl n
 .by_cases hj:i=j
  .subst hj;rw[Qz (by rw[g.len];exact hi)]at e';cases e';exact⟨v,F,Qz hi,Rep.go g.wl st r λa m=>⟨rfl,mT a (r.aM a m)⟩⟩
  .rw[Qy hj]at e';obtain⟨v',F',h1,h2⟩:=g.slot j d' q' e';exact⟨v',F',by rw[Qy hj];exact h1,Rep.go g.wl st h2 λa m=>⟨rfl,mS a j (h2.aM a m) (λz=>hj z.symm)⟩⟩
 .obtain⟨h1,h2⟩:=go.keep a o e n;refine⟨h1,?_⟩;cases o with
  | s j=>exact absurd rfl (n j)
  | f=>exact mF a h2
  | t j=>exact absurd (hw a j e) (YH _)
@[simp] def aV (i:Nat)(f:aJ):aI:=λρ=>match f ρ with
 | some (d,q,ac)=>some (.nx (ac.set i (some (d,q))))
 | none=>none
theorem FJ{D:Ends}{σ:St}(hi:i<σ.length)(he:∀ Q,tD K f σ H Q->te σ H Q)(h:qe K (aV i f) D σ H):te σ H λx H1=>D.nx (σ.set i (some x)) H1:=by
 obtain⟨ρ,w,o,g,ee,k⟩:=h;unfold aV at ee;split at ee;next d q ac h1=>
  cases ee;refine he _ ⟨ρ,w,0,d,q,ac,g,h1,λv H' w' F g' gu r=>?_⟩;obtain⟨a1,a2⟩:=g'.set hi r;exact k _ _ _ (by rw[QA]) a1 (a2 _ _ gu g.wt)
 .cases ee
theorem br{i:Nat}{x:Str}{pos':Pos}(hN:X.N.Nodup)(he:QD X e f)(hs:swapsWith e (some (.Name x pos')) pos.line X.env=pure false:=by rfl)(hf:X.fn x=true\/X.env.scope.names.lookup x=some .local:=by first|exact .inl rfl|exact .inr rfl)(hi:X.N[i]? = some x:=by rfl)(hx:Loc X.env.scope x:=by first|exact Or.inl rfl|exact Or.inr rfl):jl X (.Assign [.Name x pos'] e pos) (aV i f):=⟨have he:=he.o;by
 intro Uf s σ H D I h;have hl:i<σ.length:=by rw[I.len];exact(Qq.mp hi).1
 exact Ew (te:=tD X.K f) hN hi hx he hs hf Uf s σ H D I (FJ hl (λ_ z=>z) h)⟩
@[simp] def dB (f:aJ):aI:=λρ=>match f ρ with
 | some (_,_,ac)=>some (.nx ac)
 | none=>none
theorem hG(he:QD X e f)(hs:swapsWith e none pos.line X.env=pure false:=by rfl):jl X (.Expr e pos) (dB f):=⟨have he:=he.o;PS.imp (Er he hs) λD σ H ao=>by
 obtain⟨ρ,w,o,g,ee,k⟩:=ao;unfold dB at ee;split at ee;next d q ac h1=>
  cases ee;exact⟨ρ,w,0,d,q,ac,g,h1,λv H' w' F g' gu r=>k σ H' (cH 0 w') rfl g'.drop (gu.drop g.wt)⟩
 .cases ee⟩
end
structure Mo (K:PySem.W.Frag) (H H':Hp):Prop where
 mo:∀ a o,H a=some o->H' a=some o
 tb:TB K H->TB K H'
theorem Mo.rR:Mo K H H:=⟨λ_ _ e=>e,λt=>t⟩
structure mH (K:PySem.W.Frag) (J:It) (ds:List D) (P:Hp->Wn->Prop):Prop where
 go:∀ i H w,P H w->i<ds.length->J.go i H
 q8:∀ i H w x H' d,P H w->WL K w H->ds[i]? = some d->J.q8 i H x H'->Mo K H H'/\Rep K H' w .f 0 d x []/\P H' w
 stop:∀ H w,P H w->J.stop ds.length H
 st:∀ H w H' w',P H w->WL K w H->dk H w H' w'->P H' w'
abbrev jZ:=aW->Option (List D×aW)
def yD (K:PySem.W.Frag)(f:jZ):TI:=λσ H R=>∃ ρ w t ds ad,Good K ρ σ H w t/\f ρ=some (ds,ad) /\
 ∀ J P H' w',Good K ad σ H' w' t->Go H w H' w'->mH K J ds P->P H' w'->ds.length<sizeLine->R J H'
theorem PI.imp{e:Expr}{t t':TI}(h:PI X tg e t)(i:∀ σ H R,t' σ H R->t σ H R):PI X tg e t':=λUf s σ H R I q=>h Uf s σ H R I (i σ H R q)
abbrev Pk (X:Cx)(tg e:Expr)(f:jZ):Prop:=PI X tg e (yD X.K f)
structure t6 (X:Cx) (tg e:Expr) (f:jZ):Prop where mk::o:Pk X tg e f
theorem It.list{K:PySem.W.Frag}{a:Addr}{vs:List V}{ds:List D}(hl:ds.length=vs.length):mH K (Ab K a) ds λH w=>(KL K a vs\/(Rd H a (.lst vs)/\w a=none))/\ah K H w .f 0 ds vs []:=by
 have sq:∀ {H:Hp} {w:Wn},KL K a vs\/(Rd H a (.lst vs)/\w a=none)->cQ K H a vs:=λh=>h.elim (λz=>z.sq) λz=>.inl z.1;refine⟨λi H w p hi=>⟨vs,vs[i],sq p.1,by simp[hl ▸ hi]⟩,λi H w x H' d p wl hd y=>?_,λH w p=>⟨vs,sq p.1,by omega⟩,λH w H' w' p wl st=>?_⟩
 .obtain⟨rfl,hx⟩:=y;obtain⟨v,hv,rv⟩:=p.2.get hd;have:=hx vs (sq p.1);rw[hv]at this;cases this;exact⟨Mo.rR,rv,p⟩
 .refine⟨?_,ah.go wl st p.2 nM⟩;rcases p.1 with p|⟨p,n⟩
  .exact .inl p
  .exact .inr (yk.go st n p)
theorem It.tup{K:PySem.W.Frag}{a:Addr}{vs:List V}{ds:List D}(hl:ds.length=vs.length):mH K (Ac K a) ds λH w=>du K H a vs/\ah K H w .f 0 ds vs []:=
 ⟨λi H w p hi=>⟨vs,vs[i],p.1,by simp[hl ▸ hi]⟩,λi H w x H' d p wl hd y=>by obtain⟨rfl,hx⟩:=y;obtain⟨v,hv,rv⟩:=p.2.get hd;have:=hx vs p.1;rw[hv]at this;cases this;exact⟨Mo.rR,rv,p⟩,λH w p=>⟨vs,p.1,by omega⟩,λH w H' w' p wl st=>⟨du.go wl st p.1,ah.go wl st p.2 nM⟩⟩
def qf (n:Nat):List V:=(range n).map λi=>.int (Int.ofNat i)
def eE (n:Nat):List D:=(range n).map λi=>.int (Int.ofNat i)
theorem jm(n:Nat):(eE n).length=n:=by simp[eE]
theorem FK(n:Nat):(qf n).length=n:=by simp[qf]
theorem It.range:mH K (xY 0 n) (eE n) λ_ _=>True:=by
 refine⟨λi H w _ hi=>by rw[jm]at hi;exact hi,λi H w x H' d _ _ hd y=>?_,λH w _=>by rw[jm];exact Qf _,λ_ _ _ _ _ _ _=>trivial⟩;have hi:i<n:=by have:=(Qq.mp hd).1;rw[jm]at this;exact this
 have e:x=.int (0+(i:Int)):=y.2;have ed:d=.int (Int.ofNat i):=by
  have:(eE n)[i]? = some (.int (Int.ofNat i)):=by simp[eE,hi]
  rw[hd]at this;exact QJ this
 obtain⟨rfl,_⟩:=y;subst ed;rw[e,Int.zero_add];exact⟨Mo.rR,.int _,trivial⟩
theorem yE{w:Wn}{o:Ow}:∀ (ns:List Int),ah K H w o 0 (ns.map D.int) (ns.map V.int) []
 | []=>.nil
 | n::r=>.cons (F:=[]) (G:=[]) (.int n) (yE r) nM
theorem Pl{w:Wn}{o:Ow}(n:Nat):ah K H w o 0 (eE n) (qf n) []:=by have:=yE (K:=K) (H:=H) (w:=w) (o:=o) ((range n).map Int.ofNat);rw[QU,QU]at this;exact this
section
variable {X:Cx}{tg a b c e:Expr}{fa fb fc f:aJ}{ga gb gc:cI}{pos p:Pos}
@[simp] def dW (g:bP):jZ:=λρ=>match g ρ with
 | some ([.int n],ac)=>if -1000<=n/\n<=1000 then some (eE n.toNat,ac)else none
 | _=>none
theorem i7{g:bP}(hm:X.mg "range" = none)(ha:ft X [a] g)(hg:Gl X "range":=by rfl)(hs:starEach [a] X.env=[(false,eval a X.env)]:=by rfl):t6 X tg (.Call (.Name "range" p) [a] [] pos) (dW g):=⟨have ha:=ha.o;PI.imp (MM hg hm ha hs) λσ H R ao=>by
 obtain⟨ρ,w,t,ds,ad,gd,ee,k⟩:=ao;unfold dW at ee;split at ee;next n ac h1=>
  split at ee;next hn=>
   cases ee;refine⟨ρ,w,t,[.int n],_,gd,h1,λvs H1 w1 g1 aN r1=>?_⟩;have hv:vs=[.int n]:=by
    have l:=r1.length
    match vs,l with
    | [v],_=>
     obtain⟨v',h1,h2⟩:=r1.get (i:=0) rfl;cases h1;rw[dU h2]
   subst hv;refine⟨n,rfl,by omega,by omega,k _ _ H1 w1 g1 aN It.range trivial ?_⟩;rw[jm];exact pW (by omega)
  .cases ee
 .cases ee⟩
def Pm (K:PySem.W.Frag)(tl:TE):TI:=λσ H R=>tl σ H λx H1=>∃ a,x=.ref a/\(((∃ xs,cQ K H1 a xs)/\R (Ab K a) H1)\/((∃ xs,du K H1 a xs)/\R (Ac K a) H1))
theorem Pn{l:Expr}{tl:TE}(hl:PE X l tl):PI X tg l (Pm X.K tl):=by
 intro Uf s σ H R I h;refine bg (hl Uf s σ H _ I h) λv s1 ⟨x,H1,I1,r1,q1⟩=>?_;obtain⟨a,e,q⟩:=q1;subst e;cases r1;rcases q with⟨⟨xs,hq⟩,q⟩|⟨⟨xs,hq⟩,q⟩
 .obtain⟨ar,rv,p,hz⟩:=I1.list hq;refine Yd p.isList ?_;refine⟨s1.heap.objs.size,[s1.heap.objs.size],_,_,H1,rfl,I1.kept (t':=s1.toks) λb o e=>Qd _ e,MG a _,⟨_,Qv _ rfl,rfl,rfl⟩,λb hb=>?_,q⟩;have e:b=s1.heap.objs.size:=by simpa using hb
  subst e;exact I1.ou (Qf _) (I1.aP.fresh (Qf _))
 .obtain⟨ar,rv,p,hz⟩:=I1.tuple hq;refine ZV (show s1.heap.IsTuple a ar.toArray from p) ?_;refine⟨s1.heap.objs.size,[s1.heap.objs.size],_,_,H1,rfl,I1.kept (t':=s1.toks) λb o e=>Qd _ e,MH a _,⟨_,Qv _ rfl,rfl,rfl⟩,λb hb=>?_,q⟩;have e:b=s1.heap.objs.size:=by simpa using hb
  subst e;exact I1.ou (Qf _) (I1.aP.fresh (Qf _))
@[simp] def cL (f:aJ):jZ:=λρ=>match f ρ with
 | some (.lst ds,_,ac)=>if ds.length<=1000 then some (ds,ac)else none
 | some (.tup ds,_,ac)=>if ds.length<=1000 then some (ds,ac)else none
 | _=>none
theorem i8(ha:QD X a fa):t6 X tg a (cL fa):=⟨have ha:=ha.o;PI.imp (Pn ha) λσ H R ao=>by
 obtain⟨ρ,w,t,ds,ad,gd,ee,k⟩:=ao;unfold cL at ee;split at ee;next cJ q ac h1=>
  split at ee;next hl=>
   cases ee;refine⟨ρ,w,t,.lst ds,q,ad,gd,h1,λv H1 w1 F g1 aN r1=>?_⟩;obtain⟨a,vs,e,h,r,_⟩:=(r1.drop (o:=.f) (Qf t)).inv;exact⟨a,e,.inl ⟨⟨_,h.elim (·.sq) λh=>.inl h.1⟩,k _ _ H1 (cH t w1) g1.drop (aN.drop gd.wt) (It.list r.length) ⟨h,r⟩ (pW hl)⟩⟩
  .cases ee
 next cJ q ac h1=>
  split at ee;next hl=>
   cases ee;refine⟨ρ,w,t,.tup ds,q,ad,gd,h1,λv H1 w1 F g1 aN r1=>?_⟩;obtain⟨a,vs,e,h,r⟩:=(r1.drop (o:=.f) (Qf t)).d_;exact⟨a,e,.inr ⟨⟨_,h⟩,k _ _ H1 (cH t w1) g1.drop (aN.drop gd.wt) (It.tup r.length) ⟨h,r⟩ (pW hl)⟩⟩
  .cases ee
 .cases ee⟩
end
abbrev fE:=D->aW->Option aW
def yF (K:PySem.W.Frag)(b:Nat)(pt:fE):TG:=λv σ H Q=>∃ d ρ w t ad,Good K ρ σ H w t/\Rep K H w .f 0 d v []/\pt d ρ=some ad/\∀ aT H' w',aT.length=σ.length->(∀ i,i<b->aT[i]? = σ[i]?)->Good K ad aT H' w' t->Go H w H' w'->Q aT H'
theorem PG.imp{t t':TG}(h:PG X tg t)(i:∀ v σ H Q,t' v σ H Q->t v σ H Q):PG X tg t':=λUf s σ H v u Q I r q=>h Uf s σ H v u Q I r (i v σ H Q q)
abbrev Po (X:Cx)(b:Nat)(tg:Expr)(pt:fE):Prop:=PG X tg (yF X.K b pt)
structure rS (X:Cx) (b:Nat) (e:Expr) (f:fE):Prop where mk::o:Po X b e f
@[simp] def aH (i:Nat):fE:=λd ρ=>if i<ρ.length then some (ρ.set i (some (d,gj d)))else none
theorem Good.rT{ρ:aW}{σ:St}{w:Wn}{d:D}(g:Good K ρ σ H w t)(hi:i<σ.length)(r:Rep K H w .f 0 d v []) :
  Good K (ρ.set i (some (d,gj d))) (σ.set i (some v)) H (iK i w) t/\Go H w H (iK i w):=by
 have st:dk H w H (iK i w):=λa x h n=>⟨sm h,vD n⟩;refine⟨⟨⟨λa o h=>g.wl a o (oP h).1,g.wl.tb⟩,λa j h=>by rw[QA];exact g.ws a j (oP h).1,λa j h=>g.wt a j (oP h).1,by rw[QA,QA];exact g.len,λj d' q' e'=>?_⟩,⟨st,λa o h n=>⟨rfl,tY h (n i)⟩⟩⟩;by_cases hj:i=j
 .subst hj;rw[Qz (by rw[g.len];exact hi)]at e';cases e';exact⟨v,[],Qz hi,(Rep.go g.wl st r nM:Rep K H (iK i w) (.s i) 0 d v []).kB⟩
 .rw[Qy hj]at e';obtain⟨v',F,h1,h2⟩:=g.slot j d' q' e';exact⟨v',F,by rw[Qy hj];exact h1,Rep.go g.wl st h2 λa m=>⟨rfl,tY (h2.aM a m) (λz=>hj (by cases z;rfl))⟩⟩
theorem b7{b:Nat}{x:Str}{pos:Pos}(hb:b<=i)(hN:X.N.Nodup)(hi:X.N[i]? = some x)(hx:Loc X.env.scope x)(hf:X.fn x=true\/X.env.scope.names.lookup x=some .local:=by first|exact .inl rfl|exact .inr rfl):rS X b (.Name x pos) (aH i):=⟨PG.imp (Mv hN hi hx hf) λv σ H Q ao=>by
 obtain⟨d,ρ,w,t,ad,g,r,e,k⟩:=ao;unfold aH at e;split at e;next hl=>
  cases e;obtain⟨a1,a2⟩:=g.rT (by rw[<- g.len];exact hl) r;exact k _ _ _ (by rw[QA]) (λj hj=>Qy (by omega)) a1 a2
 .cases e⟩
def fZ (pt:fE)(body:aI):List D->aW->Option Out
 | [],ρ=>some (.nx ρ)
 | d::ds,ρ=>match pt d ρ with
  | none=>none
  | some ac=>match body ac with
   | some (.nx am)=>fZ pt body ds am
   | some (.ct am)=>fZ pt body ds am
   | some (.bk am)=>some (.nx am)
   | o=>o
@[simp] def fN (it:jZ)(pt:fE)(body:aI):aI:=λρ=>match it ρ with
 | some (ds,ac)=>fZ pt body ds ac
 | none=>none
theorem ah.mJ{w w':Wn}{ds:List D}(r:ah K H w .f 0 ds vs [])(wl:WL K w H)(st:dk H w H' w'):ah K H' w' .f 0 ds vs []:=ah.go wl st r nM
theorem Rep.mJ{w w':Wn}{ds:D}{vs:V}(r:Rep K H w .f 0 ds vs [])(wl:WL K w H)(st:dk H w H' w'):Rep K H' w' .f 0 ds vs []:=Rep.go wl st r nM
theorem ah.qg{w:Wn}:∀ {ds:List D} {vs:List V} (i:Nat),ah K H w .f 0 ds vs []->ah K H w .f 0 (ds.drop i) (vs.drop i) []
 | _,_,0,r=>r
 | ds,vs,i+1,r=>by
  generalize hF:([]:List Addr)=F at r;cases r with
  | nil=>exact .nil
  | cons r s _=>
   have h2:=s.zero;have h1:=r.zero;subst h2;subst h1;exact ah.qg i s
theorem Good.more{ρ:aW}{σ:St}{w:Wn}(g:Good K ρ σ H w t)(hm:Mo K H H'):Good K ρ σ H' w t/\Go H w H' w:=by
 have h:=hm.mo;have st:dk H w H' w:=λa x e n=>⟨sm (h a x e),n⟩;have kp:∀ a o,w a=some o->H' a=H a:=λa o e=>by obtain⟨vs,q⟩:=g.wl a o e;rw[q,h a _ q]
 refine⟨⟨⟨λa o e=>?_,hm.tb g.wl.tb⟩,g.ws,g.wt,g.len,λi d q e=>?_⟩,st,λa o e _=>⟨kp a o e,e⟩⟩
 .obtain⟨vs,q⟩:=g.wl a o e;exact⟨vs,h a _ q⟩
 .obtain⟨v,F,h1,h2⟩:=g.slot i d q e;exact⟨v,F,h1,Rep.go g.wl st h2 λa m=>⟨kp a _ (h2.aM a m),h2.aM a m⟩⟩
theorem iM{iter:Expr}{body:List Stmt}{it:jZ}{pt:fE}{s:aI}{pos:Pos}(hp:PassesOwn (model X.prog X.w) X.A X.env X.xe)(hc:X.calm=true)(hi:t6 X tg iter it)(hg:rS X 0 tg pt)(hb:fY X body s)(hs:∀ x,foldedSetIterable iter X.env x=pure x:=by intro _;rfl):jl X (.For tg iter body [] pos) (fN it pt s):=⟨have hi:=hi.o;have hg:=hg.o;have hb:=hb.o;PS.imp (MO hp hc hi hg hb hs) λD σ H ao=>by
 obtain⟨ρ,w,o,g,ee,k⟩:=ao;unfold fN at ee;split at ee;next ds ac h1=>
  refine⟨ρ,w,0,ds,ac,g,h1,λJ P H1 w1 g1 aN ok p1 hl=>?_⟩;refine⟨λi m aT H'=>m=ds.length-i/\i<=ds.length/\aT.length=σ.length/\∃ ad w',Good X.K ad aT H' w' 0/\P H' w'/\fZ pt s (ds.drop i) ad=some o/\nT X.K D σ.length H' w' o,
   ⟨ds.length,by simp,ZA _,rfl,ac,w1,g1,p1,ee,k.trans aN⟩,?_⟩
  rintro i m aT H' ⟨rfl,rW,gP,ad,w',g',p',e',k'⟩;by_cases dA:i<ds.length
  .refine .inr ⟨ok.go i H' w' p' dA,λlT H2=>ds.length-(i+1)=ds.length-(i+1)/\i+1<=ds.length/\lT.length=σ.length/\∃ am w2,Good X.K am lT H2 w2 0/\P H2 w2/\fZ pt s (ds.drop (i+1)) am=some o/\nT X.K D σ.length H2 w2 o,
    λlT H2 n2=>⟨ds.length-(i+1),by omega,n2⟩,λx H2 hy=>?_⟩
   obtain⟨mo,rx,p2⟩:=ok.q8 i H' w' x H2 ds[i] p' g'.wl (Qi dA) hy;obtain⟨g2,bC⟩:=g'.more mo;have ed:ds.drop i=ds[i]::ds.drop (i+1):=J4 dA;rw[ed]at e';unfold fZ at e';split at e'
   .cases e'
   next fO h3=>
    refine⟨ds[i],ad,w',0,fO,g2,rx,h3,λtR H4 w4 l4 _ g4 ls=>?_⟩;have p4:=ok.st _ _ _ _ p2 g2.wl ls.bO;have nx:∀ {i_:aW},fZ pt s (ds.drop (i+1)) i_=some o->∀ j0 H5 w5,j0.length=tR.length->Good X.K i_ j0 H5 w5 0->Go H4 w4 H5 w5->ds.length-(i+1)=ds.length-(i+1)/\i+1<=ds.length/\j0.length=σ.length/\∃ am w2,Good X.K am j0 H5 w2 0/\P H5 w2/\fZ pt s (ds.drop (i+1)) am=some o/\nT X.K D σ.length H5 w2 o:=λ{i_} e5 j0 H5 w5 l5 g5 iN=>
     ⟨rfl,dA,by rw[l5,l4,gP],i_,w5,g5,ok.st _ _ _ _ p4 g4.wl iN.bO,e5,k'.trans ((bC.trans ls).trans iN)⟩
    cases h6:s fO with
    | none=>rw[h6]at e';cases e'
    | some o6=>
     rw[h6]at e';refine⟨fO,w4,o6,g4,h6,?_⟩;cases o6 with
     | nx i_=>exact nx e'
     | ct i_=>exact nx e'
     | bk i_=>
      cases e';exact λj0 H5 w5 l5 g5 iN=>k' j0 H5 w5 (by rw[l5,l4,gP]) g5 ((bC.trans ls).trans iN)
     | rt d q=>
      cases e';exact λv H5 w5 F Bq iN r5=>k' v H5 w5 F Bq ((bC.trans ls).trans iN) r5
  .have jX:i=ds.length:=Nat.le_antisymm rW (Nat.not_lt.mp dA);subst jX;refine .inl ⟨ok.stop H' w' p',?_⟩;have ed:ds.drop ds.length=[]:=by simp
   rw[ed]at e';cases e';exact k' aT H' w' gP g' Go.refl
 .cases ee⟩
@[simp] def oT (n:Nat)(ds:List D):aW:=ds.map (λd=>some (d,gj d))++replicate (n-ds.length) none
@[simp] def bR (n:Nat)(body:aI):List D->OD:=λds=>match body (oT n ds)with
 | some (.rt d q)=>some (d,q)
 | some (.nx _)=>some (.aF,9)
 | _=>none
theorem Br{w:Wn}{ds:List D}(hw:∀ a o,w a=some o->o=.f)(wl:WL K w H)(r:ah K H w .f 0 ds vs []):Good K (oT N.length ds) (i4 N vs) H w 0:=by
 refine⟨wl,(λa i e=>by cases (hw a _ e)),(λa i e=>by cases (hw a _ e)),?_,λi d q e=>?_⟩
 .unfold oT L2.i4;rw[Qj,Qj,Qg,Qg,Q3,Q3,r.length]
 .unfold oT at e;by_cases hi:i<ds.length
  .rw[QL (by simpa using hi),Qw]at e;cases h:ds[i]? with
   | none=>rw[h]at e;cases e
   | some d'=>
    rw[h]at e;cases e;obtain⟨v,hv,rv⟩:=r.get h;refine⟨v,[],?_,(rv.any wl:Rep K H w (.s i) 0 d v []).kB⟩;unfold L2.i4;rw[QL (by rw[Qg,<- r.length];exact hi),Qw,hv];rfl
  .rw[QX (by simpa using hi),Q8]at e;split at e<;>cases e
theorem Pp{body:aI}{Q:VK}(h:lg K n (bR N.length body) vs H Q E):qe K body { nx:=λ_ H'=>Q .aF H',rt:=Q } (i4 N vs) H:=by
 obtain⟨hn,ds,w,r,q,hw,wl,rs,e,k⟩:=h;unfold bR at e;split at e;next d q' h1=>
  cases e;exact⟨_,w,_,Br hw wl rs,h1,λv H' w' F lh gu r'=>k v H' w' F gu lh r'⟩
 next ad h1=>
  cases e;exact⟨_,w,_,Br hw wl rs,h1,λaT H' w' _ g' gu=>k .aF H' w' [] gu g'.wl .aF⟩
 .cases e
theorem FL{P:Program}{wd:World}{mg:Str->Option Value}{base:Heap}{x qual:Str}{st:Stmt}{f:Addr}{k:Nat}{body:aI}(F:mE K x qual st f fd)(S:aj N ps (aZ st))
  (h:∀ (bA:Value) (A:Around) (outer:List Env) (s:Shared) (H:Hp) (E:XK),bc k (A.deeper (envOfC qual (aZ st) s.heap.objs.size f bA))->vI (ir fX P wd K mg base N qual (aZ st) f bA A outer s H E).fU (i5 st) body) :
  dS P wd K mg base fX (k+1) f fd ps (lg K ps.length (bR N.length body)):=
 F.ok S (λvs H Q E h=>h.1) λbA A outer s H vs Q E hr jg=>⟨_,h bA A outer s H E hr,Pp jg⟩
def jI (k:Nat)(pt:fE)(tt:cI)(te:aJ)(deep:Bool):List D->aW->Option (List D×aW)
 | [],ρ=>some ([],ρ)
 | d::ds,ρ=>match pt d (ρ++replicate k none)with
  | none=>none
  | some ac=>match tt ac with
   | none=>none
   | some (b,am)=>if b=true then(match te am with
     | none=>none
     | some (v,q,fO)=>if deep=true/\v.cO=true/\q≠1 then none else match jI k pt tt te deep ds (fO.take ρ.length)with
      | none=>none
      | some (vs,yG)=>some (v::vs,yG))
    else jI k pt tt te deep ds (am.take ρ.length)
@[simp] def eO (k:Nat)(it:jZ)(pt:fE)(tt:cI)(te:aJ)(deep:Bool):aJ:=λρ=>match it ρ with
 | some (ds,ac)=>match jI k pt tt te deep ds ac with
  | some (vs,am)=>some (.lst vs,if deep=true then 2 else 1,am)
  | none=>none
 | none=>none
@[simp] def dC:cI:=λρ=>some (true,ρ)
theorem Good.ext{ρ:aW}{σ:St}{w:Wn}(g:Good K ρ σ H w t)(k:Nat):Good K (ρ++replicate k none) (σ++replicate k none) H w t:=by
 refine⟨g.wl,λa i e=>by rw[Qj];exact Qo (g.ws a i e) (Jz _ _),g.wt,by rw[Qj,Qj,Q3,Q3,g.len],λi d q e=>?_⟩;by_cases hi:i<ρ.length
 .rw[QL hi]at e;obtain⟨v,F,h1,h2⟩:=g.slot i d q e;exact⟨v,F,by rw[QL (by rw[<- g.len];exact hi)];exact h1,h2⟩
 .rw[QX (by omega),Q8]at e;split at e<;>cases e
def mK (n:Nat)(w:Wn):Wn:=λa=>match w a with
 | some (.s i)=>if n<=i then none else some (.s i)
 | x=>x
theorem Pq{w:Wn}(h:w a=none):mK n w a=none:=by unfold mK;rw[h]
theorem Pr{w:Wn}(h:w a=some (.s i))(hi:i<n):mK n w a=some (.s i):=by unfold mK;rw[h];exact Qt (by omega)
theorem Pt{w:Wn}{o:Ow}(h:w a=some o)(hn:∀ i,o ≠ .s i):mK n w a=some o:=by
 unfold mK;rw[h];cases o with
 | s i=>exact absurd rfl (hn i)
 | t i=>rfl
 | f=>rfl
theorem Bs{w:Wn}{o:Ow}(h:mK n w a=some o):w a=some o/\∀ i,o=.s i->i<n:=by
 unfold mK at h;cases e:w a with
 | none=>rw[e]at h;cases h
 | some o'=>
  rw[e]at h;cases o' with
  | t i=>cases h;exact⟨rfl,λi z=>nomatch z⟩
  | f=>cases h;exact⟨rfl,λi z=>nomatch z⟩
  | s i=>
   dsimp only at h;split at h
   .cases h
   .cases h;exact⟨rfl,λj z=>by cases z;omega⟩
theorem Good.cut{ρ:aW}{σ τ:St}{w:Wn}(g:Good K ρ (σ++τ) H w t):Good K (ρ.take σ.length) σ H (mK σ.length w) t/\Go H w H (mK σ.length w):=by
 have st:dk H w H (mK σ.length w):=λa x h n=>⟨sm h,Pq n⟩;refine⟨⟨⟨λa o e=>g.wl a o (Bs e).1,g.wl.tb⟩,λa i e=>(Bs e).2 i rfl,λa i e=>g.wt a i (Bs e).1,?_,λi d q e=>?_⟩,⟨st,λa o e n=>⟨rfl,Pt e n⟩⟩⟩
 .rw[Q7,g.len,Qj];omega
 .by_cases hi:i<σ.length
  .rw[Je hi]at e;obtain⟨v,F,h1,h2⟩:=g.slot i d q e;rw[QL hi]at h1;exact⟨v,F,h1,Rep.go g.wl st h2 λa m=>⟨rfl,Pr (h2.aM a m) hi⟩⟩
  .rw[JY (by omega)]at e;cases e
theorem Pu{σ aT τ:St}(l:aT.length=(σ++τ).length)(h:∀ i,i<σ.length->aT[i]? = (σ++τ)[i]?):∃ FN,aT=σ++FN/\FN.length=τ.length:=by
 refine⟨aT.drop σ.length,?_,by rw[Z8,l,Qj];omega⟩;have e:aT.take σ.length=σ:=by
  apply Zi;intro i;by_cases hi:i<σ.length
  .rw[Je hi,h i hi,QL hi]
  .rw[JY (by omega),QO (by omega)]
 conv=>lhs;rw[<- YM σ.length aT,e]
def dq (deep:Bool):Nat:=if deep=true then 1 else 0
def jJ (deep:Bool)(t:Nat)(w:Wn):Wn:=λa=>if w a=some (.t (t+1))then(if deep=true then some (.t t)else none)else w a
theorem Pw{ρ:aW}{σ:St}{w:Wn}{q:Nat}{d:D}(g:Good K ρ σ H w (t+2))(r:Rep K H w (.t (t+1)) q d v F)(hq:¬ (deep=true/\d.cO=true/\q≠1)) :
  Good K ρ σ H (jJ deep t w) (t+1)/\(∃ F',Rep K H (jJ deep t w) (.t t) (dq deep) d v F'/\∀ a∈F',w a=some (.t (t+1)))/\dk H w H (jJ deep t w)/\(∀ a o,w a=some o->o ≠ .t (t+1)->jJ deep t w a=some o):=by
 have hN:∀ a,w a=none->jJ deep t w a=none:=λa e=>by unfold jJ;rw[e];rfl
 have hO:∀ a o,w a=some o->o ≠ .t (t+1)->jJ deep t w a=some o:=λa o e n=>by unfold jJ;rw[Qt (by rw[e];exact λz=>n (QJ z))];exact e
 have hI:∀ a o,jJ deep t w a=some o->(w a=some (.t (t+1))/\o=.t t)\/(w a=some o/\o ≠ .t (t+1)):=λa o e=>by
  unfold jJ at e;split at e
  .split at e
   .cases e;exact .inl ⟨by assumption,rfl⟩
   .cases e
  .rename_i n;exact .inr ⟨e,λz=>n (by rw[e,z])⟩
 have st:dk H w H (jJ deep t w):=λa x h n=>⟨sm h,hN a n⟩;refine⟨⟨⟨λa o e=>?_,g.wl.tb⟩,λa i e=>?_,λa i e=>?_,g.len,λi d' q' e'=>?_⟩,?_,st,hO⟩
 .rcases hI a o e with⟨z,_⟩|⟨z,_⟩<;>exact g.wl a _ z
 .rcases hI a _ e with⟨_,z⟩|⟨z,_⟩
  .cases z
  .exact g.ws a i z
 .rcases hI a _ e with⟨_,z⟩|⟨z,n⟩
  .cases z;exact Zg _
  .have:=g.wt a i z;have:i≠t+1:=λz=>n (by rw[z]);omega
 .obtain⟨v',F',h1,h2⟩:=g.slot i d' q' e';exact⟨v',F',h1,Rep.go g.wl st h2 λa m=>⟨rfl,hO a _ (h2.aM a m) (λz=>nomatch z)⟩⟩
 .cases deep with
  | false=>
   refine⟨[],Rep.freeze hN r λa m=>?_,λ_ z=>nomatch z⟩;unfold jJ;rw[Ql (r.aM a m)];rfl
  | true=>
   have hT:∀ a,w a=some (.t (t+1))->jJ true t w a=some (.t t):=λa e=>by unfold jJ;rw[Ql e];rfl
   cases hl:d.cO with
   | false=>
    obtain⟨_,hr⟩:=r.dm hl;exact⟨[],Rep.go g.wl st (hr 1) nM,λ_ z=>nomatch z⟩
   | true=>
    have:q=1:=by
     by_cases h:q=1
     .exact h
     .exact absurd ⟨rfl,hl,h⟩ hq
    subst this;exact⟨F,Rep.go g.wl st r λa m=>⟨rfl,hT a (r.aM a m)⟩,r.aM⟩
theorem Px{ρ:aW}{σ:St}{w1:Wn}{q:Nat}{ds:List D}(g:Good K ρ σ H1 w1 (t+1))(hp:H1 p=none)(r:ah K H1 w1 (.t t) q ds vs F) :
  Good K ρ σ (upd H1 p (.lst vs)) (i6 p (.t t) w1) (t+1)/\Go H1 w1 (upd H1 p (.lst vs)) (i6 p (.t t) w1)/\Rep K (upd H1 p (.lst vs)) (i6 p (.t t) w1) (.t t) (q+1) (.lst ds) (.ref p) (p::F):=by
 have ne:∀ a x,H1 a=some x->a≠p:=λa x e=>iF e hp;have nw:∀ a o,w1 a=some o->a≠p:=λa o e=>by obtain⟨vs,q⟩:=g.wl a o e;exact ne a _ q
 have st:dk H1 w1 (upd H1 p (.lst vs)) (i6 p (.t t) w1):=λa x e n=>⟨sm (by rw[bw (ne a x e)];exact e),by rw[gr (ne a x e)];exact n⟩;refine⟨⟨⟨λa o e=>?_,g.wl.tb.upd rfl (.inl hp)⟩,λa i e=>?_,λa i e=>?_,g.len,λi d q e=>?_⟩,⟨st,λa o e _=>⟨bw (nw a o e),(gr (nw a o e)).trans e⟩⟩,?_⟩
 .by_cases h:a=p
  .subst h;exact⟨.l vs,gM⟩
  .rw[gr h]at e;obtain⟨us,q⟩:=g.wl a o e;exact⟨us,by rw[bw h];exact q⟩
 .by_cases h:a=p
  .subst h;rw[nR]at e;cases e
  .rw[gr h]at e;exact g.ws a i e
 .by_cases h:a=p
  .subst h;rw[nR]at e;cases e;exact Zg _
  .rw[gr h]at e;exact g.wt a i e
 .obtain⟨v,F,h1,h2⟩:=g.slot i d q e;exact⟨v,F,h1,Rep.go g.wl st h2 λa m=>⟨bw (nw a _ (h2.aM a m)),(gr (nw a _ (h2.aM a m))).trans (h2.aM a m)⟩⟩
 .exact .own gM nR (ah.go g.wl st r λa m=>⟨bw (nw a _ (r.aM a m)),(gr (nw a _ (r.aM a m))).trans (r.aM a m)⟩) λm=>absurd rfl (nw p _ (r.aM p m))
theorem FO{k:Nat}{it:jZ}{pt:fE}{tt:cI}{te:aJ}:∀ σ H Q,tD K (eO k it pt tt te deep) σ H Q->yg k (yD K it) (yF K σ.length pt) (rO K tt) (tD K te) σ H Q:=λσ H Q ao=>by
 obtain⟨ρ,w,t,r',q,ad,g,ee,kk⟩:=ao;unfold eO at ee;split at ee;next ds ac h1=>
  split at ee;next all am h2=>
   cases ee;refine⟨ρ,w,t,ds,ac,g,h1,λJ P H1 w1 g1 aN ok p1 hl=>?_⟩;refine⟨λi m ys H'=>m=ds.length-i/\i<=ds.length/\ys.length<=i/\∃ fO w3 zs F bI,Good K fO σ H' w3 (t+1)/\Go H w H' w3/\P H' w3/\ah K H' w3 (.t t) (dq deep) zs ys F /\
     jI k pt tt te deep (ds.drop i) fO=some (bI,ad)/\zs++bI=all,
    ⟨ds.length,by simp,ZA _,Qf _,ac,w1,[],[],all,g1.up,aN,p1,.nil,h2,rfl⟩,?_⟩
   rintro i m ys H' ⟨rfl,rW,hys,fO,w3,zs,F,bI,g0,mJ,p0,FP,e3,ez⟩;have hsz:ys.length<sizeLine:=by omega
   refine⟨ZF hsz,?_⟩;by_cases dA:i<ds.length
   .refine .inr ⟨ok.go i H' w3 p0 dA,hsz,λx H2 hy=>?_⟩;obtain⟨mo,rx,p3⟩:=ok.q8 i H' w3 x H2 ds[i] p0 g0.wl (Qi dA) hy;obtain⟨g3,bC⟩:=g0.more mo;have iO:=mJ.trans bC;have rz:=FP.gone g0.wl bC;have ed:ds.drop i=ds[i]::ds.drop (i+1):=J4 dA;rw[ed]at e3;unfold jI at e3;split at e3
    .cases e3
    next yG h4=>
     split at e3
     .cases e3
     next b i_ h5=>
      have gx:=g3.ext k;have FQ:fO.length=σ.length:=g3.len;refine⟨ds[i],_,w3,t+1,yG,gx,rx,h4,λtR H4 w4 l4 s4 g4 ls=>?_⟩;obtain⟨τ,rfl,Py⟩:=Pu l4 s4;refine⟨⟨τ,rfl,by rw[Py,Q3]⟩,yG,w4,t+1,b,i_,g4,h5,λH5 w5 g5 iN=>?_⟩;have p5:=ok.st _ _ _ _ (ok.st _ _ _ _ p3 g3.wl ls.bO) g4.wl iN.bO;have z5:ah K H5 w5 (.t t) (dq deep) zs ys F:=(rz.gone g3.wl ls).gone g4.wl iN;cases b with
      | false=>
       rw[Qt (by decide)]at e3;dsimp only;rw[Qt (by decide)];obtain⟨gc,rX⟩:=g5.cut;rw[FQ]at e3;refine⟨ds.length-(i+1),by omega,rfl,dA,by omega,_,_,zs,F,bI,gc,(iO.trans ls).trans (iN.trans rX),ok.st _ _ _ _ p5 g5.wl rX.bO,z5.gone g5.wl rX,e3,ez⟩
      | true=>
       rw[Ql rfl]at e3;dsimp only;rw[Ql rfl];split at e3
       .cases e3
       next d6 q6 Pz h6=>
        split at e3
        .cases e3
        next PB=>
         split at e3
         .cases e3
         next PC ap h7=>
          cases e3;refine⟨i_,w5,t+1,d6,q6,Pz,g5,h6,λv H6 w6 F6 g6 Bu r6=>?_⟩;obtain⟨gs,⟨F',rs,PF⟩,Bv,FR⟩:=Pw g6 r6 PB;obtain⟨gc,rX⟩:=gs.cut;rw[FQ]at h7;have FT:=z5.gone g5.wl Bu;have zF:∀ a∈F,w6 a=some (.t t):=FT.aM;have PH:ah K H6 (jJ deep t w6) (.t t) (dq deep) zs ys F:=ah.go g6.wl Bv FT λa m=>⟨rfl,FR a _ (zF a m) (by intro z;cases z)⟩;have PJ:Go H w H6 (jJ deep t w6):=by have go:Go H w H6 w6:=(iO.trans ls).trans (iN.trans Bu);refine⟨go.bO.trans Bv,λa o h n=>⟨(go.keep a o h n).1,FR a o (go.keep a o h n).2 λz=>?_⟩⟩;subst z;have:=g.wt a _ h;omega
          refine⟨ds.length-(i+1),by omega,rfl,dA,by rw[Qj];simp;omega,_,_,zs++[d6],F++F',PC,gc,PJ.trans rX,ok.st _ _ _ _ (ok.st _ _ _ _ p5 g5.wl Bu.bO |> λq=>ok.st _ _ _ _ q g6.wl Bv) gs.wl rX.bO,
           ?_,h7,by rw[QW];exact ez⟩
          refine(ah.snoc rs PH λa m m'=>?_).gone gs.wl rX;have h1:=zF a m;rw[PF a m']at h1;cases h1
   .have jX:i=ds.length:=Nat.le_antisymm rW (Nat.not_lt.mp dA);subst jX;refine .inl ⟨ok.stop H' w3 p0,λp hp=>?_⟩;have ed:ds.drop ds.length=[]:=by simp
    rw[ed]at e3;cases e3;rw[Q5]at ez;subst ez;obtain⟨a1,a2,a3⟩:=Px g0 hp FP;refine kk _ _ _ (p::F) a1 (mJ.trans a2) ?_;cases deep<;>exact a3
  .cases ee
 .cases ee
section
variable {X:Cx}{k:Nat}{N':List Str}{scope:Scope}{elt tg iter:Expr}{ifs:List Expr}{pos:Pos}{it:jZ}{pt:fE}{tt:cI}{te:aJ}
abbrev PK (X:Cx)(ifs:List Expr)(f:cI):Prop:=tP X ifs (rO X.K f)
structure oX (X:Cx) (e:List Expr) (f:cI):Prop where mk::o:PK X e f
theorem kF:oX X [] dC:=⟨λUf s σ H Q I ao=>by obtain⟨ρ,w,t,b,ad,gd,ee,k⟩:=ao;cases ee;exact OA Uf s σ H Q I (k H w gd Go.refl)⟩
theorem yH{c:Expr}{g:cI}(h:g_ X c g):oX X [c] g:=⟨have h:=h.o;OB h⟩
theorem kG(deep:Bool)(hc:X.calm=true)(hi:t6 X tg iter it)(hg:∀ C s H fp,rS (gq X N' scope C s H fp) X.N.length tg pt)(ht:∀ C s H fp,oX (gq X N' scope C s H fp) ifs tt)(he:∀ C s H fp,QD (gq X N' scope C s H fp) elt te)(hs:∀ x,foldedSetIterable iter X.env x=pure x:=by intro _;rfl)(S:cC X k N' scope:=by exact⟨rfl,by decide +kernel,rfl,rfl,rfl⟩):QD X (.ListComp elt [⟨tg,iter,ifs,0⟩] scope pos) (eO k it pt tt te deep):=⟨have hi:=hi.o;have hg:=λC s H fp=>(hg C s H fp).o;have ht:=λC s H fp=>(ht C s H fp).o;have he:=λC s H fp=>(he C s H fp).o;by intro Uf s σ H Q I h;have:=FO σ H Q h;rw[I.len]at this;exact ON (N':=N') hc S hi hg ht he hs Uf s σ H Q I this⟩
theorem yI{i:Nat}{y:Str}{py jh:Pos}(deep:Bool)(hN:X.N.Nodup)(rH:swapsWith (.ListComp elt [⟨tg,iter,ifs,0⟩] scope pos) (some (.Name y py)) jh.line X.env=pure true)(hc:X.calm=true)(hi:t6 X tg iter it)(hg:∀ C s H fp,rS (gq X N' scope C s H fp) X.N.length tg pt)(ht:∀ C s H fp,oX (gq X N' scope C s H fp) ifs tt)(he:∀ C s H fp,QD (gq X N' scope C s H fp) elt te)(hs:∀ x,foldedSetIterable iter X.env x=pure x:=by intro _;rfl)(hf:X.fn y=true\/X.env.scope.names.lookup y=some .local:=by first|exact .inl rfl|exact .inr rfl|assumption)(hy:X.N[i]? = some y:=by rfl)(hx:Loc X.env.scope y:=by first|exact Or.inl rfl|exact Or.inr rfl)(S:cC X k N' scope:=by exact⟨rfl,by decide +kernel,rfl,rfl,rfl⟩):jl X (.Assign [.Name y py] (.ListComp elt [⟨tg,iter,ifs,0⟩] scope pos) jh) (aV i (eO k it pt tt te deep)):=⟨have hi:=hi.o;have hg:=λC s H fp=>(hg C s H fp).o;have ht:=λC s H fp=>(ht C s H fp).o;have he:=λC s H fp=>(he C s H fp).o;by
 intro Uf s σ H D I h;have hl:i<σ.length:=by rw[I.len];exact(Qq.mp hy).1
 refine OO (N':=N') (te:=tD X.K te) (tt:=rO X.K tt) (g:=yF X.K X.N.length pt) (wi:=yD X.K it) hN hy hx rH hc S hi hg ht he hs hf Uf s σ H D I ?_;have z:=FJ (te:=yg k (yD X.K it) (yF X.K σ.length pt) (rO X.K tt) (tD X.K te)) hl (λQ q=>FO σ H Q q) h;rw[I.len]at z;exact z⟩
end
mutual
def cP:D->PyData
 | .aF=>.none
 | .bl b=>.bool b
 | .int i=>.int i
 | .str x=>.str x
 | .tup ds=>.tuple (dg ds)
 | .lst ds=>.list (dg ds)
 | .gN _ _=>.none
 | .exc _=>.none
 | .ob _ _ _ _=>.none
 | .mp _ _=>.none
def dg:List D->List PyData
 | []=>[]
 | d::ds=>cP d::dg ds
end
mutual
def kH:D->Bool
 | .gN _ _=>false
 | .exc _=>false
 | .ob _ _ _ _=>false
 | .mp _ _=>false
 | .tup ds=>rY ds
 | .lst ds=>rY ds
 | _=>true
def rY:List D->Bool
 | []=>true
 | d::ds=>kH d&&rY ds
end
def d5 (d:D):Bool:=kH d&&SeqAt.shaped (cP d)
theorem lX{d:D}(h:d5 d=true):kH d=true:=(Zb.mp h).1
theorem lY{d:D}(h:d5 d=true):SeqAt.shaped (cP d)=true:=(Zb.mp h).2
def nU (d e:D):Bool:=PyData.eqv (cP d) (cP e)
section
variable {X:Cx}{Uf:List (Addr×Obj)}{σ:St}{H:Hp}{s:Shared}
theorem Rep.reads(I:Inv X Uf σ H s){w:Wn}{o:Ow}:∀ {q:Nat} {d:D} {v:V} {F:List Addr} {u:Value},Rep X.K H w o q d v F->bT v u->kH d=true->∃ as,Reads s.heap u (cP d) as:=by
 intro q d v F u r;refine(Rep.rec (motive_1:=λq d v F _=>∀ u,bT v u->kH d=true->∃ as,Reads s.heap u (cP d) as) (motive_2:=λq ds vs F _=>∀ us,bo vs us->rY ds=true->∃ as,ReadsAll s.heap us (dg ds) as) ?_ ?_ ?_ ?_ ?_ ?_ ?_ ?_ ?_ ?_ ?_ ?_ ?_ ?_ ?_ r:∀ u,bT v u->kH d=true->∃ as,Reads s.heap u (cP d) as) u
 .intro q u ru hn;cases ru;exact⟨_,by unfold cP;exact .none⟩
 .intro q b u ru hn;cases ru;exact⟨_,by unfold cP;exact .bool b⟩
 .intro q i u ru hn;obtain⟨t,rfl⟩:=ru;exact⟨_,by unfold cP;exact .int i t⟩
 .intro q x u ru hn;obtain⟨t,rfl⟩:=ru;exact⟨_,by unfold cP;exact .str x t⟩
 .intro q a vs ds h r ih u ru hn;cases ru;obtain⟨ar,rv,p,hz⟩:=I.tuple (du.of h);obtain⟨as,ra⟩:=ih ar rv (by unfold kH at hn;exact hn);obtain⟨ob,ho,hc,n,hd⟩:=p;exact⟨_,by unfold cP;exact .tuple ho hc hd ra⟩
 .intro q a ks vs ds h e r ih u ru hn;cases hn
 .intro q a nm ob v h x n u ru hn;cases hn
 .intro q f c fo oc u1 u2 vs ds h1 h2 x r ih u ru hn;cases hn
 .intro a vs ds h r ih u ru hn;cases ru;obtain⟨ar,rv,p,hz⟩:=I.list h.sq;obtain⟨as,ra⟩:=ih ar rv (by unfold kH at hn;exact hn);obtain⟨ob,ho,hc,n,hd⟩:=p.isList;exact⟨_,by unfold cP;exact .list ho hc hd ra⟩
 .intro a vs ds h n0 r ih u ru hn;cases ru;obtain⟨ar,rv,p,hz⟩:=I.list (.inl h);obtain⟨as,ra⟩:=ih ar rv (by unfold kH at hn;exact hn);obtain⟨ob,ho,hc,n,hd⟩:=p.isList;exact⟨_,by unfold cP;exact .list ho hc hd ra⟩
 .intro q a vs ds F h e r ne ih u ru hn;cases ru;obtain⟨ar,rv,p,hz⟩:=I.list (cQ.of h);obtain⟨as,ra⟩:=ih ar rv (by unfold kH at hn;exact hn);obtain⟨ob,ho,hc,n,hd⟩:=p.isList;exact⟨_,by unfold cP;exact .list ho hc hd ra⟩
 .intro a vs ds k x h i e l r ih u ru hn;cases hn
 .intro q a vs ds k x h i e l r ih u ru hn;cases hn
 .intro q us ru hn;cases ru;exact⟨_,by unfold dg;exact .nil⟩
 .intro q d v ds vs F G r s' ne rK rL us ru hn;cases ru with
  | cons rv PL=>
   unfold rY at hn;obtain⟨as,ra⟩:=rK _ rv (Zb.mp hn).1;obtain⟨bs,rb⟩:=rL _ PL (Zb.mp hn).2;exact⟨_,by unfold dg;exact .cons ra rb⟩
end
def Is (K:PySem.W.Frag)(H:Hp)(d:D)(v:V):Prop:=∃ w o q F,Rep K H w o q d v F
def FU (K:PySem.W.Frag):R2:=λx y H Q=>∃ d e,Is K H d x/\Is K H e y/\d5 d=true/\d5 e=true/\Q (.bl (nU d e)) H
def FV (K:PySem.W.Frag):R2:=λx y H Q=>∃ d e,Is K H d x/\Is K H e y/\d5 d=true/\d5 e=true/\Q (.bl (!nU d e)) H
def inD (d:D):D->Option Bool
 | .lst ds=>some ((dg ds).any λy=>PyData.eqv y (cP d))
 | .tup ds=>some ((dg ds).any λy=>PyData.eqv y (cP d))
 | _=>none
def FW (K:PySem.W.Frag)(neg:Bool):R2:=λx y H Q=>∃ d e b,Is K H d x/\Is K H e y/\d5 d=true/\d5 e=true/\inD d e=some b/\Q (.bl (if neg then !b else b)) H
section
variable {X:Cx}{a b c e:Expr}{fa fb fc f:aJ}{pos:Pos}
theorem FX(hu:X.A.units+64<cLine):cU X (compareOp .Eq) (FU X.K):=by intro Uf s σ H x y v u Q I rx ry ⟨d,e,⟨w,o,q,F,h1⟩,⟨w',o',q',F',h2⟩,k1,k2,hq⟩;obtain⟨as,ra⟩:=h1.reads I rx (lX k1);obtain⟨bs,rb⟩:=h2.reads I ry (lX k2);exact eq_dataH ra rb (lY k1) (lY k2) hu ⟨.bl _,H,I,rfl,hq⟩
theorem PM(hu:X.A.units+64<cLine):cU X (compareOp .NotEq) (FV X.K):=by intro Uf s σ H x y v u Q I rx ry ⟨d,e,⟨w,o,q,F,h1⟩,⟨w',o',q',F',h2⟩,k1,k2,hq⟩;obtain⟨as,ra⟩:=h1.reads I rx (lX k1);obtain⟨bs,rb⟩:=h2.reads I ry (lX k2);exact ne_dataH ra rb (lY k1) (lY k2) hu ⟨.bl _,H,I,rfl,hq⟩
theorem FY(hu:X.A.units+65<cLine):cU X (compareOp .In) (FW X.K false):=by
 intro Uf s σ H x y v u Q I rx ry ⟨d,e,b,⟨w,o,q,F,h1⟩,⟨w',o',q',F',h2⟩,k1,k2,hb,hq⟩;obtain⟨as,ra⟩:=h1.reads I rx (lX k1);obtain⟨bs,rb⟩:=h2.reads I ry (lX k2);replace k1:=lY k1;replace k2:=lY k2;cases e with
 | lst ds=>
  cases hb;unfold cP at rb k2;exact SeqAt.in_list_reads rb ra (QV k2) (QV k1) (Jr k1 hu) ⟨.bl _,H,I,rfl,hq⟩
 | tup ds=>
  cases hb;unfold cP at rb k2;exact SeqAt.in_tuple_reads rb ra (QV k2) (QV k1) (Jr k1 hu) ⟨.bl _,H,I,rfl,hq⟩
 | _=>cases hb
def dE (x y:D):Option D:=if d5 x=true/\d5 y=true then some (.bl (nU x y))else none
def cD (x y:D):Option D:=if d5 x=true/\d5 y=true then some (.bl (!nU x y))else none
def nV (x y:D):Option D:=if d5 x=true/\d5 y=true then(inD x y).map λb=>.bl b else none
theorem FZ:∀ σ H Q,tD K (e2 dE fa fb) σ H Q->jF (FU K) (tD K fa) (tD K fb) σ H Q:=tZ λx y d h=>by
 unfold dE at h;split at h;next hk=>
  cases h;exact⟨_,rfl,λH w o o' q q' u u' F F' r1 r2 _ Q hq=>⟨x,y,⟨_,_,_,_,r1⟩,⟨_,_,_,_,r2⟩,hk.1,hk.2,hq⟩⟩
 .cases h
theorem PN:∀ σ H Q,tD K (e2 cD fa fb) σ H Q->jF (FV K) (tD K fa) (tD K fb) σ H Q:=tZ λx y d h=>by
 unfold cD at h;split at h;next hk=>
  cases h;exact⟨_,rfl,λH w o o' q q' u u' F F' r1 r2 _ Q hq=>⟨x,y,⟨_,_,_,_,r1⟩,⟨_,_,_,_,r2⟩,hk.1,hk.2,hq⟩⟩
 .cases h
theorem hIn:∀ σ H Q,tD K (e2 nV fa fb) σ H Q->jF (FW K false) (tD K fa) (tD K fb) σ H Q:=tZ λx y d h=>by
 unfold nV at h;split at h;next hk=>
  cases hi:inD x y with
  | none=>rw[hi]at h;cases h
  | some b=>
   rw[hi]at h;cases h;exact⟨_,rfl,λH w o o' q q' u u' F F' r1 r2 _ Q hq=>⟨x,y,b,⟨_,_,_,_,r1⟩,⟨_,_,_,_,r2⟩,hk.1,hk.2,hi,hq⟩⟩
 .cases h
theorem PR{k:Nat}(hr:bc k X.A)(ha:QD X a fa)(hb:QD X b fb):QD X (.Compare a [.Eq] [b] pos) (e2 dE fa fb):=⟨have ha:=ha.o;have hb:=hb.o;FF (FX hr.units) FZ ha hb (q_ _)⟩
theorem qh{k:Nat}(hr:bc k X.A)(ha:QD X a fa)(hb:QD X b fb):g_ X (.Compare a [.Eq] [b] pos) (bf (e2 dE fa fb)):=⟨have ha:=ha.o;have hb:=hb.o;rQ (FX hr.units) FZ ha hb (q_ _)⟩
theorem oY{k:Nat}(hr:bc k X.A)(ha:QD X a fa)(hb:QD X b fb):g_ X (.Compare a [.NotEq] [b] pos) (bf (e2 cD fa fb)):=⟨have ha:=ha.o;have hb:=hb.o;rQ (PM hr.units) PN ha hb (q_ _)⟩
theorem vJ{k:Nat}(r:bc k A):A.units+65<cLine:=by have:=r.un;omega
theorem F5{k:Nat}(hr:bc k X.A)(ha:QD X a fa)(hb:QD X b fb)(hm:behindInMarks .In b=false:=by with_unfolding_all rfl):g_ X (.Compare a [.In] [b] pos) (bf (e2 nV fa fb)):=⟨have ha:=ha.o;have hb:=hb.o;rQ (FY (vJ hr)) hIn ha hb hm⟩
theorem PU{k:Nat}(hr:bc k X.A)(ha:QD X a fa)(hb:QD X b fb)(hm:behindInMarks .In b=false:=by with_unfolding_all rfl):QD X (.Compare a [.In] [b] pos) (e2 nV fa fb):=⟨have ha:=ha.o;have hb:=hb.o;FF (FY (vJ hr)) hIn ha hb hm⟩
end
@[simp] def eB (h:List D->Option D)(g:bP):aJ:=λρ=>match g ρ with
 | some (ds,ac)=>match h ds with
  | some d=>some (d,9,ac)
  | none=>none
 | none=>none
section
variable {X:Cx}{a b c e:Expr}{es:List Expr}{fa fb fc f:aJ}{g:bP}{pos p p1 p2:Pos}
theorem yJ{h:List D->Option D}{r:List V->Hp->VK->Prop}(hh:∀ ds d,h ds=some d->∃ v,jj d=some v/\∀ H w vs,WL K w H->ah K H w .f 0 ds vs []->∀ Q:VK,Q v H->r vs H Q) :
  ∀ σ H Q,tD K (eB h g) σ H Q->x6 r (Bl K g) σ H Q:=λσ H Q ao=>by
 obtain⟨ρ,w,t,r',q,ad,gd,ee,k⟩:=ao;unfold eB at ee;split at ee;next ds ac h1=>
  split at ee;next d hd=>
   cases ee;obtain⟨v,hv,hr⟩:=hh ds _ hd;exact⟨ρ,w,t,ds,_,gd,h1,λvs H1 w1 g1 aN r1=>hr H1 w1 vs g1.wl r1 Q (k v H1 w1 [] g1.up aN (vE hv))⟩
  .cases ee
 .cases ee
theorem one{w:Wn}{o:Ow}{d:D}(r:ah K H w o 0 [d] vs []):∃ v,vs=[v]/\Rep K H w o 0 d v []:=by
 have l:=r.length
 match vs,l with
 | [v],_=>
  obtain⟨v',h1,h2⟩:=r.get (i:=0) rfl;cases h1;exact⟨v,rfl,h2⟩
theorem two{w:Wn}{o:Ow}{d d':D}(r:ah K H w o 0 [d,d'] vs []):∃ v v',vs=[v,v']/\Rep K H w o 0 d v []/\Rep K H w o 0 d' v' []:=by
 have l:=r.length
 match vs,l with
 | [v,v'],_=>
  obtain⟨u,h1,h2⟩:=r.get (i:=0) rfl;obtain⟨u',h3,h4⟩:=r.get (i:=1) rfl;cases h1;cases h3;exact⟨v,v',rfl,h2,h4⟩
def gQ:D->Option Nat
 | .lst ds=>some ds.length
 | .tup ds=>some ds.length
 | _=>none
@[simp] def qk:List D->Option D
 | [d]=>(gQ d).map λn=>.int (Int.ofNat n)
 | _=>none
theorem Rep.len{w:Wn}{o:Ow}{q:Nat}{d:D}(r:Rep K H w o q d v F)(h:gQ d=some n):∃ p ys,v=.ref p/\(cQ K H p ys\/du K H p ys)/\ys.length=n:=by
 cases d with
 | lst ds=>
  cases h;obtain⟨p,vs,q',G,rfl,hq,rs⟩:=r.oR;exact⟨p,vs,rfl,.inl hq,rs.length.symm⟩
 | tup ds=>
  cases h;obtain⟨p,vs,rfl,hq,rs⟩:=r.d_;exact⟨p,vs,rfl,.inr hq,rs.length.symm⟩
 | _=>cases h
theorem Bw(hm:X.mg "len" = none)(ha:ft X [a] g)(hg:Gl X "len":=by rfl)(he:starEach [a] X.env=(false,eval a X.env)::starEach [] X.env:=by rfl)(cB:(backTo pos (starEach [] X.env)).any (·.1)=false:=by rfl):QD X (.Call (.Name "len" p) [a] [] pos) (eB qk g):=⟨have ha:=ha.o;PE.imp (nN Ar hg hm YW ha (by decide) (by decide) he cB) (yJ λds d h=>by
  match ds,h with
  | [d0],h=>
   cases hl:gQ d0 with
   | none=>simp only[qk,hl,Option.map_none]at h;cases h
   | some n=>
    simp only[qk,hl,ZL,Option.some.injEq]at h;subst h;refine⟨_,rfl,λH w vs wl r Q hq=>?_⟩;obtain⟨v,rfl,rv⟩:=one r;obtain⟨p,ys,rfl,hs,hn⟩:=rv.len hl;exact⟨p,ys,rfl,hs,by rw[hn];exact hq⟩)⟩
@[simp] def bE (i:Nat):aJ:=λρ=>match ρ[i]? with
 | some (some (d,_))=>match gQ d with
  | some n=>some (.int (Int.ofNat n),9,ρ)
  | none=>none
 | _=>none
theorem dF{x:Str}(hm:X.mg "len" = none)(h:QE X (.Name x p1) (iH i))(hg:Gl X "len":=by rfl)(he:starEach [.Name x p1] X.env=(false,eval (.Name x p1) X.env)::starEach [] X.env:=by rfl)(cB:(backTo pos (starEach [] X.env)).any (·.1)=false:=by rfl):QD X (.Call (.Name "len" p) [.Name x p1] [] pos) (bE i):=⟨have h:=h.o;PE.imp (nN Ar hg hm YW (jf h k_ he) (by decide) (by decide) he cB) λσ H Q ao=>by
 obtain⟨ρ,w,t,r',q,ad,gd,ee,k⟩:=ao;unfold bE at ee;split at ee;next d q0 e0=>
  split at ee;next n hn=>
   cases ee;obtain⟨v,F,h1,h2⟩:=gd.slot i d q0 e0;obtain⟨p,ys,rfl,hs,hl⟩:=h2.len hn;exact⟨_,h1,p,ys,rfl,hs,by rw[hl];exact k _ H w [] gd.up Go.refl (.int _)⟩
  .cases ee
 .cases ee⟩
@[simp] def yK:List D->Option D
 | [.int i,.int j]=>some (.int (if j > i then j else i))
 | _=>none
theorem F7(hc:X.calm=true)(hm:X.mg "max" = none)(hb:bootBuiltins "max" = some (.builtin "max"))(ha:ft X (a::es) g)(hg:Gl X "max":=by rfl)(he:starEach (a::es) X.env=(false,eval a X.env)::starEach es X.env:=by rfl)(cB:(backTo pos (starEach es X.env)).any (·.1)=false:=by rfl):QD X (.Call (.Name "max" p) (a::es) [] pos) (eB yK g):=⟨have ha:=ha.o;PE.imp (nN (Na hc) hg hm hb ha (by decide) (by decide) he cB) (yJ λds d h=>by
  unfold yK at h;split at h;next i j=>
   cases h;refine⟨_,rfl,λH w vs wl r Q hq=>?_⟩;obtain⟨v,v',rfl,r1,r2⟩:=two r;exact⟨i,j,by rw[dU r1,dU r2],hq⟩
  .cases h)⟩
@[simp] def vK (g:bP):aJ:=λρ=>match g ρ with
 | some ([.lst ds],ac)=>some (.lst ds,1,ac)
 | some ([.tup ds],ac)=>some (.lst ds,1,ac)
 | _=>none
theorem PV(hm:X.mg "list" = none)(hb:bootBuiltins "list" = some (.type "list"))(ha:ft X [a] g)(hg:Gl X "list":=by rfl)(he:starEach [a] X.env=(false,eval a X.env)::starEach [] X.env:=by rfl)(cB:(backTo pos (starEach [] X.env)).any (·.1)=false:=by rfl):QD X (.Call (.Name "list" p) [a] [] pos) (vK g):=⟨have ha:=ha.o;PE.imp (tN E1 hg hm hb ha (by decide) (by decide) he cB) λσ H Q ao=>by
 obtain⟨ρ,w,t,r',q,ad,gd,ee,k⟩:=ao;unfold vK at ee;split at ee;next ds ac h1=>
  cases ee;refine⟨ρ,w,t,_,_,gd,h1,λvs H1 w1 g1 aN r1=>?_⟩;obtain⟨v,rfl,rv⟩:=one r1;obtain⟨p,ys,rfl,hs,rs⟩:=rv.eX;refine⟨p,ys,rfl,.inl hs,λl hl=>?_⟩;obtain⟨a1,a2,a3⟩:=oO g1 hl rs;exact k _ _ _ _ a1 (aN.trans a2) a3
 next ds ac h1=>
  cases ee;refine⟨ρ,w,t,_,_,gd,h1,λvs H1 w1 g1 aN r1=>?_⟩;obtain⟨v,rfl,rv⟩:=one r1;obtain⟨p,ys,rfl,hs,rs⟩:=rv.d_;refine⟨p,ys,rfl,.inr hs,λl hl=>?_⟩;obtain⟨a1,a2,a3⟩:=oO g1 hl rs;exact k _ _ _ _ a1 (aN.trans a2) a3
 .cases ee⟩
@[simp] def fF (g:bP):aJ:=λρ=>match g ρ with
 | some ([.lst ds],ac)=>some (.tup ds,9,ac)
 | some ([.tup ds],ac)=>some (.tup ds,9,ac)
 | _=>none
theorem iP(hm:X.mg "tuple" = none)(hb:bootBuiltins "tuple" = some (.type "tuple"))(ha:ft X [a] g)(hg:Gl X "tuple":=by rfl)(he:starEach [a] X.env=(false,eval a X.env)::starEach [] X.env:=by rfl)(cB:(backTo pos (starEach [] X.env)).any (·.1)=false:=by rfl):QD X (.Call (.Name "tuple" p) [a] [] pos) (fF g):=⟨have ha:=ha.o;PE.imp (tN NT hg hm hb ha (by decide) (by decide) he cB) λσ H Q ao=>by
 obtain⟨ρ,w,t,r',q,ad,gd,ee,k⟩:=ao;unfold fF at ee;split at ee;next ds ac h1=>
  cases ee;refine⟨ρ,w,t,_,_,gd,h1,λvs H1 w1 g1 aN r1=>?_⟩;obtain⟨v,rfl,rv⟩:=one r1;obtain⟨p,ys,rfl,hs,rs⟩:=rv.eX;refine⟨p,ys,rfl,.inl ⟨hs,λl hl=>?_⟩⟩;obtain⟨a1,a2,a3⟩:=tV g1 hl rs;exact k _ _ _ _ a1 (aN.trans a2) a3
 next ds ac h1=>
  cases ee;refine⟨ρ,w,t,_,_,gd,h1,λvs H1 w1 g1 aN r1=>?_⟩;obtain⟨v,rfl,rv⟩:=one r1;have rr:=rv;obtain⟨p,ys,rfl,hs,rs⟩:=rv.d_;refine⟨p,ys,rfl,.inr ⟨hs,?_⟩⟩;exact k _ H1 w1 [] g1.up aN (((rr.dm rfl).2 9).any g1.wl)
 .cases ee⟩
def F8 (ta:TA):TE:=λσ H Q=>ta σ H λvs H1=>∃ j:Int,vs=[.int j] /\ -(2 ^ 62)<=j/\j<2 ^ 62/\∀ p,H1 p=none->Q (.ref p) (upd H1 p (.lR 0 j))
theorem F9{ta:TA}(hg:Gl X "range")(hm:X.mg "range" = none)(ha:PA X [a] ta)(hs:starEach [a] X.env=[(false,eval a X.env)]:=by rfl):PE X (.Call (.Name "range" p) [a] [] pos) (F8 ta):=by
 intro Uf s σ H Q I h;refine Call_ (tL I hg hm boot_range (ZG (bg (ha pos Uf s σ H _ I h) λus s1 ⟨vs,H1,I1,r1,q1⟩=>?_) hs rfl));obtain⟨j,e,q1,q2,q⟩:=q1;subst e;cases r1 with
 | cons r rr=>
  cases rr;obtain⟨t,rfl⟩:=r;refine call_range_1 ?_;exact⟨.ref s1.heap.objs.size,upd H1 s1.heap.objs.size (.lR 0 j),I1.laid (λb u e=>Qd _ e) (Qf _) ⟨_,_,_,Qv _ rfl⟩,rfl,q _ (I1.aP.fresh (Qf _))⟩
end
theorem F_{j:Int}(h1:-(2 ^ 62)<=j)(h2:j<2 ^ 62):Builtin.Range.small 0 j 1=true:=by
 have hs:Builtin.Range.rangeSize 0 j 1=((j.toNat:Nat):Int):=by simp[Builtin.Range.rangeSize]<;>split<;>omega
 simp only[Builtin.Range.small,hs,Builtin.Range.rangeFitsLong];simp;omega
theorem Ga(j:Int):Builtin.Range.rangeSize 0 j 1=((j.toNat:Nat):Int):=by simp[Builtin.Range.rangeSize]<;>split<;>omega
theorem Gb{acc:Array Value}(h:ItemsOf (λi v=>∃ t,v=Value.int (0+(i:Nat)*1) t) acc n):bo (qf n) acc.toList:=by
 have key:∀ (us:List Value) (k:Nat),(∀ j v,us[j]? = some v->∃ t,v=Value.int (((k+j:Nat)):Int) t)->bo ((List.range' k us.length).map λi=>V.int (Int.ofNat i)) us:=by
  intro us;induction us with
  | nil=>intro k _;exact .nil
  | cons u r ih=>
   intro k hk;obtain⟨t,e⟩:=hk 0 u rfl;refine .cons ⟨t,by rw[e];rfl⟩ (ih (k+1) λj v hv=>?_);obtain⟨t',e'⟩:=hk (j+1) v (by simpa using hv);exact⟨t',by rw[e'];congr 2;omega⟩
 have:=key acc.toList 0 λj v hv=>by obtain⟨t,e⟩:=h.2 j v (by simpa using hv);exact⟨t,by rw[e];congr 1;omega⟩
 have hl:acc.toList.length=n:=by simpa using h.1
 rw[hl]at this;unfold qf;rw[List.range_eq_range'];exact this
section
variable {prog:Program}{w:World}{A:Around}{E:Tk}{s:Shared}
open AutoSeq1 (wpAny_loadPart')
theorem PX{Q:List Value->Shared->Prop}{r:Addr}{a:Int}{t v:Tok}(hh:A.handled=none)(hr:IsRange s.heap r a b c t u v)(gz:Builtin.Range.small a b c=true)(hn:Builtin.Range.rangeSize a b c=n)(hlen:n<=2 ^ 24)
  (hQ:∀ h' tk bu,(∀ b o',s.heap.get? b=some o'->h'.get? b=some o')->ItemsOf (λi v=>∃ t,v=.int (a+i*c) t) bu n->Q bu.toList { s with heap:=h',toks:=tk }) :
  wpAny (model prog w) A (collect (.ref r)) Q E s:=by
 unfold collect;refine Qa (wpAny_runValue (ZC F.entry_proto_collect ?_));rw[ZO F.plain_proto_collect _];show wpAny _ A.in1 (newList [] >>= λl=>again (.builtin "list.__iadd__" ⟨[l,.ref r],[]⟩)) _ _ s;refine Qa (Q1 ?_);refine Qe ⟨plainId_quiet F.plain_list_iadd _,ZC F.entry_list_iadd ?_⟩;rw[ZO F.plain_list_iadd _];show wpAny _ A.in1 (Builtin.List.listExtendWith (.ref s.heap.objs.size) (.ref r) (.ref s.heap.objs.size)) _ _ _;have hS:(s.heap.push { cls:=.type "list",data:=.seq ([]:List Value).toArray }).get? s.heap.objs.size=some { cls:=.type "list",data:=.seq #[] 0 }:=Qv _ rfl;have vL:∀ (h':Heap) (tk:Nat) (bu:Array Value) (c':Nat),(∀ b o,b≠s.heap.objs.size->(s.heap.push { cls:=.type "list",data:=.seq ([]:List Value).toArray }).get? b=some o->h'.get? b=some o)->
   h'.get? s.heap.objs.size=some { cls:=.type "list",dict:=none,data:=.seq bu c',slots:=#[] }->ItemsOf (λi v=>∃ t,v=.int (a+i*c) t) bu n->wpAny (model prog w) A (match Value.ref s.heap.objs.size with
   | Value.ref a=>do
    match (<- load a).data with
     | Data.seq xs _=>pure xs.toList
     | _=>unsupported "internal:collect"
   | _=>unsupported "internal:collect") Q E { s with heap:=h',toks:=tk }:=λh' tk bu c' hk oZ dt=>by show wpAny _ A (load s.heap.objs.size >>= _) _ _ _;refine Qa (wpAny_load oZ ?_);refine Qe (hQ h' tk bu (λb o' hb=>?_) dt);exact hk b o' (QH (Qn hb)) (Qd _ hb)
 refine Zs (wpAny_extend_range (A:=A) (R:=λrs s'=>rs=.ok (.ret (.ref s.heap.objs.size))/\∃ h' tk bu c',s'={ s with heap:=h',toks:=tk }/\(∀ b o,b≠s.heap.objs.size->(s.heap.push { cls:=.type "list",data:=.seq ([]:List Value).toArray }).get? b=some o->h'.get? b=some o) /\
   h'.get? s.heap.objs.size=some { cls:=.type "list",dict:=none,data:=.seq bu c',slots:=#[] }/\ItemsOf (λi v=>∃ t,v=.int (a+i*c) t) bu n)
  (s:={ s with heap:=s.heap.push { cls:=.type "list",data:=.seq ([]:List Value).toArray } }) hh (Qd _ hr) gz hn hlen s.heap.objs.size (.ref s.heap.objs.size) 0 hS (λh' tk bu c' hk oZ dt=>⟨rfl,h',tk,bu,c',rfl,hk,oZ,dt⟩)) (λfin s' h=>?_) (λe s' h=>?_)
 .cases fin with
  | done f=>
   obtain⟨e,h',tk,bu,c',rfl,hk,oZ,dt⟩:=h;cases e;exact vL h' tk bu c' hk oZ dt
  | again c'=>exact⟨h.1,Z6 h.2 λr pQ hr=>by obtain⟨rfl,h',tk,bu,c',rfl,hk,oZ,dt⟩:=hr;exact vL h' tk bu c' hk oZ dt⟩
 .exact absurd h.1 (by simp)
end
theorem PY(r:Addr)(a b c:Int)(t u v:Tok)(n:Nat)(gz:Builtin.Range.small a b c=true)(hn:Builtin.Range.rangeSize a b c=n)(hlen:n<=2 ^ 24) :
  Meets (Builtin.«tuple.__new__» ⟨[.type "tuple",.ref r],[]⟩)
   (λA R s=>A.handled=none/\IsRange s.heap r a b c t u v/\∀ (h':Heap) tk bu,(∀ b o',s.heap.get? b=some o'->h'.get? b=some o')->ItemsOf (λi v=>∃ t,v=.int (a+i*c) t) bu n->R (.ok (.ret (.ref h'.objs.size))) { s with heap:=h'.push { cls:=.type "tuple",data:=.seq bu },toks:=tk }):=
 .of_wp λprog w A R s h=>by
  obtain⟨hp,g,d,tk,os⟩:=s;obtain⟨hh,hr,h⟩:=h;have da:=sub_tuple_self;have Gc:=init_tuple_lookup;have hmh:=madeHere_tuple;have hT:Shared.TypeIs ⟨hp,g,d,tk,os⟩ (.ref r) "range":=⟨_,hr,rfl⟩;have Bx:A.in1.handled=none:=hh;wp_walk using AutoSeq1.wpAny_loadPart' hr,JO hT,PX Bx hr gz hn hlen
  intro h' By bu hk dt;show wpAny _ _ (Builtin.Tuple.tupleExact bu.toList.toArray >>= λv=>ret v) _ _ _;unfold Builtin.Tuple.tupleExact;have hsz:bu.size<=sizeLine:=by rw[dt.1];exact hlen
  refine Qa (Q1 ?_ (by show bu.toList.toArray.size<=sizeLine;simpa using hsz));refine Qe ⟨_,rfl,?_⟩;have e:bu.toList.toArray=bu:=by simp
  rw[e];exact h h' By bu hk dt
theorem PZ{prog:Program}{w:World}{E:Tk}{s:Shared}{r:Addr}{a:Int}{t v:Tok}{Q:Tk}(hh:A.handled=none)(hr:IsRange s.heap r a b c t u v)(gz:Builtin.Range.small a b c=true)(hn:Builtin.Range.rangeSize a b c=n)(hlen:n<=2 ^ 24)
  (h:∀ (h':Heap) tk bu,(∀ b o',s.heap.get? b=some o'->h'.get? b=some o')->ItemsOf (λi v=>∃ t,v=.int (a+i*c) t) bu n->Q (.ref h'.objs.size) { s with heap:=h'.push { cls:=.type "tuple",data:=.seq bu },toks:=tk }) :
  wpAny (model prog w) A (call (.type "tuple") [.ref r]) Q E s:=
 callType_new F.called_tuple (by decide) (F.typeCall_tuple_1 _) (F.newCall_tuple_1 _) (λobj=>F.args_object_init_2 obj _) F.entry_tuple_new
  (PY r a b c t u v n gz hn hlen) ⟨hh,hr,λh' tk bu hk dt=>⟨⟨_,Qv _ rfl,rfl⟩,h h' tk bu hk dt⟩⟩
section
variable {X:Cx}
def Bz (mk:List V->HO):List V->Hp->VK->Prop:=λxs H Q=>∃ a j,xs=[.ref a]/\H a=some (.lR 0 j) /\ -1000<=j/\j<=1000/\∀ p,H p=none->Q (.ref p) (upd H p (mk (qf j.toNat)))
theorem P1(hc:X.calm=true):jU X (.type "list") (Bz .lst):=by intro Uf s σ H xs us Q I r h;obtain⟨a,j,rfl,hr,j1,j2,q⟩:=h;obtain⟨u,rfl,rx⟩:=my r;cases rx;obtain⟨t,u,v,ho⟩:=(show dh X.prog X.w H s.heap a (.lR 0 j)from I.aP a _ hr);refine call_list_range (I.ok.hd hc) ho (F_ (by omega) (by omega)) (Ga j) (by omega) λh' tk bu c' hk oZ dt=>?_;refine⟨.ref s.heap.objs.size,_,I.laid (t':=tk) (o:=.lst (qf j.toNat)) hk (Qf _) ⟨by rw[FK];exact QF (by omega:j.toNat<=1000) (by decide),bu.toList,c',Gb dt,by simpa using oZ⟩,rfl,q _ (I.aP.fresh (Qf _))⟩
theorem P2(hc:X.calm=true):jU X (.type "tuple") (Bz .tup):=by
 intro Uf s σ H xs us Q I r h;obtain⟨a,j,rfl,hr,j1,j2,q⟩:=h;obtain⟨u,rfl,rx⟩:=my r;cases rx;obtain⟨t,u,v,ho⟩:=(show dh X.prog X.w H s.heap a (.lR 0 j)from I.aP a _ hr);refine PZ (I.ok.hd hc) ho (F_ (by omega) (by omega)) (Ga j) (by omega) λh' tk bu hk dt=>?_;have I1:Inv X Uf σ H { s with heap:=h',toks:=tk }:=I.kept hk;have I2:Inv X Uf σ (upd H h'.objs.size (.tup (qf j.toNat))) { s with heap:=h'.push { cls:=.type "tuple",data:=.seq bu },toks:=tk }:=
  I1.laid (t':=tk) (λb o e=>Qd _ e) (Qf _) (show dh X.prog X.w _ _ _ (.tup _)from⟨by rw[FK];exact QF (by omega:j.toNat<=1000) (by decide),bu.toList,Gb dt,by simpa using kY.new h' bu⟩)
 exact⟨.ref h'.objs.size,_,I2,rfl,q _ (I1.aP.fresh (Qf _))⟩
variable {a:Expr}{g:bP}{pos p p1 lx:Pos}
@[simp] def qo (g:bP):aJ:=λρ=>match dW g ρ with
 | some (ds,ac)=>some (.lst ds,1,ac)
 | none=>none
@[simp] def Gd (g:bP):aJ:=λρ=>match dW g ρ with
 | some (ds,ac)=>some (.tup ds,9,ac)
 | none=>none
theorem Ge{mk:List V->HO}{q0:Nat}{md:List D->D}(al:∀ {ρ:aW} {σ:St} {H1:Hp} {w1:Wn} {t:Nat} {p:Addr} {vs:List V} {ds:List D},Good K ρ σ H1 w1 t->H1 p=none->ah K H1 w1 .f 0 ds vs []->∃ w' F,Good K ρ σ (upd H1 p (mk vs)) w' (t+1)/\Go H1 w1 (upd H1 p (mk vs)) w'/\Rep K (upd H1 p (mk vs)) w' (.t t) q0 (md ds) (.ref p) F) :
  ∀ σ H Q,tD K (λρ=>match dW g ρ with
   | some (ds,ac)=>some (md ds,q0,ac)
   | none=>none) σ H Q->x6 (Bz mk) (EH (F8 (Bl K g)) EG) σ H Q:=λσ H Q ao=>by
 obtain⟨ρ,w,t,r',q,ad,gd,ee,k⟩:=ao;dsimp only at ee;split at ee;next ds ac h1=>
  cases ee;unfold dW at h1;split at h1;next n am h2=>
   split at h1;next hn=>
    cases h1;refine⟨ρ,w,t,_,_,gd,h2,λvs H1 w1 g1 aN r1=>?_⟩;obtain⟨v,rfl,rv⟩:=one r1;have hv:=dU rv;subst hv;refine⟨n,rfl,by omega,by omega,λp hp=>⟨p,n,rfl,gM,hn.1,hn.2,λl hl=>?_⟩⟩;have ne:∀ a x,H1 a=some x->a≠p:=λa x e=>iF e hp;have st:dk H1 w1 (upd H1 p (.lR 0 n)) w1:=λa x e nn=>⟨sm (by rw[bw (ne a x e)];exact e),nn⟩;have nw:∀ a o,w1 a=some o->a≠p:=λa o e=>by obtain⟨vs,q⟩:=g1.wl a o e;exact ne a _ q
    have g2:Good K ad σ (upd H1 p (.lR 0 n)) w1 t:=⟨⟨λa o e=>by
     obtain⟨us,q⟩:=g1.wl a o e;exact⟨us,by rw[bw (nw a o e)];exact q⟩,g1.wl.tb.upd rfl (.inl hp)⟩,g1.ws,g1.wt,g1.len,λi d q e=>by obtain⟨v,F,h1,h2⟩:=g1.slot i d q e;exact⟨v,F,h1,Rep.go g1.wl st h2 λa m=>⟨bw (nw a _ (h2.aM a m)),h2.aM a m⟩⟩⟩
    have bC:Go H1 w1 (upd H1 p (.lR 0 n)) w1:=⟨st,λa o e _=>⟨bw (nw a o e),e⟩⟩;obtain⟨w',F,a1,a2,a3⟩:=al g2 hl (Pl n.toNat);exact k _ _ _ _ a1 ((aN.trans bC).trans a2) a3
   .cases h1
  .cases h1
 .cases ee
theorem BA(hc:X.calm=true)(hm:X.mg "list" = none)(hb:bootBuiltins "list" = some (.type "list"))(BB:X.mg "range" = none)(ha:ft X [a] g)(hg:Gl X "list":=by rfl)(BC:Gl X "range":=by rfl)(hs:starEach [a] X.env=[(false,eval a X.env)]:=by rfl)(he:starEach [.Call (.Name "range" p1) [a] [] lx] X.env=(false,eval (.Call (.Name "range" p1) [a] [] lx) X.env)::starEach [] X.env:=by rfl)(cB:(backTo pos (starEach [] X.env)).any (·.1)=false:=by rfl):QD X (.Call (.Name "list" p) [.Call (.Name "range" p1) [a] [] lx] [] pos) (qo g):=⟨have ha:=ha.o;PE.imp (tN (P1 hc) hg hm hb (jf (F9 BC BB ha hs) k_ he) (by decide) (by decide) he cB) (Ge λg hp r=>by obtain⟨a1,a2,a3⟩:=oO g hp r;exact⟨_,_,a1,a2,a3⟩)⟩
theorem P4(hc:X.calm=true)(hm:X.mg "tuple" = none)(hb:bootBuiltins "tuple" = some (.type "tuple"))(BB:X.mg "range" = none)(ha:ft X [a] g)(hg:Gl X "tuple":=by rfl)(BC:Gl X "range":=by rfl)(hs:starEach [a] X.env=[(false,eval a X.env)]:=by rfl)(he:starEach [.Call (.Name "range" p1) [a] [] lx] X.env=(false,eval (.Call (.Name "range" p1) [a] [] lx) X.env)::starEach [] X.env:=by rfl)(cB:(backTo pos (starEach [] X.env)).any (·.1)=false:=by rfl):QD X (.Call (.Name "tuple" p) [.Call (.Name "range" p1) [a] [] lx] [] pos) (Gd g):=⟨have ha:=ha.o;PE.imp (tN (P2 hc) hg hm hb (jf (F9 BC BB ha hs) k_ he) (by decide) (by decide) he cB) (Ge λg hp r=>by obtain⟨a1,a2,a3⟩:=tV g hp r;exact⟨_,_,a1,a2,a3⟩)⟩
end
theorem P5{M:Model}{A:Around}{E:Tk}{s:Shared}{β:Type}{n:Nat}(f:Nat->β->Sem (ForInStep β))(I:List Nat->β->Shared->Prop)(Q:β->Shared->Prop)(b:β)
  (turn:∀ x bI b s,I (x::bI) b s->wpAny M A (f x b) (λr s'=>match r with|.yield b'=>I bI b' s' | .done b'=>Q b' s') E s)
  (fin:∀ b s,I [] b s->Q b s) (h:I (List.range' 0 n 1) b s):wpAny M A (forIn [0:n] b f) Q E s:=by
 rw[Std.Legacy.Range.forIn_eq_forIn_range'];refine wpAny_forIn_list f I Q turn fin _ b ?_;have e:(Std.Legacy.Range.size [0:n])=n:=by simp[Std.Legacy.Range.size]
 show I (List.range' 0 (Std.Legacy.Range.size [0:n]) 1) b s;rw[e];exact h
open AutoSeq1 (wpAny_loadPart') in
theorem P6(l:Addr)(items:Array Value)(n:Nat)(dd:Option Addr)(sl:Array (Option Value))(x:Value)(e:Value->Bool)(j:Nat)(hj:j<items.size)(hit:e items[j]=true)(Ao:∀ m (hm:m<items.size),m<j->e items[m]=false) :
  Meets (Builtin.«tuple.index» ⟨[.ref l,x],[]⟩)
   (λA R s=>s.heap.get? l=some { cls:=.type "tuple",dict:=dd,data:=.seq items n,slots:=sl }/\(∀ y,y∈items->SeqAt.EqAt A.in1 s y x (e y))/\R (.ok (.ret (.int j s.toks))) { s with toks:=s.toks+1 }):=
 .of_wp λprog w A R s h=>by
  obtain⟨hp,g,d,tk,os⟩:=s;obtain⟨hl,he,h⟩:=h;wp_walk using wpAny_loadPart' hl,P5 _ (λbI b s'=>b.1=none/\s'=⟨hp,g,d,tk,os⟩/\∃ i k,bI=List.range' i k 1/\i+k=items.size/\i<=j) _
  case turn=>
   rintro y bI b s' ⟨hb,rfl,i,k,hr,t7,P7⟩;cases k with
   | zero=>simp at hr
   | succ k=>
    rw[List.range'_succ]at hr;obtain⟨rfl,rfl⟩:=List.cons.inj hr;have dA:y<items.size:=by omega
    have BD:items[y]? = some items[y]:=by simp[dA]
    rw[BD];refine Qa (he _ (Array.getElem_mem dA) prog w _ _ ?_);by_cases P8:y=j
    .subst P8;rw[hit];wp_walk
     exact⟨_,rfl,h⟩
    .rw[Ao y dA (by omega)];wp_walk
     exact⟨rfl,rfl,y+1,k,rfl,by omega,by omega⟩
  case fin=>
   rintro ⟨b1,b2⟩ s' ⟨hb,rfl,i,k,hr,t7,P7⟩;cases k with
   | zero=>omega
   | succ k=>simp[List.range'_succ]at hr
  case h=>
   exact⟨rfl,rfl,0,items.size,by simp,by omega,by omega⟩
variable {F:List Addr}{H:Hp}{K:PySem.W.Frag}{N ps:List Str}{P:Program}{Q:Tk}{Sq:Hp->List V->Prop}{X:Cx}{base:Heap}{body:aI}{d:D}{ds:List D}{g1 g2:Int->Int->Option D}{h1 h2:Int->Int->V}{i n q t:Nat}{it j p:Addr}{mg:Str->Option Value}{o:Ow}{op kX:CmpOp}{st:Stmt}{u:Value}{vs:List V}{w:Wn}{x:Str}{ρ:aW}{σ:St}
def t8 (d:D)(ds:List D):Option Nat:=(dg ds).findIdx? λy=>PyData.eqv y (cP d)
def P9 (K:PySem.W.Frag):V->List V->Hp->VK->Prop:=λx xs H Q=>∃ ds d y j,xs=[y]/\Is K H (.tup ds) x/\Is K H d y/\d5 (.tup ds)=true/\d5 d=true/\t8 d ds=some j/\Q (.int (Int.ofNat j)) H
section
variable {X:Cx}{a b c e:Expr}{es:List Expr}{fa fb fc f:aJ}{g:bP}{pos p p1 p2 aA apos:Pos}
theorem P_(hu:X.A.units+65<cLine):ya X "tuple.index" (P9 X.K):=by
 intro Uf s σ H x xs v us Q I rx rs ⟨ds,d,y,j,e,⟨w,o,q,F,h1⟩,⟨w',o',q',F',h2⟩,k1,k2,hj,hq⟩;subst e;obtain⟨u,rfl,ru⟩:=my rs;obtain⟨as,ra⟩:=h1.reads I rx (lX k1);obtain⟨bs,rb⟩:=h2.reads I ru (lX k2);replace k1:=lY k1;replace k2:=lY k2;unfold cP at ra k1;have kI:PyData.canLayAll0 (dg ds)=true:=QV k1;have ku:=QV k2;cases ra with
 | @tuple a ob vs n _ _ ho mL hd mM=>
  obtain⟨cls,dd,data,sl⟩:=ob;simp only at mL hd;subst mL hd;have j5:=JZ _ _ _ kI mM;have BE:=ZJ.mp hj;obtain⟨BF,BG,BH⟩:=BE;have hlen:vs.size=(dg ds).length:=by rw[<- j5];simp
  have rZ:∀ m (hm:m<vs.size) (r_:m<(dg ds).length),SeqAt.readOf s.heap vs[m]=(dg ds)[m]:=λm hm r_=>by
   have:(vs.toList.map (SeqAt.readOf s.heap))[m]? = (dg ds)[m]?:=by rw[j5]
   simpa [hm,r_]using this
  refine ZQ Yg ⟨_,ho,rfl⟩ PySem.F.entry_tuple_index (PySem.F.args_tuple_index_2 _ _)
   (P6 a vs n dd sl u (λy=>PyData.eqv (SeqAt.readOf s.heap y) (cP d)) j (by omega) (by rw[rZ j (by omega) BF];simpa using BG) (λm hm BI=>by rw[rZ m hm (by omega)];simpa using BH m BI)) ⟨ho,Yp mM rb kI ku (Jr k2 hu),?_⟩
  exact⟨.int (Int.ofNat j),H,I.tok _,⟨_,rfl⟩,hq⟩
@[simp] def BJ (fo:aJ)(g:bP):aJ:=λρ=>match fo ρ with
 | some (.tup ds,_,ac)=>match g ac with
  | some ([d],am)=>if d5 (.tup ds)=true/\d5 d=true then match t8 d ds with
   | some j=>some (.int (Int.ofNat j),9,am)
   | none=>none
   else none
  | _=>none
 | _=>none
theorem Q_{k:Nat}(hr:bc k X.A)(ho:QD X a fa)(ha:ft X [e] g)(cf:attributeBase a "index" X.env (eval a X.env)=eval a X.env:=by rfl)(dJ:((backTo aA (starEach [e] X.env)).all (λx=>!x.1)&&(backToKw aA (keywordEach [] X.env)).all (λx=>x.1.isSome)
   && decide ([e].length+([]:List Keyword).length+(if([]:List Keyword).isEmpty then 0 else 1)<30))=true:=by rfl) (cj:(apos.endLine==aA.line)=true:=by rfl) (hs:starEach [e] X.env=(false,eval e X.env)::starEach [] X.env:=by rfl) (bN:(backTo aA (starEach [] X.env)).any (·.1)=false:=by rfl):QD X (.Call (.Attribute a "index" apos) [e] [] aA) (BJ fa g):=⟨have ho:=ho.o;have ha:=ha.o;PE.imp (rq PySem.F.plainAttrs_tuple Yg PySem.F.type_tuple_index (P_ (vJ hr)) ho ha cf dJ cj hs bN) λσ H Q ao=>by
 obtain⟨ρ,w,t,r',q,ad,gd,ee,k⟩:=ao;unfold BJ at ee;split at ee;next ds q1 ac h1=>
  split at ee;next d am h2=>
   split at ee;next aP=>
    split at ee;next j hj=>
     cases ee;refine⟨ρ,w,t,_,_,_,gd,h1,λv H1 w1 F1 g1 aN r1=>?_⟩;have r0:=r1.drop (o:=.f) (Qf t);have gg:=g1.drop (t':=t);obtain⟨p0,vs,rfl,hq,rs⟩:=r0.vG;refine⟨?_,ac,cH t w1,t,_,_,gg,h2,λGf H2 w2 g2 bC r2=>?_⟩
     .exact .inr (.inl ⟨rfl,.inr ⟨_,hq⟩⟩)
     .obtain⟨v2,rfl,vM⟩:=one r2;have r3:Rep X.K H2 w2 .f 0 (.tup ds) (.ref p0) []:=r0.mJ gg.wl bC.bO;exact⟨ds,d,v2,j,rfl,⟨_,_,_,_,r3⟩,⟨_,_,_,_,vM⟩,aP.1,aP.2,hj,k _ H2 w2 [] g2.up ((aN.drop gd.wt).trans bC) (.int _)⟩
    .cases ee
   .cases ee
  .cases ee
 .cases ee⟩
theorem Good.mut(g:Good K ρ σ H w t)(e:ρ[i]? = some (some (.lst ds,1))) :
  ∃ l vs,σ[i]? = some (some (.ref l))/\H l=some (.lst vs)/\ah K H w .f 0 ds vs []/\∀ cJ eN,ah K H w .f 0 cJ eN []->
   Good K (ρ.set i (some (.lst cJ,1))) σ (upd H l (.lst eN)) w t/\Go H w (upd H l (.lst eN)) w:=by
 obtain⟨v,F,h1,h2⟩:=g.slot i _ _ e;obtain⟨l,vs,rfl,F',rfl,hl,hw,rs,ne⟩:=h2.inv
 .have hF:=rs.zero;subst hF;refine⟨l,vs,h1,hl,rs.any g.wl,λcJ eN r'=>?_⟩;have nl:∀ a o,w a=some o->o ≠ .s i->a≠l:=λa o e n z=>by subst z;rw[hw]at e;exact n (QJ e).symm
  have nn:∀ a,w a=none->a≠l:=λa e z=>by subst z;rw[hw]at e;cases e
  have st:dk H w (upd H l (.lst eN)) w:=λa x h n=>⟨sm (by rw[bw (nn a n)];exact h),n⟩;refine⟨⟨⟨λa o h=>?_,g.wl.tb.upd rfl (.inr (g.wl l _ hw))⟩,g.ws,g.wt,by rw[QA];exact g.len,λj d' q' e'=>?_⟩,⟨st,λa o h n=>⟨bw (nl a o h (n i)),h⟩⟩⟩
  .by_cases z:a=l
   .subst z;exact⟨.l _,gM⟩
   .obtain⟨us,q⟩:=g.wl a o h;exact⟨us,by rw[bw z];exact q⟩
  .by_cases hj:i=j
   .subst hj;rw[Qz (Qq.mp e).1]at e';cases e';exact⟨_,_,h1,.own gM hw (ah.go g.wl st r' nM) (λz=>nomatch z)⟩
   .rw[Qy hj]at e';obtain⟨v',F',se,jK⟩:=g.slot j d' q' e';exact⟨v',F',se,Rep.go g.wl st jK λa m=>⟨bw (nl a _ (jK.aM a m) (λz=>hj (by cases z;rfl))),jK.aM a m⟩⟩
@[simp] def sf:Option (OD)->Bool
 | some (some (.lst _,_))=>true
 | _=>false
theorem Good.cO(g:Good K ρ σ H w t)(h:sf ρ[i]? = true):∃ l,σ[i]? = some (some (.ref l))/\∃ vs,cQ K H l vs:=by
 unfold sf at h;split at h;next ds q e=>
  obtain⟨v,F,h1,h2⟩:=g.slot i _ _ e;obtain⟨p,vs,_,_,rfl,hq,_⟩:=h2.oR;exact⟨p,h1,vs,hq⟩
 .cases h
@[simp] def jn (i:Nat)(g:bP):aJ:=λρ=>if sf ρ[i]? = true then match g ρ with
 | some ([d],ac)=>match ac[i]? with
  | some (some (.lst ds,1))=>if ds.length<=1000 then some (.aF,9,ac.set i (some (.lst (ds++[d]),1)))else none
  | _=>none
 | _=>none
 else none
theorem lZ(h:QE X (.Name x p1) (iH i))(ha:ft X [e] g)(cf:attributeBase (.Name x p1) "append" X.env (eval (.Name x p1) X.env)=eval (.Name x p1) X.env:=by rfl)(dJ:((backTo aA (starEach [e] X.env)).all (λx=>!x.1)&&(backToKw aA (keywordEach [] X.env)).all (λx=>x.1.isSome)
   && decide ([e].length+([]:List Keyword).length+(if([]:List Keyword).isEmpty then 0 else 1)<30))=true:=by rfl) (cj:(apos.endLine==aA.line)=true:=by rfl) (hs:starEach [e] X.env=(false,eval e X.env)::starEach [] X.env:=by rfl) (bN:(backTo aA (starEach [] X.env)).any (·.1)=false:=by rfl):QD X (.Call (.Attribute (.Name x p1) "append" apos) [e] [] aA) (jn i g):=⟨have h:=h.o;have ha:=ha.o;PE.imp (rq Zp Yh Yi E5 h ha cf dJ cj hs bN) λσ H Q ao=>by
 obtain⟨ρ,w,t,r',q,ad,gd,ee,k⟩:=ao;unfold jn at ee;split at ee;next hl=>
  obtain⟨l,gP,us,hq⟩:=gd.cO hl;split at ee;next d ac h1=>
   split at ee;next ds e1=>
    split at ee;next hlen=>
     cases ee;refine⟨_,gP,.inl ⟨rfl,us,hq⟩,ρ,w,t,_,_,gd,h1,λvs H1 w1 g1 aN r1=>?_⟩;obtain⟨v,rfl,rv⟩:=one r1;obtain⟨l',ws,eY,hH,rs,mk⟩:=g1.mut e1;rw[gP]at eY;cases eY;have r2:ah X.K H1 w1 .f 0 (ds++[d]) (ws++[v]) []:=ah.snoc (F:=[]) (G:=[]) rv rs nM;obtain⟨m1,m2⟩:=mk _ _ r2;refine⟨l,ws,v,rfl,rfl,hH,by rw[<- rs.length];exact pW hlen,?_⟩;exact k .aF _ w1 [] m1.up (aN.trans m2) .aF
    .cases ee
   .cases ee
  .cases ee
 .cases ee⟩
theorem ah.eraseIdx:∀ {ds:List D} {vs:List V} (i:Nat),ah K H w .f 0 ds vs []->ah K H w .f 0 (ds.eraseIdx i) (vs.eraseIdx i) []
 | ds,vs,i,r=>by
  generalize hF:([]:List Addr)=F at r;cases r with
  | nil=>exact .nil
  | @cons _ d v ds vs F G r s _=>
   have h1:F=[]:=r.zero;have h2:G=[]:=s.zero;subst h1 h2;cases i with
   | zero=>exact s
   | succ j=>exact .cons (F:=[]) (G:=[]) r (ah.eraseIdx j s) nM
@[simp] def vN (i:Nat)(g:bP):aJ:=λρ=>if sf ρ[i]? = true then match g ρ with
 | some ([.int n],ac)=>match ac[i]? with
  | some (some (.lst ds,1))=>if -1000<=n/\n<=1000 then match seqIndex? n ds.length with
   | some j=>match ds[j]? with
    | some d=>some (d,gj d,ac.set i (some (.lst (ds.eraseIdx j),1)))
    | none=>none
   | none=>none
   else none
  | _=>none
 | _=>none
 else none
theorem Ra(h:QE X (.Name x p1) (iH i))(ha:ft X [e] g)(cf:attributeBase (.Name x p1) "pop" X.env (eval (.Name x p1) X.env)=eval (.Name x p1) X.env:=by rfl)(dJ:((backTo aA (starEach [e] X.env)).all (λx=>!x.1)&&(backToKw aA (keywordEach [] X.env)).all (λx=>x.1.isSome)
   && decide ([e].length+([]:List Keyword).length+(if([]:List Keyword).isEmpty then 0 else 1)<30))=true:=by rfl) (cj:(apos.endLine==aA.line)=true:=by rfl) (hs:starEach [e] X.env=(false,eval e X.env)::starEach [] X.env:=by rfl) (bN:(backTo aA (starEach [] X.env)).any (·.1)=false:=by rfl):QD X (.Call (.Attribute (.Name x p1) "pop" apos) [e] [] aA) (vN i g):=⟨have h:=h.o;have ha:=ha.o;PE.imp (rq Zp PySem.F.slot_list_pop PySem.F.type_list_pop N0 h ha cf dJ cj hs bN) λσ H Q ao=>by
 obtain⟨ρ,w,t,r',q,ad,gd,ee,k⟩:=ao;unfold vN at ee;split at ee;next hl=>
  obtain⟨l,gP,us,hq⟩:=gd.cO hl;split at ee;next n ac h1=>
   split at ee;next ds e1=>
    split at ee;next hn=>
     split at ee;next j hj=>
      split at ee;next d hd=>
       cases ee;refine⟨_,gP,.inl ⟨rfl,us,hq⟩,ρ,w,t,_,_,gd,h1,λvs H1 w1 g1 aN r1=>?_⟩;obtain⟨v,rfl,rv⟩:=one r1;have hv:=dU rv;subst hv;obtain⟨l',ws,eY,hH,rs,mk⟩:=g1.mut e1;rw[gP]at eY;cases eY;obtain⟨y,hy,ry⟩:=rs.get hd;obtain⟨m1,m2⟩:=mk _ _ (rs.eraseIdx j);refine⟨l,ws,n,j,y,rfl,rfl,hH,by omega,by omega,by rw[<- rs.length];exact hj,hy,?_⟩;have Rb:Rep X.K _ w1 (.t t) 0 r' y []:=Rep.go g1.wl m2.bO ry nM;exact k y _ w1 [] m1.up (aN.trans m2) Rb.kB
      .cases ee
     .cases ee
    .cases ee
   .cases ee
  .cases ee
 .cases ee⟩
end
theorem ah.vO:∀ {ds:List D} {vs:List V} {F:List Addr} {i:Nat} {d:D},ah K H w o q ds vs F->ds[i]? = some d->∃ v G,vs[i]? = some v/\Rep K H w o q d v G/\∀ a∈G,a∈F
 | _,_,_,_,_,.nil,e=>by simp at e
 | _,_,_,0,_,.cons r _ _,e=>by simp at e;subst e;exact⟨_,_,rfl,r,λa m=>Qx _ m⟩
 | _,_,_,i+1,d,.cons _ s _,e=>by obtain⟨v,G,h1,h2,h3⟩:=ah.vO (i:=i) (d:=d) s (by simpa using e);exact⟨v,G,by simpa using h1,h2,λa m=>Qm _ (h3 a m)⟩
theorem ah.Gg{i:Int}(r:ah K H w o q ds vs F)(h:L2.dz ds i=some d):∃ v G,L2.dz vs i=some v/\Rep K H w o q d v G/\∀ a∈G,a∈F:=by
 unfold L2.dz at h ⊢;rw[<- r.length];cases e:g8 ds.length i with
 | none=>rw[e]at h;cases h
 | some j=>
  rw[e]at h;exact r.vO h
@[simp] def aS (n:Nat)(fb:aJ):aJ:=λρ=>match ρ[n]? with
 | some (some _)=>match fb ρ with
  | some (.int i,_,am)=>match am[n]? with
   | some (some (x,q))=>match cS x i with
    | some d=>if d.cO=true/\1<q/\x.cO=true then none else some (d,gj d,am)
    | none=>none
   | _=>none
  | _=>none
 | _=>none
section
variable {X:Cx}{a b c e:Expr}{es:List Expr}{fa fb fc f:aJ}{g:bP}{pos p p1 p2 aA apos:Pos}
theorem bV(h:QE X (.Name x p1) (iH n))(hb:QD X b fb)(hs:tO b:=by exact λ_ _=>rfl):QD X (.Subscript (.Name x p1) b pos) (aS n fb):=⟨have h:=h.o;have hb:=hb.o;PE.imp (vh vi h hb hs) λσ H Q ao=>by
 obtain⟨ρ,w,t,r',q,ad,gd,ee,k⟩:=ao;unfold aS at ee;split at ee;next z0 e0=>
  obtain⟨d0,q0⟩:=z0;obtain⟨v,F,gP,_⟩:=gd.slot n d0 q0 e0;split at ee;next i q2 am h2=>
   split at ee;next x q e2=>
    split at ee;next d hd=>
     split at ee
     .cases ee
     next hn=>
      cases ee;refine⟨v,gP,ρ,w,t,_,_,_,gd,h2,λy H2 w2 F2 g2 go r2=>?_⟩;have hy:=dU r2;subst hy;have gg:=g2.drop (t':=t);obtain⟨v',F',eY,rr⟩:=gg.slot n x q e2;rw[gP]at eY;cases eY;have fin:∀ u,Rep X.K H2 (cH t w2) (.t t) 0 r' u []->Q u H2:=λu ru=>k u H2 (cH t w2) [] gg.up (go.drop gd.wt) ru.kB;cases x with
      | lst ds=>
       by_cases Rc:q=0
       .subst Rc;obtain⟨p0,vs,rfl,hq,rs⟩:=rr.eX;obtain⟨u,hu,ru⟩:=rs.dz hd;exact .inl ⟨p0,vs,i,u,rfl,rfl,hq,hu,fin u (ru.any gg.wl)⟩
       .by_cases BK:q=1
        .subst BK;obtain⟨_,_,rfl,_,rfl,h0,_,rs,_⟩:=rr.inv
         .have z0:=rs.zero;subst z0;obtain⟨u,hu,ru⟩:=rs.dz hd;exact .inl ⟨_,_,i,u,rfl,rfl,cQ.of h0,hu,fin u (ru.any gg.wl)⟩
        .obtain⟨p0,vs,q',G,rfl,hq,rs⟩:=rr.oR;obtain⟨u,G',hu,ru,_⟩:=rs.Gg hd;refine .inl ⟨p0,vs,i,u,rfl,rfl,hq,hu,fin u ?_⟩;cases hL:r'.cO with
         | false=>exact((ru.dm hL).2 0).any gg.wl
         | true=>exact absurd ⟨hL,by omega,rfl⟩ hn
      | tup ds=>
       obtain⟨p0,vs,rfl,hq,rs⟩:=rr.d_;obtain⟨u,hu,ru⟩:=rs.dz hd;exact .inr (.inl ⟨p0,vs,i,u,rfl,rfl,hq,hu,fin u (ru.any gg.wl)⟩)
      | _=>cases hd
    .cases ee
   .cases ee
  .cases ee
 .cases ee⟩
@[simp] def l7 (fa fb:aJ):aJ:=λρ=>match fa ρ with
 | some (.lst ds,1,ac)=>match fb ac with
  | some (.int n,_,am)=>if -1000<=n/\n<=1000/\ds.length*n.toNat<=1000 then some (.lst (replicate n.toNat ds).flatten,1,am)else none
  | _=>none
 | _=>none
theorem ah.app{es:List D}{us:List V}(s:ah K H w .f 0 es us []):∀ {ds:List D} {vs:List V},ah K H w .f 0 ds vs []->ah K H w .f 0 (ds++es) (vs++us) []
 | ds,vs,r=>by
  generalize hF:([]:List Addr)=F at r;cases r with
  | nil=>rw[<- hF];exact s
  | @cons _ d v ds vs F G r t _=>
   have h1:F=[]:=r.zero;have h2:G=[]:=t.zero;subst h1 h2;exact .cons (F:=[]) (G:=[]) r (ah.app s t) nM
theorem ah.times(r:ah K H w .f 0 ds vs []):∀ n:Nat,ah K H w .f 0 (replicate n ds).flatten (replicate n vs).flatten []
 | 0=>.nil
 | n+1=>by rw[Zv,Zv,ZM,ZM];exact ah.app (ah.times r n) r
theorem yL(ha:QD X a fa)(hb:QD X b fb):QD X (.BinOp a .Mult b pos) (l7 fa fb):=⟨have ha:=ha.o;have hb:=hb.o;PE.imp (oz N2 ha hb) λσ H Q ao=>by
 obtain⟨ρ,w,t,r',q,ad,gd,ee,k⟩:=ao;unfold l7 at ee;split at ee;next ds ac h1=>
  split at ee;next n q2 am h2=>
   split at ee;next hn=>
    cases ee;refine p9 gd h1 h2 λu u' H2 w2 F1 F2 g2 go r1 r2=>?_;have Bk:=dU r2;subst Bk;obtain⟨l,vs,rfl,F,rfl,hl,hw,rs,ne⟩:=r1.inv
    .have hF:=rs.zero;subst hF;have gg:=g2.drop (t':=t);have t_:ah X.K H2 (cH t w2) .f 0 ds vs []:=ah.go g2.wl (λa x h n=>⟨sm h,yv n⟩) rs nM;refine⟨l,n,vs,rfl,rfl,hl,by omega,by omega,?_,λp hp=>?_⟩
     .rw[<- rs.length];exact qc hn.2.2
     .obtain⟨a1,a2,a3⟩:=oO gg hp (t_.times n.toNat);exact k _ _ _ _ a1 ((go.drop gd.wt).trans a2) a3
   .cases ee
  .cases ee
 .cases ee⟩
end
theorem ah.row(wl:WL K w H):∀ {rows:List D} {vs:List V} {F:List Addr} {i:Nat} {row:List D},ah K H w o 1 rows vs F->rows[i]? = some (.lst row)->
  ∃ b ws,vs[i]? = some (.ref b)/\H b=some (.lst ws)/\w b=some o/\b∈F/\ah K H w .f 0 row ws [] /\
   ∀ hJ kJ,ah K H w .f 0 hJ kJ []->ah K (upd H b (.lst kJ)) w o 1 (rows.set i (.lst hJ)) vs F
 | _,_,_,_,_,.nil,e=>by simp at e
 | _,_,_,0,row,.cons r s ne,e=>by
  simp at e;subst e;cases r with
  | @own _ b ws _ F' hb hw rs nb=>
   have hF:=rs.zero;subst hF;refine⟨b,ws,rfl,hb,hw,by simp,rs.any wl,λhJ kJ r'=>?_⟩;have nn:∀ a,w a=none->a≠b:=λa e z=>by subst z;rw[hw]at e;cases e
   have st:dk H w (upd H b (.lst kJ)) w:=λa x h n=>⟨sm (by rw[bw (nn a n)];exact h),n⟩;refine .cons (.own gM hw (ah.go wl st r' nM) (λz=>nomatch z)) (ah.go wl st s λa m=>⟨bw λz=>?_,s.aM a m⟩) ne;subst z;exact ne a (by simp) m
 | _,_,_,i+1,row,.cons (d:=d) (v:=v) (F:=F) (G:=G) r s ne,e=>by
  obtain⟨b,ws,h1,h2,h3,h4,h5,mk⟩:=ah.row wl (i:=i) (row:=row) s (by simpa using e);refine⟨b,ws,by simpa using h1,h2,h3,Qm _ h4,h5,λhJ kJ r'=>?_⟩;have nn:∀ a,w a=none->a≠b:=λa e z=>by subst z;rw[h3]at e;cases e
  have st:dk H w (upd H b (.lst kJ)) w:=λa x h n=>⟨sm (by rw[bw (nn a n)];exact h),n⟩;refine .cons (Rep.go wl st r λa m=>⟨bw λz=>?_,r.aM a m⟩) (mk hJ kJ r') ne;subst z;exact ne a m h4
theorem Good.BL{m:Nat}{rows row:List D}(g:Good K ρ σ H w t)(e:ρ[i]? = some (some (.lst rows,2)))(em:rows[m]? = some (.lst row)) :
  ∃ l vs b ws,σ[i]? = some (some (.ref l))/\cQ K H l vs/\vs.length=rows.length/\vs[m]? = some (.ref b)/\H b=some (.lst ws)/\ah K H w .f 0 row ws []/\∀ hJ kJ,ah K H w .f 0 hJ kJ []->
   Good K (ρ.set i (some (.lst (rows.set m (.lst hJ)),2))) σ (upd H b (.lst kJ)) w t/\Go H w (upd H b (.lst kJ)) w:=by
 obtain⟨v,F,h1,h2⟩:=g.slot i _ _ e;obtain⟨l,vs,rfl,F',rfl,hl,hw,rs,nl⟩:=h2.inv
 .obtain⟨b,ws,b1,b2,b3,b4,b5,mk⟩:=ah.row g.wl rs em;have Rf:l≠b:=λz=>by subst z;exact nl b4
  refine⟨l,vs,b,ws,h1,cQ.of hl,rs.length.symm,b1,b2,b5,λhJ kJ r'=>?_⟩;have Gh:∀ a o,w a=some o->o ≠ .s i->a≠b:=λa o e n z=>by subst z;rw[b3]at e;exact n (QJ e).symm
  have nn:∀ a,w a=none->a≠b:=λa e z=>by subst z;rw[b3]at e;cases e
  have st:dk H w (upd H b (.lst kJ)) w:=λa x h n=>⟨sm (by rw[bw (nn a n)];exact h),n⟩;refine⟨⟨⟨λa o h=>?_,g.wl.tb.upd rfl (.inr (g.wl b _ b3))⟩,g.ws,g.wt,by rw[QA];exact g.len,λj d' q' e'=>?_⟩,⟨st,λa o h n=>⟨bw (Gh a o h (n i)),h⟩⟩⟩
  .by_cases z:a=b
   .subst z;exact⟨.l _,gM⟩
   .obtain⟨us,q⟩:=g.wl a o h;exact⟨us,by rw[bw z];exact q⟩
  .by_cases hj:i=j
   .subst hj;rw[Qz (Qq.mp e).1]at e';cases e';exact⟨_,_,h1,.own (by rw[bw Rf];exact hl) hw (mk hJ kJ r') nl⟩
   .rw[Qy hj]at e';obtain⟨v',F',se,jK⟩:=g.slot j d' q' e';exact⟨v',F',se,Rep.go g.wl st jK λa m=>⟨bw (Gh a _ (jK.aM a m) (λz=>hj (by cases z;rfl))),jK.aM a m⟩⟩
theorem ah.sg{v:V}(rv:Rep K H w .f 0 d v []):∀ {ds:List D} {vs:List V} (i:Nat),ah K H w .f 0 ds vs []->ah K H w .f 0 (ds.set i d) (vs.set i v) []
 | ds,vs,i,r=>by
  generalize hF:([]:List Addr)=F at r;cases r with
  | nil=>rw[<- hF];exact .nil
  | @cons _ d' v' ds vs F G r s _=>
   have h1:F=[]:=r.zero;have h2:G=[]:=s.zero;subst h1 h2;cases i with
   | zero=>exact .cons (F:=[]) (G:=[]) rv s nM
   | succ j=>exact .cons (F:=[]) (G:=[]) r (ah.sg rv j s) nM
abbrev ly:=aW->Option Int
def tQ (K:PySem.W.Frag)(f:ly):TE:=λσ H Q=>∃ ρ w t i,Good K ρ σ H w t/\f ρ=some i/\Q (.int i) H
abbrev PQ (X:Cx)(e:Expr)(f:ly):Prop:=PE X e (tQ X.K f)
structure QQ (X:Cx) (e:Expr) (f:ly):Prop where mk::o:PQ X e f
@[simp] def o4 (n:Nat):ly:=λρ=>match ρ[n]? with
 | some (some (.int i,_))=>some i
 | _=>none
@[simp] def si (n:Nat)(f:ly):ly:=λρ=>match f ρ with
 | some i=>match ρ[n]? with
  | some (some (x,_))=>match cS x i with
   | some (.int j)=>some j
   | _=>none
  | _=>none
 | none=>none
section
variable {X:Cx}{a b c e:Expr}{es:List Expr}{fa fb fc f:aJ}{qa qb:ly}{g:bP}{pos p p1 p2 aA apos:Pos}
theorem yM(h:QE X (.Name x p1) (iH n)):QQ X (.Name x p1) (o4 n):=⟨have h:=h.o;PE.imp h λσ H Q ao=>by
 obtain⟨ρ,w,t,i,gd,ee,k⟩:=ao;unfold o4 at ee;split at ee;next j q e0=>
  cases ee;obtain⟨v,F,h1,h2⟩:=gd.slot n _ _ e0;rw[dU h2]at h1;exact⟨_,h1,k⟩
 .cases ee⟩
theorem Gi(h:QE X (.Name x p1) (iH n))(hb:QQ X b qb)(hs:tO b:=by exact λ_ _=>rfl):QQ X (.Subscript (.Name x p1) b pos) (si n qb):=⟨have h:=h.o;have hb:=hb.o;PE.imp (vh vi h hb hs) λσ H Q ao=>by
 obtain⟨ρ,w,t,i,gd,ee,k⟩:=ao;unfold si at ee;split at ee;next i0 h0=>
  split at ee;next x q e0=>
   split at ee;next j hj=>
    cases ee;obtain⟨v,F,h1,h2⟩:=gd.slot n _ _ e0;refine⟨v,h1,ρ,w,t,i0,gd,h0,?_⟩;cases x with
    | lst ds=>
     obtain⟨p0,vs,q',G,rfl,hq,rs⟩:=h2.oR;obtain⟨u,G',hu,ru,_⟩:=rs.Gg hj;rw[dU ru]at hu;exact .inl ⟨p0,vs,i0,_,rfl,rfl,hq,hu,k⟩
    | tup ds=>
     obtain⟨p0,vs,rfl,hq,rs⟩:=h2.d_;obtain⟨u,hu,ru⟩:=rs.dz hj;rw[dU ru]at hu;exact .inr (.inl ⟨p0,vs,i0,_,rfl,rfl,hq,hu,k⟩)
    | _=>cases hj
   .cases ee
  .cases ee
 .cases ee⟩
@[simp] def vP (n:Nat)(qi qj:ly)(fe:aJ):aI:=λρ=>match fe ρ with
 | some (d,_,ac)=>match qi ac,qj ac,ac[n]? with
  | some i,some j,some (some (.lst rows,2))=>match g8 rows.length i with
   | some m=>match rows[m]? with
    | some (.lst row)=>match g8 row.length j with
     | some k=>some (.nx (ac.set n (some (.lst (rows.set m (.lst (row.set k d))),2))))
     | none=>none
    | _=>none
   | none=>none
  | _,_,_=>none
 | none=>none
theorem Rg(h:QE X (.Name x p1) (iH n))(ha:QQ X a qa)(hb:QQ X b qb)(he:QD X e f)(hi:tO a:=by exact λ_ _=>rfl)(sk:∀ v,assign (.Subscript (.Subscript (.Name x p1) a p2) b p) X.env v=(do
   let ov <- holding [v] (eval (.Subscript (.Name x p1) a p2) X.env)
   let iv <- holding [v,ov] (eval b X.env)
   standAt p
   holding [v,ov,iv] (setItem ov iv v)
   release [v,ov,iv] []):=by exact λ_=>rfl) (hs:swapsWithSole [.Subscript (.Subscript (.Name x p1) a p2) b p] e pos.line X.env=pure false:=by rfl):jl X (.Assign [.Subscript (.Subscript (.Name x p1) a p2) b p] e pos) (vP n qa qb f):=⟨have h:=h.o;have ha:=ha.o;have hb:=hb.o;have he:=he.o;by
 refine PS.imp (zZ he (Eu (vh vi h ha hi) hb EZ sk) hs) λD σ H ⟨ρ,w,o,gd,ee,k⟩=>?_;unfold vP at ee;split at ee;next d q0 ac h1=>
  split at ee;next i j rows hi hj er=>
   split at ee;next m hm=>
    split at ee;next row BM=>
     split at ee;next kk hk=>
      cases ee;refine⟨ρ,w,0,d,q0,ac,gd,h1,λv H1 w1 F1 g1 aN r1=>?_⟩;have rv:=r1.drop (o:=.f) (Qf 0);have gg:=g1.drop (t':=0);obtain⟨l,vs,b0,ws,m1,m2,m3,m4,m5,m6,mk⟩:=gg.BL er BM;refine⟨_,m1,ac,cH 0 w1,0,i,gg,hi,.inl ⟨l,vs,i,.ref b0,rfl,rfl,m2,?_,ac,cH 0 w1,0,j,gg,hj,b0,ws,j,kk,rfl,rfl,m5,?_,?_⟩⟩
      .unfold dz;rw[m3,hm];exact m4
      .rw[<- m6.length];exact hk
      .obtain⟨n1,n2⟩:=mk _ _ (m6.sg rv kk);exact k _ _ _ rfl n1 ((aN.drop gd.wt).trans n2)
     .cases ee
    .cases ee
   .cases ee
  .cases ee
 .cases ee⟩
end
@[simp] def yN (fa fb:aJ):aJ:=λρ=>match fa ρ with
 | some (.bl b,_,ac)=>if b=true then fb ac else some (.bl false,9,ac)
 | _=>none
@[simp] def BN (fa:aJ):aJ:=λρ=>match fa ρ with
 | some (.bl b,_,ac)=>some (.bl (!b),9,ac)
 | _=>none
section
variable {X:Cx}{a b c e:Expr}{es bI:List Expr}{fa fb fc f:aJ}{g:bP}{pos p p1 p2 aA apos:Pos}
theorem Gj{op}(h:QD X a fa):QD X (.BoolOp op [a] pos) fa:=⟨have h:=h.o;Mg h⟩
theorem Gk(ha:QD X a fa)(hb:QD X (.BoolOp .And (b::bI) pos) fb):QD X (.BoolOp .And (a::b::bI) pos) (yN fa fb):=⟨have ha:=ha.o;have hb:=hb.o;PE.imp (Mh ha hb) λσ H Q ao=>by
 obtain⟨ρ,w,t,r',q,ad,gd,ee,k⟩:=ao;unfold yN at ee;split at ee;next b' q1 ac h1=>
  refine⟨ρ,w,t,_,_,_,gd,h1,λv H1 w1 F1 g1 aN r1=>?_⟩;obtain⟨rfl,rfl⟩:=r1.inv;refine⟨b',rfl,?_⟩;split at ee
  .rename_i hb;rw[Ql hb]
   exact⟨ac,cH t w1,t,r',q,ad,g1.drop,ee,λv H2 w2 F g2 bC=>k v H2 w2 F g2 ((aN.drop gd.wt).trans bC)⟩
  .rename_i hb;rw[Qt hb]
   cases ee;exact k _ H1 w1 [] g1 aN (.bl false)
 .cases ee⟩
theorem Rh(ha:QD X a fa):QD X (.UnaryOp .Not a pos) (BN fa):=⟨have ha:=ha.o;PE.imp (Mi ha) λσ H Q ao=>by
 obtain⟨ρ,w,t,r',q,ad,gd,ee,k⟩:=ao;unfold BN at ee;split at ee;next b' q1 ac h1=>
  cases ee;refine⟨ρ,w,t,_,_,_,gd,h1,λv H1 w1 F1 g1 aN r1=>?_⟩;exact⟨b',r1.inv.1,k _ H1 w1 [] g1 aN (.bl _)⟩
 .cases ee⟩
end
section
variable {es bI:List Expr}{a b c e:Expr}{pos:Pos}{env:Env}
theorem dX{op}:starEach (.BinOp a op b pos::bI) env=(false,eval (.BinOp a op b pos) env)::starEach bI env:=by simp only[starEach]
theorem yO:starEach (.IfExp a b c pos::bI) env=(false,eval (.IfExp a b c pos) env)::starEach bI env:=by simp only[starEach]
theorem sr{g sc}:starEach (.ListComp a g sc pos::bI) env=(false,eval (.ListComp a g sc pos) env)::starEach bI env:=by simp only[starEach]
theorem bQ{k}:starEach (.Call a es k pos::bI) env=(false,eval (.Call a es k pos) env)::starEach bI env:=by simp only[starEach]
theorem kK{v k}:starEach (.Constant v k pos::bI) env=(false,eval (.Constant v k pos) env)::starEach bI env:=by simp only[starEach]
theorem ja:starEach (.Subscript a b pos::bI) env=(false,eval (.Subscript a b pos) env)::starEach bI env:=by simp only[starEach]
theorem eZ{x}:starEach (.Name x pos::bI) env=(false,eval (.Name x pos) env)::starEach bI env:=by simp only[starEach]
theorem ua:starEach (.List es pos::bI) env=(false,eval (.List es pos) env)::starEach bI env:=by simp only[starEach]
theorem j_{k}:starEach (.Tuple es k pos::bI) env=(false,eval (.Tuple es k pos) env)::starEach bI env:=by simp only[starEach]
end
def At (K:PySem.W.Frag)(mg:Str->Option Value)(x:Str)(st:Stmt)(ps:List Str):Prop:=
 ∃ f fd,mE K x x st f fd/\mg x=some (.ref f)/\nJ K fd ps []
def aw (P:Program)(w:World)(K:PySem.W.Frag)(mg:Str->Option Value)(base:Heap)(k:Nat)(x:Str)(n:Nat)(F:List D->OD):Prop:=
 ∃ f fd ps,dS P w K mg base fX k f fd ps (lg K n F)/\mg x=some (.ref f)/\W.keepIn K (.ref f)=true/\nJ K fd ps []
theorem aw.mk{w:World}{k:Nat}(a:At K mg x st ps)(S:aj N ps (aZ st))
  (h:∀ (f:Addr) (bA:Value) (A:Around) (outer:List Env) (s:Shared) (H:Hp) (E:XK),bc k (A.deeper (envOfC x (aZ st) s.heap.objs.size f bA))->vI (ir fX P w K mg base N x (aZ st) f bA A outer s H E).fU (i5 st) body) :
  aw P w K mg base (k+1) x ps.length (bR N.length body):=by obtain⟨f,fd,F,m,b⟩:=a;exact⟨f,fd,ps,FL F S (h f),m,F.kp,b⟩
section
variable {X:Cx}{a b c e:Expr}{es bI:List Expr}{fa fb fc f:aJ}{g:bP}{pos p p1 p2 aA apos:Pos}
theorem bb{j k:Nat}{F:List D->OD}(C:aw X.prog X.w X.K X.mg X.base k x n F)(hr:bc j X.A)(ha:ft X (e::es) g)(hg:Gl X x:=by rfl)(gZ:(x==("__debug__":Str))=false:=by decide)(he:starEach (e::es) X.env=(false,eval e X.env)::starEach es X.env:=by rfl)(cB:(backTo pos (starEach es X.env)).any (·.1)=false:=by rfl)(hk:k<=j:=by decide):QD X (.Call (.Name x p) (e::es) [] pos) (aE F n g):=⟨have ha:=ha.o;by obtain⟨f,fd,ps,G,hm,su,hb⟩:=C;exact Pd G (hr.mono hk) hm su hb E9 ha hg gZ he cB⟩
end
theorem TB.only(h:AA H)(hn:∀ x∈tT,W.tabIn K x=none):TB K H:=by refine⟨λP ps e=>?_,λP ps e=>?_,λx hx c P e=>by rw[hn x hx]at e;cases e⟩<;>rcases h P with z|⟨o,xs,z⟩<;>rw[e]at z<;>cases z
theorem Ri{F:List D->OD}(h:∀ ns:List Int,ns.length<=63->∃ q,F [.lst (ns.map D.int)]=some (.bl true,q)){a:Addr}{ns:List Int}(hl:ns.length<=63)(hS:cQ K H a (ns.map V.int))(tb:TB K H){E:XK} :
  lg K 1 F [.ref a] H (λv _=>v=.bl true) E:=by
 obtain⟨q,e⟩:=h ns hl;have r:Rep K H (λ_=>none) .f 0 (.lst (ns.map D.int)) (.ref a) []:=by
  rcases cQ.cases hS with z|z
  .exact .shr z rfl (yE ns)
  .exact .kl z (yE ns)
 exact⟨rfl,[.lst (ns.map D.int)],λ_=>none,.bl true,q,(λa o z=>nomatch z),⟨(λa o z=>nomatch z),tb⟩,.cons (F:=[]) (G:=[]) r .nil nM,e,λv H' w' Fo _ _ rr=>rr.inv.1⟩
theorem Rj{w:World}{k:Nat}{f:Addr}{fd:FuncData}(F:mE K x x st f fd)(S:aj N ps (aZ st))
  (h:∀ (f:Addr) (bA:Value) (A:Around) (outer:List Env) (s:Shared) (H:Hp) (E:XK),bc k (A.deeper (envOfC x (aZ st) s.heap.objs.size f bA))->vI (ir fX P w K mg base N x (aZ st) f bA A outer s H E).fU (i5 st) body) :
  dS P w K mg base fX (k+1) f fd ps (lg K ps.length (bR N.length body)):=FL F S (h f)
section
variable {prog:Program}{w:World}{A:Around}{E:Tk}{s:Shared}
theorem Rk{vs:Array Value}{v:Value}(a:s.heap.IsTupleIter j p n)(b:s.heap.IsTuple p vs)(c:vs[n]? = some v)
  (k:∀ g:Heap,g.IsTupleIter j p (n+1)->Heap.SameBut j s.heap g->Q v { s with heap:=g }):wpAny (model prog w) A (Builtin.SmallTypes.nextOf (.ref j)) Q E s:=by obtain⟨oj,ej,kj,dj⟩:=id a;obtain⟨op,ep,_,mp,dp⟩:=b;unfold Builtin.SmallTypes.nextOf;refine Qa (Zm (name:=Str.ofString "__next__") a.typeIs ZI (Zn ZI a.typeIs JQ ?_ (JI _)));show wpAny _ _ (field (.ref j) 0 >>= _) _ _ s;refine Qa (Jm ej dj (x:=.ref p) rfl ?_);show wpAny _ _ (if(Value.ref p==Value.none)=true then _ else _) _ _ s;rw[Qt (show ¬ ((Value.ref p==Value.none)=true)from Zy)];show wpAny _ _ (field (.ref j) 1 >>= _) _ _ s;refine Qa (Jm ej dj (x:=.int n 0) rfl ?_);show wpAny _ _ (seqItems? (.ref p) >>= _) _ _ s;refine Qa (wpAny_seqItems ep dp ?_);simp only[Yc,c];refine Qa (wpAny_setField ej dj (by simp) (Qe ⟨v,rfl,Qe (k _ ⟨_,Z1 _ ej (Obj.isFreed_of_fields (Obj.data_mapFields dj _)),(Obj.cls_mapFields ..).trans kj,?_⟩ (Ja ..))⟩));rw[Obj.data_mapFields dj];simp[rawInt]
theorem Rl{vs:Array Value}{Q:Tk}(hh:A.handled=none)(a:s.heap.IsTupleIter j p n)(b:s.heap.IsTuple p vs)(c:vs[n]? = none)
  (k:∀ (g:Heap) x,Heap.ExtBut j s.heap g->(∃ o,g.get? x=some o/\o.cls=.type "StopIteration")->E (.ref x) { s with heap:=g }):wpAny (model prog w) A (Builtin.SmallTypes.nextOf (.ref j)) Q E s:=by
 obtain⟨oj,ej,kj,dj⟩:=id a;obtain⟨op,ep,_,mp,dp⟩:=b;unfold Builtin.SmallTypes.nextOf;refine Qa (Zm (name:=Str.ofString "__next__") a.typeIs ZI (Zn ZI a.typeIs JQ ?_ (JI _)));show wpAny _ _ (field (.ref j) 0 >>= _) _ _ s;refine Qa (Jm ej dj (x:=.ref p) rfl ?_);show wpAny _ _ (if(Value.ref p==Value.none)=true then _ else _) _ _ s;rw[Qt (show ¬ ((Value.ref p==Value.none)=true)from Zy)];show wpAny _ _ (field (.ref j) 1 >>= _) _ _ s;refine Qa (Jm ej dj (x:=.int n 0) rfl ?_);show wpAny _ _ (seqItems? (.ref p) >>= _) _ _ s;refine Qa (wpAny_seqItems ep dp ?_);simp only[Yc,c];refine Qa (wpAny_rule (Qa (wpAny_setField ej dj (by simp) ?_)));show wpAny _ _ (newExc (.type "StopIteration") [] >>= _) _ _ _;refine Qa ?_;simp only[newExc,newTuple];refine Qa (Q1 ?_ (by size_fits));refine Qa (m:=firstArgMember _ _) (wpAny_of_eq (a:=Value.none) (by first|rfl|(simp only[firstArgMember];rfl)) (Q1 ?_ (by size_fits)));simp only[raiseNew];refine Qa (wpAny_handled ?_);first|rw[show A.in1.handled=none from hh]|rw[hh]
 exact Qa (Qe (wpAny_throw (k _ _ (((Ja ..).extBut.push _).push _) ⟨_,Qv _ rfl,rfl⟩)))
end
theorem Rm{Uf:List (Addr×Obj)}{s:Shared}{h':Heap}{t':Nat}{ch:List Addr}(I:Inv X Uf σ H s)(k:∀ b o,b ∉ ch->s.heap.get? b=some o->h'.get? b=some o)(hf:∀ b∈ch,mw X Uf H b) :
  Inv X Uf σ H { s with heap:=h',toks:=t' }:=by
 have u9:∀ b u,H b=some u->b ∉ ch:=λb u e z=>by rw[(hf b z).1]at e;cases e
 refine I.step (g':=s.gens) (d':=s.drawn) (ch:=ch) (λb hb=>?_) (λb o _ _ hc e _=>k b o hc e) (λb o _ _ hc e _=>⟨o.slots,k b o hc e⟩) (λ_ _ _ _ n=>n)
  (λb o hc e=>⟨o,k b o hc e⟩) (λ_ _ e=>e) (λ_ _ _ e=>e) (λb ps e=>⟨#[],by rw[e];simp⟩) (λm hm=>?_) (λb u e=>?_) I.bare
 .obtain⟨f0,f1,f2,f3,f4,f5⟩:=hf b hb;exact⟨f3,f1,f4,f5⟩
 .obtain⟨o,es,ep,ho,r⟩:=hm;exact⟨o,es,ep,k _ o (λz=>(hf _ z).2.1 rfl) ho,r⟩
 .refine(I.aP b u e).fT (λc v hc q=>k c v ?_ q) (λ_ q=>q) λ_ _ q=>q;rcases hc with z|z
  .rw[z];exact u9 b u e
  .exact u9 c _ z
section
variable {X:Cx}{a b c e:Expr}{es elts:List Expr}{fa fb fc f:aJ}{g:bP}{pos p p1 p2 tp:Pos}{kt:Nat}
@[simp] def j94 (g:bP):jZ:=λρ=>match g ρ with
 | some ([.lst ds,.tup es],ac)=>if ds.length<=1000 then some ((ds.zip es).map λx=>.tup [x.1,x.2],ac)else none
 | some ([.tup ds,.tup es],ac)=>if ds.length<=1000 then some ((ds.zip es).map λx=>.tup [x.1,x.2],ac)else none
 | _=>none
end
abbrev o5:=List D->aW->Option aW
def Rn (K:PySem.W.Frag)(b:Nat)(pt:o5):ot:=λvs σ H Q=>∃ ds ρ w t ad,Good K ρ σ H w t/\ah K H w .f 0 ds vs []/\pt ds ρ=some ad/\∀ aT H' w',aT.length=σ.length->(∀ i,i<b->aT[i]? = σ[i]?)->Good K ad aT H' w' t->Go H w H' w'->Q aT H'
theorem nG.imp{tg:List Expr}{t t':ot}(h:nG X tg t)(i:∀ v σ H Q,t' v σ H Q->t v σ H Q):nG X tg t':=λUf s σ H v u Q I r q=>h Uf s σ H v u Q I r (i v σ H Q q)
abbrev Ro (X:Cx)(b:Nat)(tg:List Expr)(pt:o5):Prop:=nG X tg (Rn X.K b pt)
structure o7 (X:Cx) (b:Nat) (e:List Expr) (f:o5):Prop where mk::o:Ro X b e f
@[simp] def fG:o5:=λds ρ=>match ds with
 | []=>some ρ
 | _=>none
@[simp] def bD (pt:fE)(ps:o5):o5:=λds ρ=>match ds with
 | []=>none
 | d::r=>match pt d ρ with
  | some ac=>ps r ac
  | none=>none
@[simp] def eQ (ps:o5):fE:=λd ρ=>match d with
 | .tup ds=>ps ds ρ
 | _=>none
section
variable {X:Cx}{k b:Nat}{e:Expr}{es:List Expr}{pt:fE}{ps:o5}{pos:Pos}
theorem mO:o7 X b [] fG:=⟨nG.imp Mz λv σ H Q ao=>by
 obtain⟨ds,ρ,w,t,ad,g,r,e,k⟩:=ao;unfold fG at e;split at e
 .cases e;generalize hF:([]:List Addr)=F at r;cases r;exact⟨rfl,k σ H w rfl (λ_ _=>rfl) g Go.refl⟩
 .cases e⟩
theorem e4(h1:rS X b e pt)(h2:o7 X b es ps)(hs:(assignEach (e::es) X.env).map (·.2)=assign e X.env::(assignEach es X.env).map (·.2):=by rfl):o7 X b (e::es) (bD pt ps):=⟨have h1:=h1.o;have h2:=h2.o;nG.imp (MA h1 h2 hs) λv σ H Q ao=>by
 obtain⟨ds,ρ,w,t,ad,g,r,e,k⟩:=ao;unfold bD at e;split at e
 .cases e
 next d bI=>
  split at e;next ac h1=>
   generalize hF:([]:List Addr)=F at r;cases r with
   | cons ra rb _=>
    have z1:=ra.zero;have z2:=rb.zero;subst z1 z2;refine⟨_,_,rfl,d,ρ,w,t,ac,g,ra,h1,λpN H1 w1 l1 s1 g1 aN=>⟨bI,ac,w1,t,ad,g1,rb.mJ g.wl aN.bO,e,λlT H2 w2 l2 s2 g2 bC=>k lT H2 w2 (l2.trans l1) (λi hi=>(s2 i hi).trans (s1 i hi)) g2 (aN.trans bC)⟩⟩
  .cases e⟩
theorem mP(hc:X.calm=true)(h:o7 X b es ps)(hl:∀ ds ρ ad,ps ds ρ=some ad->ds.length=n)(hn:(assignEach es X.env).length=n:=by rfl)(iI:(assignEach es X.env).findIdx? (·.1)=none:=by rfl):rS X b (.Tuple es k pos) (eQ ps):=⟨have h:=h.o;PG.imp (MC hc h hn iI) λv σ H Q ao=>by
 obtain⟨d,ρ,w,t,ad,g,r,e,k⟩:=ao;unfold eQ at e;split at e;next ds=>
  obtain⟨a,vs,rfl,hq,rs⟩:=r.d_;exact⟨a,vs,rfl,hq,by rw[<- rs.length];exact hl _ _ _ e,ds,ρ,w,t,ad,g,rs,e,k⟩
 .cases e⟩
theorem yP{p q:fE}:∀ ds ρ ad,bD p (bD q fG) ds ρ=some ad->ds.length=2:=λds ρ ad h=>by
 match ds with
 | []=>cases h
 | [_]=>unfold bD at h;simp at h;split at h<;>cases h
 | [_,_]=>rfl
 | _::_::_::_=>
  exfalso;unfold bD at h;simp at h;split at h
  .split at h<;>cases h
  .cases h
end
theorem Gm:∀ {bs:List Bool} {us:List Value},bo (bs.map V.bl) us->LSm.BoolsAre us bs
 | [],_,h=>by cases h;exact .nil
 | b::bs,_,h=>by
  cases h with
  | cons r rr=>
   cases r;exact .cons b (Gm rr)
section
variable {X:Cx}{a b c e:Expr}{es:List Expr}{fa fb fc f:aJ}{g:bP}{pos p p1 p2:Pos}
theorem Rp(hc:X.calm=true):jU X (.builtin "all") (λxs H Q=>∃ (a:Addr) (bs:List Bool),xs=[.ref a]/\cQ X.K H a (bs.map V.bl)/\Q (.bl (bs.all id)) H):=by
 intro Uf s σ H xs us Q I r h;obtain⟨l,bs,rfl,hq,q⟩:=h;obtain⟨u,rfl,ru⟩:=my r;cases ru;obtain⟨ar,rv,pl,hz⟩:=I.list hq;have hb:=Gm rv;have hl:s.heap.IsList l ar.toArray:=pl.isList;have lt:l<s.heap.objs.size:=by obtain⟨_,e,_⟩:=hl;exact Qn e
 refine call_all_walk (Yd hl ⟨s.heap.objs.size,[s.heap.objs.size,l],[s.heap.objs.size],ar.toArray.size,_,_,λi=>(bs[i]?).getD true,rfl,Walks.list (A:=X.A.in1) (I.ok.hd hc) _ l (QH lt) ar.toArray,
  ⟨⟨_,Qv _ rfl,rfl,rfl⟩,hl.push _⟩,λi v s' Q' E' hP hQ=>?_,λh' tk hk=>?_⟩)
 .obtain⟨b,e,rfl⟩:=hb.get i v (by simpa using hP);simp only[e,Option.getD_some]at hQ;exact Zt hQ
 .have e:((range ar.toArray.size).all λi=>(bs[i]?).getD true)=bs.all id:=by rw[Qk,hb.length];exact LSm.range_all bs
  rw[e];exact⟨.bl (bs.all id),H,I.kept λb o z=>hk b o (λm=>by rw[Qs.mp m]at z;exact QT _ (Qn z)) (Qd _ z),rfl,q⟩
def qp:List D->Option (List Bool)
 | []=>some []
 | .bl b::r=>(qp r).map (b :: ·)
 | _=>none
def ub:List D->Option D
 | [.lst ds]=>(qp ds).map λbs=>.bl (bs.all id)
 | _=>none
theorem Gn:∀ {ds:List D} {vs:List V} {bs:List Bool},ah K H w o 0 ds vs []->qp ds=some bs->vs=bs.map V.bl
 | ds,vs,bs,r,e=>by
  generalize hF:([]:List Addr)=F at r;cases r with
  | nil=>cases e;rfl
  | @cons _ d v cJ eN F' G' r1 r2 _=>
   have h2:G'=[]:=r2.zero;subst h2;cases r1 with
   | bl b=>
    unfold qp at e;cases e':qp cJ with
    | none=>rw[e']at e;cases e
    | some bs'=>
     rw[e']at e;cases e;rw[Gn r2 e'];rfl
   | _=>cases e
theorem Rq(hc:X.calm=true)(hm:X.mg "all" = none)(ha:ft X [a] g)(hg:Gl X "all":=by rfl)(he:starEach [a] X.env=(false,eval a X.env)::starEach [] X.env:=by rfl)(cB:(backTo pos (starEach [] X.env)).any (·.1)=false:=by rfl):QD X (.Call (.Name "all" p) [a] [] pos) (eB ub g):=⟨have ha:=ha.o;PE.imp (nN (Rp hc) hg hm PyProof.Rows.boot_all ha (by decide) (by decide) he cB) (yJ λds d h=>by
  unfold ub at h;split at h;next ds0=>
   cases e:qp ds0 with
   | none=>rw[e]at h;cases h
   | some bs=>
    rw[e]at h;cases h;refine⟨_,rfl,λH w vs wl r Q hq=>?_⟩;obtain⟨v,rfl,rv⟩:=one r;obtain⟨p,ys,rfl,hs,rs⟩:=rv.eX;rw[Gn rs e]at hs;exact⟨p,bs,rfl,hs,hq⟩
  .cases h)⟩
theorem Rr{α:Type}(l:List α)(f:α->Bool):qp (l.map λi=>.bl (f i))=some (l.map f):=by
 induction l with
 | nil=>rfl
 | cons a l ih=>rw[Zf,qp,ih];rfl
end
inductive IT where
 | int|bool|tuple|list|str
def IT.nm:IT->String
 | .int=>"int"
 | .bool=>"bool"
 | .tuple=>"tuple"
 | .list=>"list"
 | .str=>"str"
def MK.vQ:MK->Bool
 | .l _ _=>true
 | _=>false
def o8:IT->D->Bool
 | .int,.int _=>true
 | .int,.bl _=>true
 | .bool,.bl _=>true
 | .tuple,.tup _=>true
 | .list,.lst _=>true
 | .list,.mp k _=>k.vQ
 | .str,.str _=>true
 | _,_=>false
def Gp:D->String
 | .aF=>"NoneType"
 | .bl _=>"bool"
 | .int _=>"int"
 | .str _=>"str"
 | .tup _=>"tuple"
 | .gN _ _=>"dict"
 | .exc _=>"object"
 | .ob _ _ _ _=>"function"
 | .mp k _=>if k.vQ=true then "list" else "dict"
 | .lst _=>"list"
section
variable {X:Cx}{Uf:List (Addr×Obj)}{σ:St}{H:Hp}{s:Shared}
theorem Rt{x:V}{c:Value}{b:Bool}{A:Around}{E:Tk}(I:Inv X Uf σ H s)(rx:bT x u)(r:Rep X.K H w o q d x F)
  (e:W.kitOne X.K (.type (Gp d)) c=some b) (hx:∀ nm,d ≠ .exc nm) (hi:∀ C fs p ds,d ≠ .mp (.i C fs p) ds) (h:∀ tk,Q (.bool b) { s with toks:=tk }):wpAny (model X.prog X.w) A (call (.builtin "isinstance") [u,c]) Q E s:=by
 cases r with
 | exc _ _ _=>exact absurd rfl (hx _)
 | ob h1 h2 x r=>
  cases rx;obtain⟨e1,_⟩:=(show dh X.prog X.w H s.heap _ (.fM _ _)from I.aP _ _ h1);exact Q4 O8 I.fC ⟨_,e1,x.1⟩ e (λz=>nomatch z) h
 | aF=>exact je I rx .aF e h
 | bl y=>exact je I rx (.bl y) e h
 | int i=>exact je I rx (.int i) e h
 | str y=>exact je I rx (.str y) e h
 | tup ha _=>exact je I rx (.tup ha) e h
 | gN ha _ _=>exact je I rx (.dK ha) e h
 | kl ha _=>
  obtain⟨ob,ar,n,hk,hc,hd,_⟩:=ha;cases rx;exact Q4 Ya I.fC ⟨ob,I.fC _ _ hk,hc⟩ e (λz=>nomatch z) h
 | shr ha _ _=>
  rcases ha with ha|⟨ob,ha⟩
  .exact je I rx (.lst ha) e h
  .exact je I rx (.fM ha) e h
 | own ha _ _ _=>exact je I rx (.lst ha) e h
 | @p6 a vs ds k y ha i _ _ _=>
  cases k with
  | t ks=>cases i;exact je I rx (.dT ha) e h
  | k ks=>cases i;exact je I rx (.dK ha) e h
  | i C fs p=>exact absurd rfl (hi _ _ _ _)
  | l n p=>obtain⟨rfl,_⟩:=i;exact je I rx (.lst ha) e h
 | @p7 q a vs ds k y ha i _ _ _=>
  cases k with
  | t ks=>cases i;exact je I rx (.dT ha) e h
  | k ks=>cases i;exact je I rx (.dK ha) e h
  | i C fs p=>exact absurd rfl (hi _ _ _ _)
  | l n p=>obtain⟨rfl,_⟩:=i;exact je I rx (.lst ha) e h
theorem Ru{C:Str}{fs:List Str}{pn:Option Addr}{x:V}{A:Around}{E:Tk}(I:Inv X Uf σ H s)(rx:bT x u)(r:Rep X.K H w o q (.mp (.i C fs pn) ds) x F)
  (T:IT) (h:∀ tk,Q (.bool false) { s with toks:=tk }):wpAny (model X.prog X.w) A (call (.builtin "isinstance") [u,.type T.nm]) Q E s:=by
 cases r with
 | p6 ha i _ _ _=>
  obtain⟨C,dx,_,rfl,c,_⟩:=i;exact je I rx (.ins ha c.cl c.ha c.hn c.vc c.hm) (c.no _ (by cases T<;>simp[IT.nm])) h
 | p7 ha i _ _ _=>
  obtain⟨C,dx,_,rfl,c,_⟩:=i;exact je I rx (.ins ha c.cl c.ha c.hn c.vc c.hm) (c.no _ (by cases T<;>simp[IT.nm])) h
theorem Rv(T:IT)(d:D)(hx:∀ nm,d ≠ .exc nm):W.kitOne K (.type (Gp d)) (.type T.nm)=some (o8 T d):=by
 cases d with
 | mp k ds=>cases k<;>cases T<;>rfl
 | _=>cases T<;>first|rfl|exact absurd rfl (hx _)
end
section
variable {X:Cx}{a b c e:Expr}{es:List Expr}{fa fb fc f:aJ}{ga gb:cI}{g:bP}{pos p p1 p2 pT:Pos}
theorem Rw(T:IT):jU X (.builtin "isinstance") (λxs H Q=>∃ x w o q F d,xs=[x,.ty T.nm]/\Rep X.K H w o q d x F/\Q (.bl (o8 T d)) H):=by
 intro Uf s σ H xs us Q I r h;obtain⟨x,w,o,q,F,d,rfl,rd,hq⟩:=h;obtain⟨u,v,rfl,ru,rv⟩:=vb r;cases rv;by_cases hx:∃ nm,d=.exc nm
 .obtain⟨nm,rfl⟩:=hx;obtain⟨_,_,_,rfl,ha,C,hc,k⟩:=rd.inv
  .cases ru;obtain⟨e1,_⟩:=(show dh X.prog X.w H s.heap _ (.fM _ _)from I.aP _ _ ha);have hT:o8 T (.exc nm)=false:=by cases T<;>rfl
   rw[hT]at hq;refine O0 (x:=_) I.fC ⟨e1,hc⟩ k.xc (by cases T<;>kernel_rfl) (k.no _ (by cases T<;>simp[IT.nm])) ⟨.bl false,H,I.tok _,rfl,hq⟩
 .by_cases hi:∃ C fs p ds,d=.mp (.i C fs p) ds
  .obtain⟨C,fs,p,ds,rfl⟩:=hi;exact Ru I ru rd T λtk=>⟨.bl (o8 T (.mp (.i C fs p) ds)),H,I.tok _,by cases T<;>rfl,hq⟩
  .exact Rt I ru rd (Rv T d λnm z=>hx ⟨nm,z⟩) (λnm z=>hx ⟨nm,z⟩) (λC fs p ds z=>hi ⟨C,fs,p,ds,z⟩) λtk=>⟨.bl (o8 T d),H,I.tok _,rfl,hq⟩
@[simp] def mQ (T:IT)(fa:aJ):aJ:=λρ=>match fa ρ with
 | some (d,_,ac)=>some (.bl (o8 T d),9,ac)
 | none=>none
theorem sv(T:IT){t:Str}(hm:X.mg "isinstance" = none)(BO:X.mg t=none)(Rx:bootBuiltins t=some (.type T.nm))(ha:QD X a fa)(hg:Gl X "isinstance":=by rfl)(vR:Gl X t:=by rfl)(Ry:t ≠ "__name__":=by decide)(BP:(t==("__debug__":Str))=false:=by decide)(hs:starEach [a,.Name t pT] X.env=(false,eval a X.env)::starEach [.Name t pT] X.env:=by rfl)(cB:(backTo pos (starEach [.Name t pT] X.env)).any (·.1)=false:=by rfl):QD X (.Call (.Name "isinstance" p) [a,.Name t pT] [] pos) (mQ T fa):=⟨have ha:=ha.o;PE.imp (nN (Rw T) hg hm Z0 (jf ha (jf (Eo (v:=.ty T.nm) vR BO Rx rfl Ry BP) k_ eZ) hs) (by decide) (by decide) hs cB) λσ H Q ao=>by
 obtain⟨ρ,w,t,r',q,ad,gd,ee,k⟩:=ao;unfold mQ at ee;split at ee;next d q1 ac h1=>
  cases ee;refine⟨ρ,w,t,_,_,_,gd,h1,λv H1 w1 F1 g1 aN r1=>?_⟩;exact⟨v,w1,_,_,F1,d,rfl,r1,k _ H1 (cH t w1) [] g1.drop.up (aN.drop gd.wt) (.bl _)⟩
 .cases ee⟩
@[simp] def l8 (g1 g2:D->D->Option D)(fa fb fc:aJ):aJ:=λρ=>match fa ρ with
 | some (x,_,ac)=>match fb ac with
  | some (y,_,am)=>match g1 x y with
   | some (.bl true)=>match fc am with
    | some (z,_,fO)=>match g2 y z with
     | some d=>some (d,9,fO)
     | none=>none
    | none=>none
   | some (.bl false)=>some (.bl false,9,am)
   | _=>none
  | none=>none
 | none=>none
theorem Rz(ho:cU X (compareOp op) (jG h1))(gU:cU X (compareOp kX) (jG h2))(e1:∀ i j d,g1 i j=some d->jj d=some (h1 i j))(mR:∀ i j d,g2 i j=some d->jj d=some (h2 i j))
  (ha:PD X a fa) (hb:PD X b fb) (hc:PD X c fc) (hm:lastMarks [op,kX] [b,c]=false:=by with_unfolding_all rfl):PD X (.Compare a [op,kX] [b,c] pos) (l8 (gI g1) (gI g2) fa fb fc):=PE.imp (M6 ho gU ha hb hc hm) λσ H Q ao=>by
 obtain⟨ρ,w,t,r',q,ad,gd,ee,k⟩:=ao;unfold l8 at ee;split at ee;next x q1 ac a1=>
  split at ee;next y q2 am a2=>
   refine p9 gd a1 a2 λu v H2 w2 F1 F2 vS bC r1 r2=>?_;have gg:=vS.drop (t':=t);split at ee;next hg=>
    obtain⟨i,j,rfl,rfl,sx⟩:=p_ hg;refine⟨i,j,dU r1,dU r2,true,by have:=e1 i j _ sx;simpa [jj]using this.symm,?_⟩;rw[Ql rfl];split at ee;next z q3 fO a3=>
     refine⟨am,cH t w2,t,z,q3,fO,gg,a3,λv3 H3 w3 F3 g3 iO r3=>?_⟩;split at ee;next d hd=>
      cases ee;obtain⟨j',l,ej,rfl,nC⟩:=p_ hd;cases ej;exact⟨j,l,dU r2,dU r3,oM k gd g3 ((bC.drop gd.wt).trans iO) (vE (mR j l _ nC))⟩
     .cases ee
    .cases ee
   next hg=>
    obtain⟨i,j,rfl,rfl,sx⟩:=p_ hg;cases ee;refine⟨i,j,dU r1,dU r2,false,by have:=e1 i j _ sx;simpa [jj]using this.symm,?_⟩;rw[Qt (by decide)];exact oM k gd vS bC (.bl false)
   .cases ee
  .cases ee
 .cases ee
theorem RC(ha:QD X a fa)(hb:QD X b fb)(hc:QD X c fc)(hm:lastMarks [.LtE,.Lt] [b,c]=false:=by with_unfolding_all rfl):QD X (.Compare a [.LtE,.Lt] [b,c] pos) (l8 qd jk fa fb fc):=⟨have ha:=ha.o;have hb:=hb.o;have hc:=hc.o;Rz EB Aj (λi j d h=>by cases h;rfl) (λi j d h=>by cases h;rfl) ha hb hc hm⟩
@[simp] def vT (fa:aJ):aJ:=λρ=>match fa ρ with
 | some (.int i,_,ac)=>some (.int (-i),9,ac)
 | _=>none
theorem RD(ha:QD X a fa):QD X (.UnaryOp .USub a pos) (vT fa):=⟨have ha:=ha.o;PE.imp (MR MZ ha) λσ H Q ao=>by
 obtain⟨ρ,w,t,r',q,ad,gd,ee,k⟩:=ao;unfold vT at ee;split at ee;next i q1 ac h1=>
  cases ee;refine⟨ρ,w,t,_,_,_,gd,h1,λv H1 w1 F1 g1 aN r1=>?_⟩;exact⟨i,dU r1,k _ H1 (cH t w1) [] g1.drop.up (aN.drop gd.wt) (.int _)⟩
 .cases ee⟩
section
variable {prog:Program}{w:World}{A:Around}{E:Tk}{s:Shared}
theorem RE(l b:Addr)(us vs:Array Value)(n m:Nat)(d1 d2:Option Addr)(s1 s2:Array (Option Value))(h0:us.isEmpty=true) :
  Meets (Builtin.«tuple.__add__» ⟨[.ref l,.ref b],[]⟩) (λ_ R s=>s.heap.get? l=some { cls:=.type "tuple",dict:=d1,data:=.seq us n,slots:=s1 }/\s.heap.get? b=some { cls:=.type "tuple",dict:=d2,data:=.seq vs m,slots:=s2 }/\R (.ok (.ret (.ref b))) s):=
 .of_wp λprog w A R s h=>by
  obtain⟨hp,g,d,tk,os⟩:=s;obtain⟨hl,hb,h⟩:=h;have f2:=AutoSeq1.sub_tuple_tuple;wp_walk using wpAny_loadPart' hl,wpAny_loadPart' hb
  exact⟨_,rfl,h⟩
theorem RF{t b:Addr}{ws:List Value}(ht:IsTup s.heap t #[])(hb:IsTup s.heap b ws.toArray)(h:Q (.ref b) s):wpAny (model prog w) A (binaryOp .Add (.ref t) (.ref b)) Q E s:=by obtain⟨⟨c1,d1,a1,s1⟩,e1,kI,n1,vU⟩:=id ht;obtain⟨⟨c2,d2,a2,s2⟩,e2,ku,n2,Gq⟩:=id hb;simp only at kI vU ku Gq;subst kI vU ku Gq;exact Yx ⟨_,e1,rfl⟩ ⟨_,e2,rfl⟩ Yk seq_tuple_add Jo Jl (Jf _ _) (RE t b #[] ws.toArray n1 n2 d1 d2 s1 s2 rfl) ⟨e1,e2,h⟩
end
theorem RG:cU X (binaryOp .Add) (λx y H Q=>∃ a b ys,x=.ref a/\y=.ref b/\du X.K H a []/\du X.K H b ys/\Q (.ref b) H):=by intro Uf s σ H x y v u Q I rx ry h;obtain⟨a,b,ys,rfl,rfl,ha,hb,q⟩:=h;cases rx;cases ry;obtain⟨ar,r1,p1,_⟩:=I.tuple ha;obtain⟨g7,r2,p2,_⟩:=I.tuple hb;cases r1;exact RF p1 p2 ⟨.ref b,H,I,rfl,q⟩
theorem cU.or{f:Value->Value->Sem Value}{r r':R2}(h:cU X f r)(h':cU X f r'):cU X f (λx y H Q=>r x y H Q\/r' x y H Q):=λUf s σ H x y v u Q I rx ry q=>q.elim (λz=>h Uf s σ H x y v u Q I rx ry z) λz=>h' Uf s σ H x y v u Q I rx ry z
@[simp] def yQ (fa fb:aJ):aJ:=λρ=>match fa ρ with
 | some (.tup ds,_,ac)=>match fb ac with
  | some (.tup es,_,am)=>if ds.length+es.length<=1000 then some (.tup (ds++es),9,am)else none
  | _=>none
 | _=>none
theorem Gr(ha:QD X a fa)(hb:QD X b fb):QD X (.BinOp a .Add b pos) (yQ fa fb):=⟨have ha:=ha.o;have hb:=hb.o;PE.imp (oz (cU.or RG NJ) ha hb) λσ H Q ao=>by
 obtain⟨ρ,w,t,r',q,ad,gd,ee,k⟩:=ao;unfold yQ at ee;split at ee;next ds q1 ac h1=>
  split at ee;next es q2 am h2=>
   split at ee;next hl=>
    cases ee;refine p9 gd h1 h2 λu u' H2 w2 F1 F2 g2 go r1 r2=>?_;have sy:=r1.drop (o:=.f) (Qf t);have yR:=r2.drop (o:=.f) (ZS t);have gg:=g2.drop (t':=t);have qq:=go.drop gd.wt;obtain⟨p1,vs,rfl,o9,s1⟩:=sy.d_;obtain⟨p2,us,rfl,yS,s2⟩:=yR.d_;have l1:=s1.length;have l2:=s2.length;cases ds with
    | nil=>
     have:vs=[]:=Zq.mp (by rw[<- l1];rfl);subst this;refine .inl ⟨p1,p2,us,rfl,rfl,o9,yS,k _ H2 (cH t w2) [] gg.up qq ?_⟩;exact(Rep.go gg.wl (λa x e n=>⟨sm e,n⟩) yR nM:Rep X.K H2 (cH t w2) (.t t) 0 _ _ []).dm rfl |>.2 9
    | cons d ds=>
     refine .inr ⟨p1,p2,vs,us,rfl,rfl,o9,yS,(λz=>by rw[z]at l1;cases l1),qc (by rw[<- l1,<- l2];exact hl),λz=>?_,λ_ p hp=>?_⟩
     .have:es=[]:=Zq.mp (by rw[l2,z];rfl);subst this;rw[Q5]at k;exact k _ H2 (cH t w2) [] gg.up qq ((Rep.go gg.wl (λa x e n=>⟨sm e,n⟩) sy nM:Rep X.K H2 (cH t w2) (.t t) 0 _ _ []).dm rfl |>.2 9)
     .obtain⟨a1,a2,a3⟩:=tV gg hp (s2.app s1);exact k _ _ _ _ a1 (qq.trans a2) a3
   .cases ee
  .cases ee
 .cases ee⟩
abbrev sA:=aW->Option (Option Int×aW)
def RH (K:PySem.W.Frag)(f:sA):TO:=λσ H Q=>∃ ρ w t o ad,Good K ρ σ H w t/\f ρ=some (o,ad)/\∀ H' w',Good K ad σ H' w' t->Go H w H' w'->Q o H'
abbrev RJ (X:Cx)(e:Option Expr)(f:sA):Prop:=PO X e (RH X.K f)
structure yT (X:Cx) (e:Option Expr) (f:sA):Prop where mk::o:RJ X e f
@[simp] def mU:sA:=λρ=>some (none,ρ)
@[simp] def l9 (f:aJ):sA:=λρ=>match f ρ with
 | some (.int i,_,ac)=>some (some i,ac)
 | _=>none
theorem PO.imp{e:Option Expr}{t t':TO}(h:PO X e t)(i:∀ σ H Q,t' σ H Q->t σ H Q):PO X e t':=λUf s σ H Q I q=>h Uf s σ H Q I (i σ H Q q)
theorem yU:yT X none mU:=⟨PO.imp NA λσ H Q ao=>by obtain⟨ρ,w,t,o,ad,gd,ee,k⟩:=ao;cases ee;exact k H w gd Go.refl⟩
theorem yV(h:QD X e f):yT X (some e) (l9 f):=⟨have h:=h.o;PO.imp (NB h) λσ H Q ao=>by
 obtain⟨ρ,w,t,o,ad,gd,ee,k⟩:=ao;unfold l9 at ee;split at ee;next i q1 ac h1=>
  cases ee;exact⟨ρ,w,t,_,_,_,gd,h1,λv H1 w1 F1 g1 aN r1=>⟨i,dU r1,k H1 (cH t w1) g1.drop (aN.drop gd.wt)⟩⟩
 .cases ee⟩
section
variable {prog:Program}{w:World}{A:Around}{E:Tk}{s:Shared}
theorem RK{t sl:Addr}{us:Array Value}{vl vu:Value}{lo hi:Option Int}(ht:IsTup s.heap t us)(hs:s.heap.IsSliceOf sl vl vu .none)(pl:IsPart vl lo)(pu:IsPart vu hi)
  (hw:HT.bq us.size 0 lo=0/\HT.bq us.size us.size hi=us.size) (h:Q (.ref t) s):wpAny (model prog w) A (getItem (.ref t) (.ref sl)) Q E s:=by
 obtain⟨os,rm,x_,oB⟩:=id hs;have ts:s.TypeIs (.ref sl) "slice":=⟨os,rm,x_⟩;unfold getItem
 try with_reducible refine Zk ?_
 first|refine Qa (Qe ?_)|skip
 refine Qa (wpAny_sequenceKey ht.typeIs (by decide) (Qa (Zm (name:=Str.ofString "__getitem__") ht.typeIs Q2 (Zn Q2 ht.typeIs entry_tuple_getitem ?_ (args_tuple_getitem _ _)))));show wpAny _ _ (Builtin.Tuple.tupleItemsOf (.ref t) >>= _) _ _ s;refine Qa (tupleItemsOf_ ht (Qa (JO ts ?_)));rw[Ql (by decide)];refine Qa (HT.ET hs pl pu ?_);have yes:(((HT.bq us.size 0 lo:Nat):Int)==0&&(1:Int)==1&&(HT.bq us.size us.size hi-HT.bq us.size 0 lo)==us.size)=true:=by rw[hw.1,hw.2];simp
 show wpAny _ _ (if(((HT.bq us.size 0 lo:Nat):Int)==0&&(1:Int)==1&&(HT.bq us.size us.size hi-HT.bq us.size 0 lo)==us.size)=true then _ else _) _ _ s;rw[Ql yes];refine Qa (m:=Builtin.Tuple.tupleIsExact _) ?_;unfold Builtin.Tuple.tupleIsExact;refine Qa (JO ht.typeIs (Qe ?_));rw[Ql (by decide)];exact Qa (wpAny_rule (Qe ⟨_,rfl,Qe h⟩))
end
def l_ (xs:List D)(lo hi:Option Int):List D:=(xs.drop (HT.bq xs.length 0 lo)).take (HT.bq xs.length xs.length hi-HT.bq xs.length 0 lo)
@[simp] def lz (fa:aJ)(fl fh:sA):aJ:=λρ=>match fa ρ with
 | some (.tup ds,_,ac)=>match fl ac with
  | some (lo,am)=>match fh am with
   | some (hi,fO)=>some (.tup (l_ ds lo hi),9,fO)
   | none=>none
  | none=>none
 | _=>none
theorem ah.qr:∀ {ds:List D} {vs:List V} (i:Nat),ah K H w .f 0 ds vs []->ah K H w .f 0 (ds.take i) (vs.take i) []
 | _,_,0,_=>by rw[List.take_zero,List.take_zero];exact .nil
 | ds,vs,i+1,r=>by
  generalize hF:([]:List Addr)=F at r;cases r with
  | nil=>exact .nil
  | cons r s _=>
   have h2:=s.zero;have h1:=r.zero;subst h2;subst h1;exact .cons (F:=[]) (G:=[]) r (ah.qr i s) nM
theorem RM:pR X (λx lo hi H Q=>∃ a xs,x=.ref a/\du X.K H a xs/\(HT.bq xs.length 0 lo=0/\HT.bq xs.length xs.length hi=xs.length)/\Q (.ref a) H):=by
 intro Uf s σ H x v vl vu lo hi sl Q I rx hs pl pu h;obtain⟨a,xs,rfl,hx,hw,q⟩:=h;cases rx;obtain⟨ar,r,ht,hz⟩:=I.tuple hx;have hlen:ar.toArray.size=xs.length:=by rw[Qk];exact r.length.symm
 exact⟨"tuple",_,Q2.lookup,ht.typeIs,RK ht hs pl pu (by rw[hlen];exact hw) ⟨.ref a,H,I,rfl,q⟩⟩
theorem yW{lo hi:Option Expr}{fl fh:sA}(ha:QD X a fa)(hl:yT X lo fl)(hh:yT X hi fh):QD X (.Subscript a (.Slice lo hi none p2) pos) (lz fa fl fh):=⟨have ha:=ha.o;have hl:=hl.o;have hh:=hh.o;PE.imp (ND (RM.or NH) ha hl hh) λσ H Q ao=>by
 obtain⟨ρ,w,t,r',q,ad,gd,ee,k⟩:=ao;unfold lz at ee;split at ee;next ds q1 ac h1=>
  split at ee;next lo am h2=>
   split at ee;next hi fO h3=>
    cases ee;refine⟨ρ,w,t,_,_,_,gd,h1,λv H1 w1 F1 g1 aN r1=>?_⟩;have Gs:=g1.drop (t':=t);have r0:=r1.drop (o:=.f) (Qf t);refine⟨ac,cH t w1,t,_,_,Gs,h2,λH2 w2 g2 bC=>⟨am,w2,t,_,_,g2,h3,λH3 w3 g3 iO=>?_⟩⟩;have r3:=(r0.mJ Gs.wl bC.bO).mJ g2.wl iO.bO;obtain⟨p1,vs,rfl,o9,s1⟩:=r3.d_;have l1:=s1.length;by_cases hw:HT.bq ds.length 0 lo=0/\HT.bq ds.length ds.length hi=ds.length
    .have ec:l_ ds lo hi=ds:=by unfold l_;rw[hw.1,hw.2,YX,Y6,JA]
     rw[ec]at k;refine .inl ⟨p1,vs,rfl,o9,by rw[<- l1];exact hw,?_⟩;exact k _ H3 w3 [] g3.up (((aN.drop gd.wt).trans bC).trans iO) ((Rep.go g3.wl (λa x e n=>⟨sm e,n⟩) r3 nM:Rep X.K H3 w3 (.t t) 0 _ _ []).dm rfl |>.2 9)
    .refine .inr ⟨p1,vs,rfl,o9,by rw[<- l1];exact hw,λp hp=>?_⟩;have s4:ah X.K H3 w3 .f 0 (l_ ds lo hi) (pS vs lo hi) []:=by unfold l_ pS;rw[<- l1];exact(s1.qg _).qr _
     obtain⟨a1,a2,a3⟩:=tV g3 hp s4;exact k _ _ _ _ a1 ((((aN.drop gd.wt).trans bC).trans iO).trans a2) a3
   .cases ee
  .cases ee
 .cases ee⟩
end
section
variable {X:Cx}{k b n:Nat}{a c e tg:Expr}{es:List Expr}{pt:fE}{ps:o5}{pos:Pos}{fa fb f:aJ}
theorem sC{p q r:fE}:∀ ds ρ ad,bD p (bD q (bD r fG)) ds ρ=some ad->ds.length=3:=λds ρ ad h=>by
 match ds with
 | []=>cases h
 | [_]=>unfold bD at h;simp at h;split at h<;>cases h
 | [_,_]=>unfold bD at h;simp at h;split at h;(split at h<;>cases h);cases h
 | [_,_,_]=>rfl
 | _::_::_::_::_=>
  exfalso;unfold bD at h;simp at h;split at h
  .split at h
   .split at h<;>cases h
   .cases h
  .cases h
@[simp] def vV (f:aJ)(pt:fE):aI:=λρ=>match f ρ with
 | some (d,_,ac)=>match pt d ac with
  | some am=>some (.nx am)
  | none=>none
 | none=>none
theorem RN(he:QD X e f)(hg:rS X 0 tg pt)(hs:swapsWithSole [tg] e pos.line X.env=pure false:=by rfl)(hw:swappedStores [tg] e X.env=pure none:=by rfl)(h1:(assignEach [tg] X.env).map (·.2)=[assign tg X.env]:=by rfl):jl X (.Assign [tg] e pos) (vV f pt):=⟨have he:=he.o;have hg:=hg.o;PS.imp (zZ he hg hs hw h1) λD σ H ao=>by
 obtain⟨ρ,w,o,g,ee,k⟩:=ao;unfold vV at ee;split at ee;next d q ac h1=>
  split at ee;next am h2=>
   cases ee;refine⟨ρ,w,0,d,q,ac,g,h1,λv H1 w1 F1 g1 aN r1=>?_⟩;exact⟨d,ac,cH 0 w1,0,am,g1.drop,r1.drop (Qf 0),h2,λaT H' w' hl _ g' gu=>k aT H' w' hl g' ((aN.drop g.wt).trans gu)⟩
  .cases ee
 .cases ee⟩
end
theorem RO:fillsNumberSlot (.type "tuple") "mul" = pure false:=PySem.fillsNumberSlot_seq (id:="tuple.__mul__") (r:=some (.builtin "tuple.__rmul__")) JB.lookup (by decide +kernel) F.slot_tuple_rmul.lookup (by decide +kernel)
theorem RP:seqRepeat? (.type "tuple")=pure (some (.builtin "tuple.__mul__")):=by unfold seqRepeat?;rw[PySem.seqSlot_of (T:="tuple") (name:="__mul__") (id:="tuple.__mul__") JB.lookup (by decide +kernel),PySem.seqSlot_of (T:="tuple") (name:="__rmul__") (id:="tuple.__rmul__") F.slot_tuple_rmul.lookup (by decide +kernel)];rfl
theorem RQ(a:Int)(t:Tok)(l:Addr)(us:Array Value)(n:Nat)(dd:Option Addr)(sl:Array (Option Value)) :
  Meets (Builtin.«int.__rmul__» ⟨[.int a t,.ref l],[]⟩) (λ_ R s=>s.heap.get? l=some { cls:=.type "tuple",dict:=dd,data:=.seq us n,slots:=sl }/\R (.ok (.ret Value.notImplemented)) s):=.of_wp λprog w A R s h=>by
 obtain⟨hp,g,d,tk,os⟩:=s;obtain⟨hl,h⟩:=h;wp_walk
 exact⟨_,rfl,h⟩
theorem RS(t:Tok)(l:Addr)(us:Array Value)(n:Nat)(dd:Option Addr)(sl:Array (Option Value)) :
  Meets (Builtin.«tuple.__mul__» ⟨[.ref l,.int 1 t],[]⟩) (λ_ R s=>s.heap.get? l=some { cls:=.type "tuple",dict:=dd,data:=.seq us n,slots:=sl }/\R (.ok (.ret (.ref l))) s):=.of_wp λprog w A R s h=>by
 obtain⟨hp,g,d,tk,os⟩:=s;obtain⟨hl,h⟩:=h;have f1:=AutoSeq1.idx_int;wp_walk using wpAny_loadPart' hl
 exact⟨_,rfl,h⟩
theorem RT(k:Int)(t:Tok)(l:Addr)(us:Array Value)(n:Nat)(dd:Option Addr)(sl:Array (Option Value))(h2:¬ (decide (k < -(2 ^ 63))||decide (k ≥ 2 ^ 63))=true)(h3:¬ (us.isEmpty||k==1)=true)(h4:¬ (decide (k<=0)||us.isEmpty)=true)(h5:¬ (us.size:Int)*k > (2 ^ 63-1) / 8)(h6:¬ Builtin.Tuple.tupleTooMany ((us.size:Int)*k)=true)(hsz:(List.foldl (· ++ ·) #[] (replicate k.toNat us)).size<=sizeLine) :
  Meets (Builtin.«tuple.__mul__» ⟨[.ref l,.int k t],[]⟩) (λ_ R s=>s.heap.get? l=some { cls:=.type "tuple",dict:=dd,data:=.seq us n,slots:=sl }/\R (.ok (.ret (.ref s.heap.objs.size))) { s with heap:=s.heap.push { cls:=.type "tuple",data:=.seq (List.foldl (· ++ ·) #[] (replicate k.toNat us)) } }):=.of_wp λprog w A R s h=>by
 obtain⟨hp,g,d,tk,os⟩:=s;obtain⟨hl,h⟩:=h;have f1:=AutoSeq1.idx_int;wp_walk using wpAny_loadPart' hl
 rw[Qt h2];wp_walk using wpAny_loadPart' hl
 rw[Qt h5];wp_walk using wpAny_loadPart' hl
 exact⟨_,rfl,h⟩
section
variable {X:Cx}{a b c e:Expr}{fa fb fc f:aJ}{pos:Pos}
theorem RU:cU X (binaryOp .Mult) (λx y H Q=>∃ a k xs,x=.ref a/\y=.int k/\du X.K H a xs/\xs ≠ []/\1<=k/\xs.length*k.toNat<=1000/\(k=1->Q (.ref a) H)/\(k≠1->∀ p,H p=none->Q (.ref p) (upd H p (.tup (replicate k.toNat xs).flatten)))):=by
 intro Uf s σ H x y v u Q I rx ry h;obtain⟨l,k,xs,rfl,rfl,hq,cG,h1,hz,q1,q2⟩:=h;cases rx;obtain⟨t,rfl⟩:=ry;obtain⟨ar,r,pt,_⟩:=I.tuple hq;obtain⟨⟨c1,d1,a1,s1⟩,e,kI,n1,vU⟩:=id pt;simp only at kI vU;subst kI vU;have hl:=r.length;have mV:0<ar.length:=by rw[<- hl];exact JN.mpr cG
 refine J2 (T:="tuple") (U:="int") (by decide) ⟨_,e,rfl⟩ (λs'=>Yy s' k t) RO F.fills_int_mul JF RP F.slot_int_index.lookup
  (ZQ JF (Yy s k t) F.entry_int_rmul (F.args_int_rmul_2 _ _) (RQ k t l ar.toArray n1 d1 s1) ⟨e,rfl,⟨_,e,rfl⟩,?_⟩)
 by_cases hk:k=1
 .subst hk;exact ZQ JB ⟨_,e,rfl⟩ F.entry_tuple_mul (F.args_tuple_mul_2 _ _) (RS t l ar.toArray n1 d1 s1) ⟨e,⟨.ref l,H,I,rfl,q1 rfl⟩⟩
 .have hm:ar.length*k.toNat<=1000:=by rw[<- hl];exact hz
  have uc:k.toNat<=1000:=by have:=Nat.le_mul_of_pos_left k.toNat mV;omega
  have f0:List.foldl (λx1 x2=>x1++x2) #[] (replicate k.toNat ar.toArray)=(replicate k.toNat ar).flatten.toArray:=by have:=Au ar k.toNat [];rw[List.nil_append]at this;exact this
  have lf:(replicate k.toNat ar).flatten.length<=1000:=by rw[Av,Y5];exact hm
  have em:((ar.toArray.size:Nat):Int)*k=((ar.length*k.toNat:Nat):Int):=by rw[Qk,Int.natCast_mul,Int.toNat_of_nonneg (by omega)]
  refine ZQ JB ⟨_,e,rfl⟩ F.entry_tuple_mul (F.args_tuple_mul_2 _ _) (RT k t l ar.toArray n1 d1 s1 (by simp;omega) (by simp[hk];exact J6 mV) (by simp;exact⟨by omega,J6 mV⟩) (by rw[em];omega) (by
   unfold Builtin.Tuple.tupleTooMany;rw[em];simp only[gt_iff_lt,Js,Int.not_lt];have:(1000:Nat)<=sizeLine:=by decide
   omega) (by rw[f0,Qk];exact qc lf)) ⟨e,?_⟩
  rw[f0];refine⟨.ref s.heap.objs.size,_,I.laid (t':=s.toks) (o:=.tup (replicate k.toNat xs).flatten) (λb ob q=>Qd _ q) (Qf _) ?_,rfl,q2 hk _ (I.aP.fresh (Qf _))⟩;exact⟨qc (by rw[Av,Y5];exact hz),_,r.rep k.toNat,kY.new _ _⟩
@[simp] def nW (fa fb:aJ):aJ:=λρ=>match fa ρ with
 | some (.tup ds,_,ac)=>match fb ac with
  | some (.int n,_,am)=>if ds.isEmpty=false/\1<=n/\ds.length*n.toNat<=1000 then some (.tup (replicate n.toNat ds).flatten,9,am)else none
  | _=>none
 | _=>none
theorem Gu(ha:QD X a fa)(hb:QD X b fb):QD X (.BinOp a .Mult b pos) (nW fa fb):=⟨have ha:=ha.o;have hb:=hb.o;PE.imp (oz RU ha hb) λσ H Q ao=>by
 obtain⟨ρ,w,t,r',q,ad,gd,ee,k⟩:=ao;unfold nW at ee;split at ee;next ds q1 ac h1=>
  split at ee;next n q2 am h2=>
   split at ee;next hl=>
    cases ee;obtain⟨hd,hn,hz⟩:=hl;refine p9 gd h1 h2 λu u' H2 w2 F1 F2 g2 go r1 r2=>?_;have sy:=r1.drop (o:=.f) (Qf t);have gg:=g2.drop (t':=t);have qq:=go.drop gd.wt;obtain⟨p1,vs,rfl,o9,s1⟩:=sy.d_;have l1:=s1.length;refine⟨p1,n,vs,rfl,dU r2,o9,λz=>?_,hn,by rw[<- l1];exact hz,λz=>?_,λ_ p hp=>?_⟩
    .subst z;have:ds=[]:=Zq.mp l1;subst this;cases hd
    .subst z;have e:(replicate (Int.toNat 1) ds).flatten=ds:=by show(replicate 1 ds).flatten=ds;simp
     rw[e]at k;exact k _ H2 (cH t w2) [] gg.up qq ((Rep.go gg.wl (λa x e n=>⟨sm e,n⟩) sy nM:Rep X.K H2 (cH t w2) (.t t) 0 _ _ []).dm rfl |>.2 9)
    .obtain⟨a1,a2,a3⟩:=tV gg hp (s1.times n.toNat);exact k _ _ _ _ a1 (qq.trans a2) a3
   .cases ee
  .cases ee
 .cases ee⟩
end
section
variable {X:Cx}{a b c e:Expr}{es:List Expr}{fa fb fc f:aJ}{ga gb:cI}{g:bP}{pos p p1 p2 aA apos:Pos}
theorem RV(ho:cU X (compareOp op) (jG h1))(gU:cU X (compareOp kX) (jG h2))(e1:∀ i j d,g1 i j=some d->jj d=some (h1 i j))(mR:∀ i j d,g2 i j=some d->jj d=some (h2 i j))
  (ha:PD X a fa) (hb:PD X b fb) (hc:PD X c fc) (hm:lastMarks [op,kX] [b,c]=false:=by with_unfolding_all rfl):Bn X (.Compare a [op,kX] [b,c] pos) (bf (l8 (gI g1) (gI g2) fa fb fc)):=PT.imp (M7 ho gU ha hb hc hm) (FE λσ H Q ao=>by
 obtain⟨ρ,w,t,r',q,ad,gd,ee,k⟩:=ao;unfold l8 at ee;split at ee;next x q1 ac a1=>
  split at ee;next y q2 am a2=>
   refine p9 gd a1 a2 λu v H2 w2 F1 F2 vS bC r1 r2=>?_;have gg:=vS.drop (t':=t);split at ee;next hg=>
    obtain⟨i,j,rfl,rfl,sx⟩:=p_ hg;refine⟨i,j,dU r1,dU r2,true,by have:=e1 i j _ sx;simpa [jj]using this.symm,?_⟩;rw[Ql rfl];split at ee;next z q3 fO a3=>
     refine⟨am,cH t w2,t,z,q3,fO,gg,a3,λv3 H3 w3 F3 g3 iO r3=>?_⟩;split at ee;next d hd=>
      cases ee;obtain⟨j',l,ej,rfl,nC⟩:=p_ hd;cases ej;exact⟨j,l,dU r2,dU r3,oM k gd g3 ((bC.drop gd.wt).trans iO) (vE (mR j l _ nC))⟩
     .cases ee
    .cases ee
   next hg=>
    obtain⟨i,j,rfl,rfl,sx⟩:=p_ hg;cases ee;refine⟨i,j,dU r1,dU r2,false,by have:=e1 i j _ sx;simpa [jj]using this.symm,?_⟩;rw[Qt (by decide)];exact oM k gd vS bC (.bl false)
   .cases ee
  .cases ee
 .cases ee)
theorem RW(ha:QD X a fa)(hb:QD X b fb)(hc:QD X c fc)(hm:lastMarks [.LtE,.Lt] [b,c]=false:=by with_unfolding_all rfl):g_ X (.Compare a [.LtE,.Lt] [b,c] pos) (bf (l8 qd jk fa fb fc)):=⟨have ha:=ha.o;have hb:=hb.o;have hc:=hc.o;RV EB Aj (λi j d h=>by cases h;rfl) (λi j d h=>by cases h;rfl) ha hb hc hm⟩
@[simp] def qt (i:Nat)(f:aJ):aJ:=λρ=>if sf ρ[i]? = true then match f ρ with
 | some (.lst es,1,ac)=>match ac[i]? with
  | some (some (.lst ds,1))=>if ds.length+es.length<=1000 then some (.aF,9,ac.set i (some (.lst (ds++es),1)))else none
  | _=>none
 | _=>none
 else none
theorem Gv(h:QE X (.Name x p1) (iH i))(ha:QD X e f)(cf:attributeBase (.Name x p1) "extend" X.env (eval (.Name x p1) X.env)=eval (.Name x p1) X.env:=by rfl)(dJ:((backTo aA (starEach [e] X.env)).all (λx=>!x.1)&&(backToKw aA (keywordEach [] X.env)).all (λx=>x.1.isSome)
   && decide ([e].length+([]:List Keyword).length+(if([]:List Keyword).isEmpty then 0 else 1)<30))=true:=by rfl) (cj:(apos.endLine==aA.line)=true:=by rfl) (hs:starEach [e] X.env=(false,eval e X.env)::starEach [] X.env:=by rfl) (bN:(backTo aA (starEach [] X.env)).any (·.1)=false:=by rfl):QD X (.Call (.Attribute (.Name x p1) "extend" apos) [e] [] aA) (qt i f):=⟨have h:=h.o;have ha:=ha.o;PE.imp (rq Zp PySem.F.slot_list_extend PySem.F.type_list_extend NY h (jf ha k_ hs) cf dJ cj hs bN) λσ H Q ao=>by
 obtain⟨ρ,w,t,r',q,ad,gd,ee,k⟩:=ao;unfold qt at ee;split at ee;next hl=>
  obtain⟨l,gP,us,hq⟩:=gd.cO hl;split at ee;next u7 ac h1=>
   split at ee;next ds e1=>
    split at ee;next hlen=>
     cases ee;refine⟨_,gP,.inl ⟨rfl,us,hq⟩,ρ,w,t,_,_,_,gd,h1,λv H1 w1 F1 g1 aN r1=>?_⟩;obtain⟨l',ws,eY,hH,rs,mk⟩:=g1.mut e1;rw[gP]at eY;cases eY;obtain⟨_,_,rfl,_,rfl,hb,_,rz,_⟩:=r1.inv
     .have z0:=rz.zero;subst z0;have Gw:ah X.K H1 w1 .f 0 u7 _ []:=rz.any g1.wl;obtain⟨m1,m2⟩:=mk _ _ (Gw.app rs);refine⟨l,_,ws,_,rfl,rfl,hH,hb,qc (by rw[<- rs.length,<- Gw.length];exact hlen),?_⟩;exact k .aF _ w1 [] m1 (aN.trans m2) .aF
    .cases ee
   .cases ee
  .cases ee
 .cases ee⟩
end
section
variable {X:Cx}{a b c e:Expr}{es:List Expr}{fa fb fc f:aJ}{ga gb gc:cI}{g:bP}{qa qb:ly}{s:aI}{pos p p1 p2 aA apos:Pos}
@[simp] def vW:aI:=λ_=>none
theorem BQ:jl X st vW:=⟨PS.imp Mu λD σ H ao=>by obtain⟨ρ,w,o,g,ee,k⟩:=ao;cases ee⟩
def mW (c:cI)(b:aI):Nat->aW->Option Out
 | 0,_=>none
 | m+1,ρ=>match c ρ with
  | none=>none
  | some (t,ac)=>if t=true then match b ac with
    | none=>none
    | some (.nx am)=>mW c b m am
    | some (.ct am)=>mW c b m am
    | some (.bk am)=>some (.nx am)
    | some (.rt d q)=>some (.rt d q)
   else some (.nx ac)
def ud (c:cI)(b:aI):aI:=mW c b 1000
theorem yX{body:List Stmt}(hp:PassesOwn (model X.prog X.w) X.A X.env X.xe)(hc:g_ X c gc)(hb:fY X body s):jl X (.While c body [] pos) (ud gc s):=⟨have hc:=hc.o;have hb:=hb.o;PS.imp (MF hp hc hb) λD σ H ao=>by
 obtain⟨ρ,w,o,g,ee,k⟩:=ao;refine⟨λm aT H'=>aT.length=σ.length/\∃ ad w',Good X.K ad aT H' w' 0/\mW gc s m ad=some o/\nT X.K D σ.length H' w' o,⟨1000,rfl,ρ,w,g,ee,k⟩,?_⟩;rintro m aT H' ⟨gP,ad,w',g',e',k'⟩;cases m with
 | zero=>cases e'
 | succ m=>
  unfold mW at e';split at e'
  .cases e'
  next t ac h1=>
   refine⟨ad,w',0,t,ac,g',h1,λH1 w1 g1 aN=>?_⟩;cases t with
   | true=>
    rw[Ql rfl]at e' ⊢;refine⟨λlT H2=>lT.length=σ.length/\∃ am w2,Good X.K am lT H2 w2 0/\mW gc s m am=some o/\nT X.K D σ.length H2 w2 o,λlT H2 n2=>⟨m,Zg m,n2⟩,?_⟩;have nx:∀ {i_:aW},mW gc s m i_=some o->∀ j0 H5 w5,j0.length=aT.length->Good X.K i_ j0 H5 w5 0->Go H1 w1 H5 w5->j0.length=σ.length/\∃ am w2,Good X.K am j0 H5 w2 0/\mW gc s m am=some o/\nT X.K D σ.length H5 w2 o:=λ{i_} e5 j0 H5 w5 l5 g5 iN=>⟨by rw[l5,gP],i_,w5,g5,e5,k'.trans (aN.trans iN)⟩;cases h6:s ac with
    | none=>rw[h6]at e';cases e'
    | some o6=>
     rw[h6]at e';refine⟨ac,w1,o6,g1,h6,?_⟩;cases o6 with
     | nx i_=>exact nx e'
     | ct i_=>exact nx e'
     | bk i_=>
      cases e';exact λj0 H5 w5 l5 g5 iN=>k' j0 H5 w5 (by rw[l5,gP]) g5 (aN.trans iN)
     | rt d q=>
      cases e';exact λv H5 w5 F Bq iN r5=>k' v H5 w5 F Bq (aN.trans iN) r5
   | false=>
    rw[Qt (by decide)]at e' ⊢;cases e';exact k' aT H1 w1 gP g1 aN⟩
@[simp] def yY (n:Nat)(qi:ly)(fe:aJ):aI:=λρ=>match fe ρ with
 | some (d,_,ac)=>match qi ac,ac[n]? with
  | some i,some (some (.lst ds,1))=>match g8 ds.length i with
   | some m=>some (.nx (ac.set n (some (.lst (ds.set m d),1))))
   | none=>none
  | _,_=>none
 | none=>none
theorem Gx(h:QE X (.Name x p1) (iH n))(ha:QQ X a qa)(he:QD X e f)(sk:∀ v,assign (.Subscript (.Name x p1) a p) X.env v=(do
   let ov <- holding [v] (eval (.Name x p1) X.env)
   let iv <- holding [v,ov] (eval a X.env)
   standAt p
   holding [v,ov,iv] (setItem ov iv v)
   release [v,ov,iv] []):=by exact λ_=>rfl) (hs:swapsWithSole [.Subscript (.Name x p1) a p] e pos.line X.env=pure false:=by rfl):jl X (.Assign [.Subscript (.Name x p1) a p] e pos) (yY n qa f):=⟨have h:=h.o;have ha:=ha.o;have he:=he.o;by
 refine PS.imp (zZ he (Eu h ha EZ sk) hs) λD σ H ⟨ρ,w,o,gd,ee,k⟩=>?_;unfold yY at ee;split at ee;next d q0 ac h1=>
  split at ee;next i ds hi er=>
   split at ee;next m hm=>
    cases ee;refine⟨ρ,w,0,d,q0,ac,gd,h1,λv H1 w1 F1 g1 aN r1=>?_⟩;have rv:=r1.drop (o:=.f) (Qf 0);have gg:=g1.drop (t':=0);obtain⟨l,vs,m1,m2,m3,mk⟩:=gg.mut er;refine⟨_,m1,ac,cH 0 w1,0,i,gg,hi,l,vs,i,m,rfl,rfl,m2,?_,?_⟩
    .rw[<- m3.length];exact hm
    .obtain⟨n1,n2⟩:=mk _ _ (m3.sg rv m);exact k _ _ _ rfl n1 ((aN.drop gd.wt).trans n2)
   .cases ee
  .cases ee
 .cases ee⟩
def RX (K:PySem.W.Frag):R2:=λx y H Q=>∃ l b xs zs,x=.ref l/\y=.ref b/\cQ K H l xs/\cQ K H b zs/\xs.length+zs.length<=sizeLine/\∀ p,H p=none->Q (.ref p) (upd H p (.lst (xs++zs)))
theorem RY:cU X (binaryOp .Add) (RX X.K):=by
 intro Uf s σ H x y v u Q I rx ry h;obtain⟨l,b,xs,zs,rfl,rfl,hH,hB,hz,q⟩:=h;cases rx;cases ry;obtain⟨ar,r,pl,z⟩:=I.list hH;obtain⟨g7,r2,RZ,z2⟩:=I.list hB;obtain⟨⟨cls,dd,data,sl⟩,n,ho,hc,_,hd⟩:=pl;obtain⟨⟨An,x8,data2,x9⟩,n2,rj,ku,_,hd2⟩:=RZ;simp only at hc hd ku hd2;subst hc hd ku hd2;have l1:=r.length;have l2:=r2.length;refine Yx ⟨_,ho,rfl⟩ ⟨_,rj,rfl⟩ noFill_list_add seq_list_add PySem.F.slot_list_add PySem.F.entry_list_add (PySem.F.args_list_add_2 _ _) (list_addW l b ar.toArray g7.toArray n n2 dd x8 sl x9 (by rw[Qk,Qk,<- l1,<- l2];exact hz)) ⟨ho,rj,?_⟩;have e:ar.toArray++g7.toArray=(ar++g7).toArray:=by simp
 rw[e];exact⟨.ref _,_,I.vj (t':=s.toks) (r.append r2) (by rw[Qj];omega),rfl,q _ I.fresh⟩
@[simp] def o_ (fa fb:aJ):aJ:=λρ=>match fa ρ with
 | some (.lst ds,_,ac)=>match fb ac with
  | some (.lst es,_,am)=>if ds.length+es.length<=1000 then some (.lst (ds++es),1,am)else none
  | _=>none
 | _=>none
theorem Gy(ha:QD X a fa)(hb:QD X b fb):QD X (.BinOp a .Add b pos) (o_ fa fb):=⟨have ha:=ha.o;have hb:=hb.o;PE.imp (oz RY ha hb) λσ H Q ao=>by
 obtain⟨ρ,w,t,r',q,ad,gd,ee,k⟩:=ao;unfold o_ at ee;split at ee;next ds q1 ac h1=>
  split at ee;next es q2 am h2=>
   split at ee;next hl=>
    cases ee;refine p9 gd h1 h2 λu u' H2 w2 F1 F2 g2 go r1 r2=>?_;have sy:=r1.drop (o:=.f) (Qf t);have yR:=r2.drop (o:=.f) (ZS t);have gg:=g2.drop (t':=t);have qq:=go.drop gd.wt;obtain⟨p1,vs,rfl,o9,s1⟩:=sy.eX;obtain⟨p2,us,rfl,yS,s2⟩:=yR.eX;refine⟨p1,p2,vs,us,rfl,rfl,o9,yS,qc (by rw[<- s1.length,<- s2.length];exact hl),λp hp=>?_⟩;obtain⟨a1,a2,a3⟩:=oO gg hp (s2.app s1);exact k _ _ _ _ a1 (qq.trans a2) a3
   .cases ee
  .cases ee
 .cases ee⟩
end
section
variable {X:Cx}{a b c e:Expr}{es:List Expr}{fa fb fc f:aJ}{ga gb gc:cI}{g:bP}{qa qb:ly}{s:aI}{pos p p1 p2 p3 aA apos:Pos}
@[simp] def qu (n:Nat)(c:Int):ly:=λρ=>match ρ[n]? with
 | some (some (.tup es,_))=>match L2.dz es c with
  | some d=>match gQ d with
   | some m=>some (Int.ofNat m)
   | none=>none
  | none=>none
 | _=>none
theorem Gz{n j:Nat}{c:Int}(hm:X.mg "len" = none)(h:QE X (.Name x p1) (iH n))(hg:Gl X "len":=by rfl)(hs:tO (.Constant (.int c) j p2):=by exact λ_ _=>rfl)(he:starEach [.Subscript (.Name x p1) (.Constant (.int c) j p2) p3] X.env=(false,eval (.Subscript (.Name x p1) (.Constant (.int c) j p2) p3) X.env)::starEach [] X.env:=by rfl)(cB:(backTo pos (starEach [] X.env)).any (·.1)=false:=by rfl):QQ X (.Call (.Name "len" p) [.Subscript (.Name x p1) (.Constant (.int c) j p2) p3] [] pos) (qu n c):=⟨have h:=h.o;PE.imp (nN Ar hg hm YW (jf (vh vi h En hs) k_ he) (by decide) (by decide) he cB) λσ H Q ao=>by
 obtain⟨ρ,w,t,i,gd,ee,k⟩:=ao;unfold qu at ee;split at ee;next es q e0=>
  split at ee;next d hd=>
   split at ee;next m r_=>
    cases ee;obtain⟨v,F,h1,h2⟩:=gd.slot n _ _ e0;obtain⟨p0,vs,rfl,hq,rs⟩:=h2.d_;obtain⟨u,hu,ru⟩:=rs.dz hd;obtain⟨p',ys,rfl,nP,hl⟩:=ru.len r_;exact⟨_,h1,.inr (.inl ⟨p0,vs,c,_,rfl,rfl,hq,hu,p',ys,rfl,nP,by rw[hl];exact k⟩)⟩
   .cases ee
  .cases ee
 .cases ee⟩
@[simp] def vX (k l:Str)(qa qb:ly):aJ:=λρ=>match qa ρ,qb ρ with
 | some i,some j=>some (.gN [k,l] [.int i,.int j],9,ρ)
 | _,_=>none
theorem R0{H1:Hp}{p:Addr}{ks:List Str}{w1:Wn}(g:Good K ρ σ H1 w1 t)(hp:H1 p=none)(r:ah K H1 w1 .f 0 ds vs []) :
  Good K ρ σ (upd H1 p (.dK (lU ks vs))) w1 (t+1)/\Go H1 w1 (upd H1 p (.dK (lU ks vs))) w1/\Rep K (upd H1 p (.dK (lU ks vs))) w1 (.t t) 9 (.gN ks ds) (.ref p) []:=by
 have ne:∀ a x,H1 a=some x->a≠p:=λa x e=>iF e hp;have nw:∀ a o,w1 a=some o->a≠p:=λa o e=>by obtain⟨vs,q⟩:=g.wl a o e;exact ne a _ q
 have st:dk H1 w1 (upd H1 p (.dK (lU ks vs))) w1:=λa x e n=>⟨sm (by rw[bw (ne a x e)];exact e),n⟩;refine⟨⟨⟨λa o e=>?_,g.wl.tb.upd rfl (.inl hp)⟩,g.ws,λa i e=>Zh (g.wt a i e),g.len,λi d q e=>?_⟩,⟨st,λa o e _=>⟨bw (nw a o e),e⟩⟩,?_⟩
 .obtain⟨us,q⟩:=g.wl a o e;exact⟨us,by rw[bw (nw a o e)];exact q⟩
 .obtain⟨v,F,h1,h2⟩:=g.slot i d q e;exact⟨v,F,h1,Rep.go g.wl st h2 λa m=>⟨bw (nw a _ (h2.aM a m)),h2.aM a m⟩⟩
 .exact .gN gM (by
   cases q:w1 p with
   | none=>rfl
   | some o=>exact absurd rfl (nw p o q)) (ah.go g.wl st r nM)
theorem R3{k l:Str}{j1 j2:Nat}(R5:k≠l)(ha:QQ X a qa)(hb:QQ X b qb):QD X (.Dict [some (.Constant (.str k) j1 p1),some (.Constant (.str l) j2 p2)] [a,b] pos) (vX k l qa qb):=⟨have ha:=ha.o;have hb:=hb.o;PE.imp (Oj (Ff xT ha (Ff xT hb Oh)) rfl rfl (by simp) (by show 2<=15;decide)) λσ H Q ao=>by
 obtain⟨ρ,w,t,r',q,ad,gd,ee,kk⟩:=ao;unfold vX at ee;split at ee;next i j hi hj=>
  cases ee;intro p0 hp;have ne:∀ a x,H a=some x->upd H p0 (.dK []) a=some x:=λa x e=>by rw[bw (iF e hp)];exact e
  obtain⟨g1,aN⟩:=gd.more ⟨ne,λt=>t.upd rfl (.inl hp)⟩;refine⟨ρ,w,t,i,g1,hi,ρ,w,t,j,g1,hj,gM,[(.inr k,.int i),(.inr l,.int j)],rfl,by show 2<=15;decide,?_⟩;have e:rC [] [((.inr k:Key),V.int i),(.inr l,.int j)]=lU [k,l] [.int i,.int j]:=by have BR:¬ ((Sum.inr k:Key)=.inr l):=λz=>R5 (Va z);simp[rC,oG,lU,BR]
  rw[e,LP];obtain⟨a1,a2,a3⟩:=R0 (ks:=[k,l]) (ds:=[.int i,.int j]) (vs:=[.int i,.int j]) gd hp (.cons (F:=[]) (G:=[]) (.int i) (.cons (F:=[]) (G:=[]) (.int j) .nil nM) nM);exact kk _ _ _ _ a1 a2 a3
 .cases ee⟩
def jL:List Str->List D->Str->Option D
 | x::ks,d::ds,k=>if x=k then some d else jL ks ds k
 | _,_,_=>none
@[simp] def BS (fo fe ff:aJ):aJ:=λρ=>match fo ρ with
 | some (.gN ks ds,_,ac)=>match fe ac with
  | some (.str k,_,am)=>match ff am with
   | some (z,_,fO)=>some ((jL ks ds k).getD z,gj ((jL ks ds k).getD z),fO)
   | none=>none
  | _=>none
 | _=>none
theorem GA(k:Str):∀ {ks:List Str} {ds:List D} {vs:List V},ah K H w o 0 ds vs []->
  (∀ d,jL ks ds k=some d->∃ v,kA (lU ks vs) (.inr k)=some v/\Rep K H w o 0 d v [])/\(jL ks ds k=none->kA (lU ks vs) (.inr k)=none)
 | [],ds,vs,r=>by refine⟨λd h=>?_,λ_=>rfl⟩;unfold jL at h;cases h
 | x::ks,ds,vs,r=>by
  generalize hF:([]:List Addr)=F at r;cases r with
  | nil=>exact⟨(λd h=>by unfold jL at h;cases h),λ_=>rfl⟩
  | @cons _ d' v' cJ eN F' G' r s _=>
   have h1:F'=[]:=r.zero;have h2:G'=[]:=s.zero;subst h1 h2;have ih:=GA k (ks:=ks) s;by_cases hx:x=k
   .subst hx;refine⟨λd h=>?_,λh=>?_⟩
    .unfold jL at h;rw[Ql rfl]at h;cases h;exact⟨v',AF rfl,r⟩
    .unfold jL at h;rw[Ql rfl]at h;cases h
   .have hk:¬ ((Sum.inr x:Key)=.inr k):=λz=>hx (Va z);have e:kA (lU (x::ks) (v'::eN)) (.inr k)=kA (lU ks eN) (.inr k):=AG hk;rw[e];unfold jL;rw[Qt hx];exact ih
theorem R6{k:Nat}(hr:bc k X.A)(ho:QD X a fa)(he:QD X b fb)(hf:QD X c fc)(cf:attributeBase a "get" X.env (eval a X.env)=eval a X.env:=by rfl)(dJ:((backTo aA (starEach [b,c] X.env)).all (λx=>!x.1)&&(backToKw aA (keywordEach [] X.env)).all (λx=>x.1.isSome)
   && decide (([b,c]:List Expr).length+([]:List Keyword).length+(if([]:List Keyword).isEmpty then 0 else 1)<30))=true:=by rfl) (cj:(apos.endLine==aA.line)=true:=by rfl) (R9:backTo aA (starEach [b,c] X.env)=[(false,eval b X.env),(false,eval c X.env)]:=by rfl):QD X (.Call (.Attribute a "get" apos) [b,c] [] aA) (BS fa fb fc):=⟨have ho:=ho.o;have he:=he.o;have hf:=hf.o;PE.imp (Ou (Oa hr) ho he hf ⟨cf,dJ,cj,R9⟩) λσ H Q ao=>by
 obtain⟨ρ,w,t,r',q,ad,gd,ee,kk⟩:=ao;unfold BS at ee;split at ee;next ks ds q1 ac h1=>
  split at ee;next k0 q2 am h2=>
   split at ee;next z q3 fO h3=>
    cases ee;refine⟨ρ,w,t,_,_,_,gd,h1,λx H1 w1 F1 g1 aN r1=>?_⟩;obtain⟨a0,Ol,rfl,rfl,vY,_⟩:=r1.inv
    .refine⟨a0,rfl,.inl ⟨_,.inl vY⟩,ac,w1,t+1,_,_,_,g1,h2,λy H2 w2 F2 g2 bC r2=>⟨am,w2,t+2,_,_,_,g2,h3,λzv H3 w3 F3 g3 iO r3=>?_⟩⟩;have hy:y=kV (.inr k0):=r2.inv.1;subst hy;have R_:=(r1.gone g1.wl (bC.trans iO)).drop (o:=.t t) (Qf t);have rz:=r3.drop (o:=.t t) (t':=t) (by omega);have go:=(aN.trans bC).trans iO;obtain⟨_,vs,e,_,hH,rs⟩:=R_.inv;cases e
     .obtain⟨v1,v2⟩:=GA (ks:=ks) k0 rs;refine⟨_,vo.k hH,?_⟩;cases hg:jL ks ds k0 with
      | none=>
       rw[v2 hg];rw[hg]at kk;exact oM kk gd g3 go rz.kB
      | some d=>
       obtain⟨v,ev,rv⟩:=v1 d hg;rw[ev];rw[hg]at kk;exact oM kk gd g3 go rv.kB
   .cases ee
  .cases ee
 .cases ee⟩
theorem Sa{bI:List Expr}{env:Env}{ks:List (Option Expr)}{vs:List Expr}:starEach (.Dict ks vs pos::bI) env=(false,eval (.Dict ks vs pos) env)::starEach bI env:=by simp only[starEach]
end
theorem Sb{prog:Program}{w:World}{A:Around}(hh:A.handled=none)(it p:Addr)(cG:p≠it)(items:Array Value) :
  Draws prog w A it [it,p] items.size (λi v=>items[i]? = some v) (λi h=>h.IsTupleIter it p i/\h.IsTuple p items) where
 live:=λ_ _ st=>by obtain⟨⟨o,ho,_⟩,_⟩:=st;exact⟨o,ho⟩
 frame:=λ_ _ _ st hk=>by obtain⟨a,⟨o,e,r⟩⟩:=st;exact⟨a.at λo e=>hk it (by simp) o e,⟨o,hk p (by simp) o e,r⟩⟩
 item:=λi s Q E hi st hQ=>by refine Rk st.1 st.2 (v:=items[i]) (by simp[hi]) λh' BU nP=>?_;exact hQ _ h' s.toks (by simp[hi]) ⟨BU,st.2.extBut nP.extBut cG⟩ nP
 done:=λs Q E st hE=>Rl hh st.1 st.2 (by simp) hE
section
variable {prog:Program}{w:World}{A:Around}{E:Tk}{s:Shared}
theorem Sd{xs:Array Value}(t1:s.heap.IsTuple p xs)
  (k:∀ h',IsEnum h' (s.heap.objs.size+1) s.heap.objs.size 0 .none->h'.IsTupleIter s.heap.objs.size p 0->h'.objs.size=s.heap.objs.size+2->
    (∀ b o,s.heap.get? b=some o->h'.get? b=some o)->Q (.ref (s.heap.objs.size+1)) { s with heap:=h' }) :
  wpAny (model prog w) A (call (.type "enumerate") [.ref p]) Q E s:=by
 have mt:Meets (Builtin.«enumerate.__new__» ⟨[.type "enumerate",.ref p],[]⟩) (λ_ R s'=>s'=s /\
   R (.ok (.ret (.ref (s.heap.push { cls:=.type "tuple_iterator",data:=.fields #[.ref p,.int 0 0] }).objs.size)))
    { s with heap:=(s.heap.push { cls:=.type "tuple_iterator",data:=.fields #[.ref p,.int 0 0] }).push { cls:=.type "enumerate",data:=.fields #[.none,.bool false,.ref s.heap.objs.size,rawInt 0,.none,.none] } }):=.of_wp λprog w A R s' h=>by
  obtain⟨rfl,h⟩:=h;have da:=sub_enumerate;obtain⟨hp,gn,dr,tk,os⟩:=s';have q1:Heap.IsTuple (Shared.heap ⟨hp,gn,dr,tk,os⟩) p xs:=t1;wp_walk using ZV q1
  refine wpAny_stack_any λst=>Qe ?_;split;next c _ _ _ _ _=>
   cases (c==Value.type "enumerate")
   .wp_walk using ZV q1
    exact⟨_,rfl,h⟩
   .wp_walk using ZV q1
    exact⟨_,rfl,h⟩
  .wp_walk using ZV q1
   exact⟨_,rfl,h⟩
 refine callType_new F.called_enumerate (by decide) (F.typeCall_enumerate_1 _) (F.newCall_enumerate_1 _) (λobj=>F.args_object_init_2 obj _) F.entry_enumerate_new mt ⟨rfl,?_⟩;have hz:(s.heap.push { cls:=.type "tuple_iterator",data:=.fields #[.ref p,.int 0 0] }).objs.size=s.heap.objs.size+1:=Zu ..;show _/\_;rw[hz];have he:IsEnum ((s.heap.push { cls:=.type "tuple_iterator",data:=.fields #[.ref p,.int 0 0] }).push
   { cls:=.type "enumerate",data:=.fields #[.none,.bool false,.ref s.heap.objs.size,rawInt 0,.none,.none] }) (s.heap.objs.size+1) s.heap.objs.size 0 .none:=by
  have:=Qv (s.heap.push { cls:=.type "tuple_iterator",data:=.fields #[.ref p,.int 0 0] })
   (o:={ cls:=.type "enumerate",data:=.fields #[.none,.bool false,.ref s.heap.objs.size,rawInt 0,.none,.none] }) rfl
  rw[hz]at this;exact this
 exact⟨⟨_,he,rfl⟩,k _ he ⟨_,Qd _ (Qv _ rfl),rfl,rfl⟩ (by rw[Zu,hz]) λb o x=>Qd _ (Qd _ x)⟩
end
structure Src (P:Program) (w:World) (K:PySem.W.Frag) (it p:Addr) (Sq:Hp->List V->Prop) (tn:Nat->Heap->Prop):Prop where
 keep:∀ i h h',tn i h->(∀ o,h.get? it=some o->h'.get? it=some o)->tn i h'
 obj:∀ i h,tn i h->∃ o vs,h.get? it=some o/\o.data=.fields vs
 draw:∀ (X:Cx),X.prog=P->X.w=w->X.K=K->X.calm=true->∀ (Uf:List (Addr×Obj)) (s:Shared) (σ:St) (H:Hp) (xs:List V),Inv X Uf σ H s->Sq H xs->∃ (us:List Value) (St:Nat->Heap->Prop),bo xs us /\
  Draws P w X.A.in1 it [it,p] us.length (λi v=>us[i]? = some v) St/\(∀ i,tn i s.heap->St i s.heap)/\(∀ i h,St i h->tn i h)/\∀ ys,Sq H ys->ys=xs
theorem Se{w:World}(cG:p≠it):Src P w K it p (λH xs=>cQ K H p xs) (λi h=>h.IsListIter it p i) where
 keep:=λi h h' st k=>st.at k
 obj:=λi h st=>by obtain⟨o,e,c,d⟩:=st;exact⟨o,_,e,d⟩
 draw:=λX hP hw hK hc Uf s σ H xs I hq=>by subst hP hw hK;obtain⟨ar,rv,pl,_⟩:=I.list hq;have D:=Draws.list (prog:=X.prog) (w:=X.w) (A:=X.A.in1) (I.ok.hd hc) it p cG ar.toArray;rw[Qk]at D;exact⟨ar,(λi h=>h.IsListIter it p i/\h.IsList p ar.toArray),rv,(by simpa using D),λi st=>⟨st,pl.isList⟩,λi h st=>st.1,λys hy=>I.jd hy hq⟩
theorem Sf{w:World}(cG:p≠it):Src P w K it p (λH xs=>du K H p xs) (λi h=>h.IsTupleIter it p i) where
 keep:=λi h h' st k=>st.at k
 obj:=λi h st=>by obtain⟨o,e,c,d⟩:=st;exact⟨o,_,e,d⟩
 draw:=λX hP hw hK hc Uf s σ H xs I hq=>by subst hP hw hK;obtain⟨ar,rv,pl,_⟩:=I.tuple hq;have D:=Sb (prog:=X.prog) (w:=X.w) (A:=X.A.in1) (I.ok.hd hc) it p cG ar.toArray;rw[Qk]at D;exact⟨ar,(λi h=>h.IsTupleIter it p i/\h.IsTuple p ar.toArray),rv,(by simpa using D),λi st=>⟨st,pl⟩,λi h st=>st.1,λys hy=>I.iq hy hq⟩
def vZ (Sq:Hp->List V->Prop):It:=
 ⟨λi H=>∃ xs x,Sq H xs/\xs[i]? = some x,
  λi H v H'=>∃ T x,v=.ref T/\H T=none/\(∀ xs,Sq H xs->xs[i]? = some x)/\H'=upd H T (.tup [.int (Int.ofNat i),x]),
  λi H=>∃ xs,Sq H xs/\xs.length=i⟩
theorem Sg{w:World}{elts:List Expr}{kt:Nat}{tp:Pos}{e:Addr}{tn:Nat->Heap->Prop}(S:Src P w K it p Sq tn)(cG:e≠it)(hp:e≠p) :
  Turn P w K (.Tuple elts kt tp) (vZ Sq) [e,it] e (λi h=>(∃ old,IsEnum h e it i old)/\tn i h) where
 mem:=by simp
 obj:=λi h st b hb=>by
  obtain⟨⟨old,he⟩,st⟩:=st;simp only[Qr,QK,YY]at hb;rcases hb with rfl|rfl
  .exact⟨_,he,λv e=>nomatch e⟩
  .obtain⟨o,vs,e,d⟩:=S.obj i h st;exact⟨o,e,λv z=>by rw[d]at z;cases z⟩
 keep:=λi h h' st k=>by obtain⟨⟨old,he⟩,st⟩:=st;exact⟨⟨old,k e (by simp) _ he⟩,S.keep i h h' st λo z=>k it (by simp) o z⟩
 item:=by
  intro X hP hw hK hc i Uf s σ H E I hf st hg;obtain⟨⟨old,he⟩,st⟩:=st;obtain⟨xs,x,hq,hx⟩:=hg;obtain⟨us,St,rv,D,s1,s2,inj⟩:=S.draw X hP hw hK hc Uf s σ H xs I hq;obtain⟨u,hu,ru⟩:=rv.get hx;have dA:i<us.length:=(Qq.mp hu).1;refine wpAny_pyNext_enum_itemD D he (s1 i st) dA cG (by simp[cG,hp]) λu' g tk GB ho nP hT hsz hk=>?_;have eu:u'=u:=by rw[hu]at GB;exact(QJ GB).symm
  subst eu;refine⟨_,rfl,wpAny_letOwnedTupleGo_enum (s:={ s with heap:=g,toks:=tk+1 }) ho λg' Si sb=>?_⟩;have BV:Heap.SameBut e g g':=sb;have fr:H s.heap.objs.size=none:=I.aP.fresh (Qf _);have ri:bT (.int (Int.ofNat i)) (.int i tk):=⟨tk,rfl⟩;have I1:Inv X Uf σ (upd H s.heap.objs.size (.tup [.int (Int.ofNat i),x])) { s with heap:=s.heap.push { cls:=.type "tuple",data:=.seq #[.int i tk,u'] } }:=
   I.laid (t':=s.toks) (λb q e=>Qd _ e) (Qf _) (show dh X.prog X.w _ _ _ (.tup _)from⟨(by show 2<=sizeLine;decide),[.int i tk,u'],.cons ri (.cons ru .nil),kY.new _ _⟩)
  have lt:∀ b ∈ [e,it],b<s.heap.objs.size:=λb hb=>by
   simp only[Qr,QK,YY]at hb;rcases hb with rfl|rfl
   .exact Qn he
   .obtain⟨o,_,e,_⟩:=S.obj i _ st;exact Qn e
  have hn:∀ b ∈ [e,it],upd H s.heap.objs.size (.tup [.int (Int.ofNat i),x]) b=none:=λb hb=>by rw[bw (QH (lt b hb))];exact(hf b hb).1
  have I2:Inv X Uf σ (upd H s.heap.objs.size (.tup [.int (Int.ofNat i),x])) { s with heap:=g',toks:=tk+1 }:=Rm (s:={ s with heap:=s.heap.push { cls:=.type "tuple",data:=.seq #[.int i tk,u'] } }) (t':=tk+1) (ch:=[e,it]) I1 (λb q nb z=>by
   have b1:b≠e:=λh=>nb (by simp[h]);have b2:b≠it:=λh=>nb (by simp[h]);rcases Heap.get?_push_cases z with⟨rfl,rfl⟩|z'
   .exact BV.extBut _ _ b1 hT
   .exact BV.extBut _ _ b1 (hk b q b1 b2 z')) λb hb=>by obtain⟨f0,f1,f2,f3,f4,f5⟩:=hf b hb;exact⟨hn b hb,f1,f2,f3,f4,f5⟩
  refine⟨.ref s.heap.objs.size,_,I2,rfl,⟨s.heap.objs.size,x,rfl,fr,λzs hz=>?_,rfl⟩,⟨⟨_,Si⟩,?_⟩,hn⟩
  .rw[inj zs hz];exact hx
  .exact S.keep _ _ _ (s2 _ _ nP) λo z=>BV.extBut _ _ (Jn cG) z
 done:=by
  intro X hP hw hK hc i Uf s σ H E I hf st hg;obtain⟨⟨old,he⟩,st⟩:=st;obtain⟨xs,hq,hx⟩:=hg;obtain⟨us,St,rv,D,s1,s2,inj⟩:=S.draw X hP hw hK hc Uf s σ H xs I hq;have hl:us.length=i:=by rw[<- rv.length];exact hx
  subst hl;refine wpAny_pyNext_enum_endD D he (s1 _ st) λg kp=>⟨rfl,?_⟩;obtain⟨f0,f1,f2,f3,f4,f5⟩:=hf it (by simp);exact I.turned (t':=s.toks) (λb o hb z=>kp b o hb z) f0 f1 f3 f4 f5
 self:=λ_ _ _ _ _ st h=>by obtain⟨⟨old,he⟩,_⟩:=st;exact wpAny_pyIter_enum he h
section
variable {X:Cx}{a b c e:Expr}{es elts:List Expr}{fa fb fc f:aJ}{g:bP}{pos p p1 p2 tp:Pos}{kt:Nat}
def Sj (K:PySem.W.Frag)(ta:TA):TI:=λσ H R=>ta σ H λvs H1=>∃ p,vs=[.ref p]/\(((∃ xs,cQ K H1 p xs)/\R (vZ λH xs=>cQ K H p xs) H1)\/((∃ xs,du K H1 p xs)/\R (vZ λH xs=>du K H p xs) H1))
theorem Sk{ta:TA}(hg:Gl X "enumerate")(hm:X.mg "enumerate" = none)(ha:PA X [a] ta)(hs:starEach [a] X.env=[(false,eval a X.env)]:=by rfl) :
  PI X (.Tuple elts kt tp) (.Call (.Name "enumerate" p) [a] [] pos) (Sj X.K ta):=by
 intro Uf s σ H R I h;refine Call_ (tL I hg hm boot_enumerate (ZG (bg (ha pos Uf s σ H _ I h) λus s1 ⟨vs,H1,I1,r1,q1⟩=>?_) hs rfl));obtain⟨q,ee,hq⟩:=q1;subst ee;cases r1 with
 | cons r rr=>
  cases rr;cases r;have ne1:s1.heap.objs.size+1≠s1.heap.objs.size:=Nat.succ_ne_self _;have fin:∀ {g:Heap} {Sq:Hp->List V->Prop} {tn:Nat->Heap->Prop},q<s1.heap.objs.size->Src X.prog X.w X.K s1.heap.objs.size q Sq tn->IsEnum g (s1.heap.objs.size+1) s1.heap.objs.size 0 .none->tn 0 g->(∀ b o,s1.heap.get? b=some o->g.get? b=some o)->R (vZ Sq) H1->
    wpAny (model X.prog X.w) X.A (pyIter (.ref (s1.heap.objs.size+1))) (z_ X Uf σ (.Tuple elts kt tp) R) X.xe { s1 with heap:=g }:=λ{g Sq tn} lq S he ht kp hR=>by
   have ne2:s1.heap.objs.size+1≠q:=Y4 (Zh lq);refine wpAny_pyIter_enum he ⟨s1.heap.objs.size+1,[s1.heap.objs.size+1,s1.heap.objs.size],_,_,H1,rfl,I1.kept (t':=s1.toks) kp,Sg S ne1 ne2,⟨⟨_,he⟩,ht⟩,λb hb=>?_,hR⟩;have GC:s1.heap.objs.size<=b:=by
    simp only[Qr,QK,YY]at hb;rcases hb with rfl|rfl
    .exact Jz _ _
    .exact Qf _
   exact I1.ou GC (I1.aP.fresh GC)
  rcases hq with⟨⟨xs,hx⟩,hR⟩|⟨⟨xs,hx⟩,hR⟩
  .obtain⟨ar,rv,pl,_⟩:=I1.list hx;have lq:q<s1.heap.objs.size:=by obtain⟨_,e,_⟩:=pl.isList;exact Qn e
   exact call_enumerate_list pl.isList λg he hi _ kp=>fin lq (Se (QH lq)) he hi kp hR
  .obtain⟨ar,rv,pl,_⟩:=I1.tuple hx;have lq:q<s1.heap.objs.size:=by obtain⟨_,e,_⟩:=pl;exact Qn e
   exact Sd (show s1.heap.IsTuple q ar.toArray from pl) λg he hi _ kp=>fin lq (Sf (QH lq)) he hi kp hR
def nX (ds:List D):List D:=ds.zipIdx.map λx=>.tup [.int (Int.ofNat x.2),x.1]
theorem yZ(ds:List D):(nX ds).length=ds.length:=by simp[nX]
theorem GD(ds:List D)(i:Nat):(nX ds)[i]? = (ds[i]?).map λd=>.tup [.int (Int.ofNat i),d]:=by
 simp only[nX,Qw,YZ,Y0];cases ds[i]? with
 | none=>rfl
 | some d=>simp
@[simp] def v5 (g:bP):jZ:=λρ=>match g ρ with
 | some ([.lst ds],ac)=>if ds.length<=1000 then some (nX ds,ac)else none
 | some ([.tup ds],ac)=>if ds.length<=1000 then some (nX ds,ac)else none
 | _=>none
theorem It.enum{P:Hp->Wn->Prop}(hl:ds.length=vs.length)(sq:∀ H w,P H w->Sq H vs/\ah K H w .f 0 ds vs [])(ps:∀ H w H' w',P H w->WL K w H->dk H w H' w'->P H' w'):mH K (vZ Sq) (nX ds) P:=by
 refine⟨λi H w p hi=>⟨vs,vs[i]'(by rw[yZ]at hi;omega),(sq H w p).1,by simp⟩,λi H w x H' d p wl hd y=>?_,λH w p=>⟨vs,(sq H w p).1,by rw[yZ];exact hl.symm⟩,ps⟩;obtain⟨T,v,rfl,hT,hv,rfl⟩:=y;obtain⟨q1,r1⟩:=sq H w p;rw[GD]at hd;cases hz:ds[i]? with
 | none=>rw[hz]at hd;cases hd
 | some d0=>
  rw[hz]at hd;cases hd;obtain⟨v',Sl,rv⟩:=r1.get hz;have ev:v'=v:=by have:=hv vs q1;rw[Sl]at this;exact QJ this
  subst ev;have mo:∀ a o,H a=some o->upd H T (.tup [.int (Int.ofNat i),v']) a=some o:=λa o e=>by rw[bw (iF e hT)];exact e
  have st:dk H w (upd H T (.tup [.int (Int.ofNat i),v'])) w:=λa x e n=>⟨sm (mo a x e),n⟩;exact⟨⟨mo,λt=>t.upd rfl (.inl hT)⟩,.tup gM (.cons (F:=[]) (G:=[]) (.int _) (.cons (F:=[]) (G:=[]) (Rep.mJ rv wl st) .nil nM) nM),ps _ _ _ _ p wl st⟩
theorem So(hm:X.mg "enumerate" = none)(ha:ft X [a] g)(hg:Gl X "enumerate":=by rfl)(hs:starEach [a] X.env=[(false,eval a X.env)]:=by rfl):t6 X (.Tuple elts kt tp) (.Call (.Name "enumerate" p) [a] [] pos) (v5 g):=⟨have ha:=ha.o;PI.imp (Sk hg hm ha hs) λσ H R ao=>by
 obtain⟨ρ,w,t,ds,ad,gd,ee,k⟩:=ao;unfold v5 at ee;split at ee;next d1 ac h1=>
  split at ee;next hl=>
   cases ee;refine⟨ρ,w,t,_,_,gd,h1,λvs H1 w1 g1 aN r1=>?_⟩;obtain⟨v,rfl,rv⟩:=one r1;have hz:(nX d1).length<sizeLine:=by rw[yZ];exact pW hl
   cases rv with
   | kl h r=>exact⟨_,rfl,.inl ⟨⟨_,h.sq⟩,k _ _ H1 w1 g1 aN (It.enum (P:=λH w=>(KL X.K _ _\/False)/\ah X.K H w .f 0 d1 _ []) r.length (λH w p=>⟨p.1.elim (λz=>z.sq) λz=>z.elim,p.2⟩) λH w H' w' p wl st=>⟨p.1,ah.go wl st p.2 nM⟩) ⟨.inl h,r⟩ hz⟩⟩
   | shr h n r=>exact⟨_,rfl,.inl ⟨⟨_,.inl h⟩,k _ _ H1 w1 g1 aN (It.enum (P:=λH w=>(Rd H _ (.lst _)/\w _=none)/\ah X.K H w .f 0 d1 _ []) r.length (λH w p=>⟨.inl p.1.1,p.2⟩) λH w H' w' p wl st=>⟨yk.go st p.1.2 p.1.1,ah.go wl st p.2 nM⟩) ⟨⟨h,n⟩,r⟩ hz⟩⟩
  .cases ee
 next d1 ac h1=>
  split at ee;next hl=>
   cases ee;refine⟨ρ,w,t,_,_,gd,h1,λvs H1 w1 g1 aN r1=>?_⟩;obtain⟨v,rfl,rv⟩:=one r1;have hz:(nX d1).length<sizeLine:=by rw[yZ];exact pW hl
   obtain⟨p1,as,rfl,q1,s1⟩:=rv.d_;exact⟨p1,rfl,.inr ⟨⟨_,q1⟩,k _ _ H1 w1 g1 aN (It.enum (P:=λH w=>du X.K H p1 as/\ah X.K H w .f 0 d1 as []) s1.length (λH w p=>p) λH w H' w' p wl st=>⟨du.go wl st p.1,ah.go wl st p.2 nM⟩) ⟨q1,s1⟩ hz⟩⟩
  .cases ee
 .cases ee⟩
end
end L3
namespace L3
open PySem PySem.Spec PyProof.Rows PySem.W L2
variable {A:Around}{C:Addr}{E:Tk}{H:Hp}{K:PySem.W.Frag}{M:Model}{P:Program}{h h':Heap}{i t:Nat}{pos:Pos}{w:World}{x:Str}{ρ:aW}{σ:St}
theorem BW{a:Addr}{o:HO}(x:dh P w H h a o):∃ ob,h.get? a=some ob:=by
 cases o with
 | lst xs=>obtain⟨_,_,_,_,e⟩:=x;exact⟨_,e⟩
 | tup xs=>obtain⟨_,_,_,o,e,_⟩:=x;exact⟨_,e⟩
 | dK aG=>obtain⟨_,_,_,_,o,_,_,e,_⟩:=x;exact⟨_,e⟩
 | dT aG=>obtain⟨_,_,_,_,o,_,_,e,_⟩:=x;exact⟨_,e⟩
 | set S n=>obtain⟨o,_,_,_,e,_⟩:=x;exact⟨_,e⟩
 | ins C dx fs=>obtain⟨_,_,_,e,_⟩:=x;exact⟨_,e⟩
 | own y=>obtain⟨_,e⟩:=x;exact⟨_,e⟩
 | xd fs=>obtain⟨_,⟨_,_,_,e,_⟩,_⟩:=x;exact⟨_,e⟩
 | lR lo hi=>obtain⟨_,_,_,e⟩:=x;exact⟨_,e⟩
 | fM ob u=>obtain⟨e,_⟩:=x;exact⟨_,e⟩
 | jE ps=>exact⟨_,(show h.get? a=some _ from x)⟩
 | met f y=>exact⟨_,(show h.get? a=some _ from x)⟩
 | ext φ=>obtain⟨_,⟨_,e⟩,_⟩:=x;exact⟨_,e⟩
theorem BX(x:di P w H h)(k:∀ b u o,H b=some u->h.get? b=some o->h'.get? b=some o):di P w H h':=λb u e=>
 (x b u e).fT (λc o hc q=>by
  rcases hc with z|z
  .rw[z]at q ⊢;exact k b u o e q
  .exact k c _ o z q) (λ_ q=>q) λ_ _ q=>q
structure pb (P:Program) (w:World) (outer:List Env) (H:Hp) (s:Shared) (a C t:Addr) (B:Heap) (H':Hp) (s':Shared):Prop where
 os:s'.os=s.os
 bare:AllBare s'.gens
 un:Un (df outer) [] H H' s.heap s'.heap
 aP:di P w H' s'.heap
 fl:Heap.FlyingW B outer a (.ref C) (.ref t) s'.heap
 old:∀ b o,s.heap.get? b=some o->H b=none->b ∉ df outer->B.get? b=some o
 pd:∀ b o,s.heap.get? b=some o->b ∉ df outer->∃ o',B.get? b=some o'
 mn:∀ b u o,H' b=some u->s'.heap.get? b=some o->B.get? b=some o
 free:H' a=none
def BY (P:Program)(w:World):mz:=λouter H s E e s'=>∃ (a C t:Addr) (B:Heap) (H':Hp),e=.ref a/\pb P w outer H s a C t B H' s'/\E (.ref C) none H'
section
variable {P:Program}{w:World}{K:PySem.W.Frag}{mg:Str->Option Value}{base:Heap}{N:List Str}{qual:Str}{scope:Scope}{f:Addr}{cd:Value}{A:Around}{outer:List Env}{aC:Shared}{bM:Hp}{E:XK}{Uf:List (Addr×Obj)}{σ:St}{H:Hp}{s:Shared}
abbrev ka (P:Program)(w:World)(K:PySem.W.Frag)(mg:Str->Option Value)(base:Heap)(N:List Str)(qual:Str)(scope:Scope)(f:Addr)(cd:Value)(A:Around)(outer:List Env)(aC:Shared)(bM:Hp)(E:XK):Cx:=ir (BY P w) P w K mg base N qual scope f cd A outer aC bM E
theorem GF(I:Inv (ka P w K mg base N qual scope f cd A outer aC bM E) Uf σ H s){b:Addr}(hb:b∈df outer){o:Obj}(e:s.heap.get? b=some o):∀ vs,o.data ≠ .fields vs:=by obtain⟨_,o',ho,hd⟩:=I.fB.mem hb;rw[e]at ho;cases ho;exact hd
theorem Sr{e:Addr}{vs:List Value}(I:Inv (ka P w K mg base N qual scope f cd A outer aC bM E) Uf σ H s)(hm:Heap.MadeExcOf s.heap h' e (.ref C) vs)(hE:E (.ref C) none H) :
  (ka P w K mg base N qual scope f cd A outer aC bM E).xe (.ref e) { s with heap:=h' }:=by
 have nL:∀ b o,aC.heap.get? b=some o->b≠aC.heap.objs.size:=λb o q=>QH (Qn q);have sD:∀ b o,s.heap.get? b=some o->b≠aC.heap.objs.size->b ∉ df outer->(hideAll s.heap (df (envOfC qual scope aC.heap.objs.size f cd::outer))).get? b=some o:=λb o q n1 n2=>hideAll_get _ q λhm=>by
  rcases Qr.mp (show b∈aC.heap.objs.size::df outer from hm)with z|z
  .exact n1 z
  .exact n2 z
 have pe:∀ env∈(envOfC qual scope aC.heap.objs.size f cd::outer),∀ b,env.frame=some b->b∈df (envOfC qual scope aC.heap.objs.size f cd::outer):=λenv he b hb=>JU.mpr ⟨env,he,hb⟩;have v8:∀ b u,H b=some u->b≠aC.heap.objs.size/\b ∉ df outer:=λb u q=>by
  refine⟨λz=>?_,λz=>?_⟩
  .have:=I.free;rw[z]at q;have v_:H aC.heap.objs.size=none:=this;rw[v_]at q;cases q
  .have:=I.eU b (Qb _ z);rw[this]at q;cases q
 have bW:Un (df outer) [] bM H aC.heap s.heap:=I.base;show wpAny _ _ (leaving (envOfC qual scope aC.heap.objs.size f cd) (.ref e)) _ _ _;refine wpAny_leaves_madeW (s:={ s with heap:=h' }) (L:=aC.heap.objs.size) (outer:=outer) I.ok.frames rfl (λb o q=>of_hideAll _ q) (funFrames_hide I.stack pe) hm λh2 t fl _ _ up=>?_;have old:∀ b o,aC.heap.get? b=some o->bM b=none->b ∉ df outer->(hideAll s.heap (df (envOfC qual scope aC.heap.objs.size f cd::outer))).get? b=some o:=λb o q n hb=>sD b o (bW.keep b o q n hb (by simp)) (nL b o q) hb;have slot:∀ b o,s.heap.get? b=some o->b∈df outer->∃ sl,h2.get? b=some { o with slots:=sl }:=λb o q hb=>up b o (hm.keeps b o q) (GF I hb q);have mn:∀ b u o,H b=some u->s.heap.get? b=some o->(hideAll s.heap (df (envOfC qual scope aC.heap.objs.size f cd::outer))).get? b=some o:=λb u o q e=>sD b o e (v8 b u q).1 (v8 b u q).2;refine⟨e,C,t,_,H,rfl,⟨I.os,I.bare,⟨λb o q n hb _=>fl.1 b o (old b o q n hb),λb o q n hb _=>?_,λb o q n _=>bW.free b o q n (by simp),λb o q _=>?_,bW.d8,bW.dR,bW.d9⟩,BX I.aP λb u o q e=>fl.1 b o (mn b u o q e),fl,old,λb o q hb=>?_,λb u o q e=>?_,?_⟩,hE⟩
 .obtain⟨sl,q1⟩:=bW.slot b o q n hb (by simp);obtain⟨nF,q2⟩:=slot b _ q1 hb;exact⟨nF,q2⟩
 .obtain⟨o',q1⟩:=bW.there b o q (by simp);by_cases hb:b∈df outer
  .obtain⟨sl,q2⟩:=slot b o' q1 hb;exact⟨_,q2⟩
  .exact⟨o',fl.1 b o' (sD b o' q1 (nL b o q) hb)⟩
 .obtain⟨o',q1⟩:=bW.there b o q (by simp);exact⟨o',sD b o' q1 (nL b o q) hb⟩
 .obtain⟨o1,q1⟩:=BW (I.aP b u q);have q2:=mn b u o1 q q1;have q3:=fl.1 b o1 q2;have e':h2.get? b=some o:=e;rw[q3]at e';cases e';exact q2
 .cases q:H e with
  | none=>rfl
  | some u=>
   obtain⟨o1,q1⟩:=BW (I.aP e u q);rw[hm.new]at q1;cases q1
theorem Ss{E':XK}(hE:∀ C H',E' (.ref C) none H'->E (.ref C) none H')(I:Inv (ka P w K mg base N qual scope f cd A outer aC bM E) Uf σ H s){e:Value}{s':Shared}(h:BY P w (envOfC qual scope aC.heap.objs.size f cd::outer) H s E' e s') :
  (ka P w K mg base N qual scope f cd A outer aC bM E).xe e s':=by
 obtain⟨a,C,t,B,H',rfl,F,Su⟩:=h;have nL:∀ b o,aC.heap.get? b=some o->b≠aC.heap.objs.size:=λb o q=>QH (Qn q);have bW:Un (df outer) [] bM H aC.heap s.heap:=I.base;have BZ:∀ b o,aC.heap.get? b=some o->b ∉ df outer->b ∉ df (envOfC qual scope aC.heap.objs.size f cd::outer):=λb o q n hm=>by
  rcases Qr.mp (show b∈aC.heap.objs.size::df outer from hm)with z|z
  .exact nL b o q z
  .exact n z
 show wpAny _ _ (leaving (envOfC qual scope aC.heap.objs.size f cd) (.ref a)) _ _ _;refine wpAny_leaves_onW (L:=aC.heap.objs.size) (outer:=outer) I.ok.frames rfl F.fl λh2 fl up=>?_;have old:∀ b o,aC.heap.get? b=some o->bM b=none->b ∉ df outer->B.get? b=some o:=λb o q n hb=>F.old b o (bW.keep b o q n hb (by simp)) (bW.free b o q n (by simp)) (BZ b o q hb);have slot:∀ b o,s.heap.get? b=some o->H b=none->b∈df outer->∃ sl,h2.get? b=some { o with slots:=sl }:=λb o q n hb=>by obtain⟨sl,q1⟩:=F.un.slot b o q n (Qb _ hb) (by simp);obtain⟨nF,q2⟩:=up b _ q1 (λvs z=>GF I hb q vs z);exact⟨nF,q2⟩
 have fH:∀ b∈df outer,H b=none:=λb hb=>I.eU b (Qb _ hb);refine⟨a,C,t,B,H',rfl,⟨F.os.trans I.os,F.bare,⟨λb o q n hb _=>fl.1 b o (old b o q n hb),λb o q n hb _=>?_,λb o q n _=>?_,λb o q _=>?_,λb xs q=>F.un.d8 b xs (bW.d8 b xs q),λb o u q=>F.un.dR b o u (bW.dR b o u q),λb ps q=>?_⟩,BX F.aP λb u o q e=>fl.1 b o (F.mn b u o q e),fl,old,λb o q hb=>?_,λb u o q e=>?_,F.free⟩,hE C H' Su⟩
 .obtain⟨sl,q1⟩:=bW.slot b o q n hb (by simp);obtain⟨nF,q2⟩:=slot b _ q1 (fH b hb) hb;exact⟨nF,q2⟩
 .obtain⟨o',q1⟩:=bW.there b o q (by simp);exact F.un.free b o' q1 (bW.free b o q n (by simp)) (by simp)
 .obtain⟨o',q1⟩:=bW.there b o q (by simp);by_cases hb:b∈df outer
  .obtain⟨sl,q2⟩:=slot b o' q1 (fH b hb) hb;exact⟨_,q2⟩
  .obtain⟨o2,q2⟩:=F.pd b o' q1 (BZ b o q hb);exact⟨o2,fl.1 b o2 q2⟩
 .obtain⟨m1,e1⟩:=bW.d9 b ps q;obtain⟨m2,e2⟩:=F.un.d9 b _ e1;exact⟨m1++m2,by rw[e2,Array.append_assoc]⟩
 .obtain⟨o',q1⟩:=bW.there b o q (by simp);exact F.pd b o' q1 (BZ b o q hb)
 .obtain⟨o1,q1⟩:=BW (F.aP b u q);have q2:=F.mn b u o1 q q1;have q3:=fl.1 b o1 q2;have e':h2.get? b=some o:=e;rw[q3]at e';cases e';exact q2
end
structure B0 (K:Frag) (mg:Str->Option Value) (nm:Str) (C:Addr):Prop extends ji K nm C where
 mg:mg nm=some (.ref C)
theorem Sv{K:Frag}{GG:List Value}{newId:String}(X:K.In h)(q:excIn K C GG newId=true) :
  ∃ bm N nm q bs hdct sn sub ab col dd k0 k1 k2 k3 k5 mN,h.get? C=some (excClassObj nm q C N bs bm hdct sn sub ab col dd k0 k1 k2 k3 k5 newId)/\h.Ns N mN/\mN "__init__" = none/\OwnTail h GG bm:=by
 unfold excIn at q;split at q;next dd cd sl ho=>
  split at q;next C' bm k0 k1 k2 k3 n k5 hm hs=>
   simp only[Zo,ZB,Bool.not_eq_true']at q;obtain⟨⟨⟨⟨⟨rfl,rfl⟩,wa⟩,ht⟩,aP⟩,y6⟩:=q;obtain⟨nm,bs,mro,ns,qn,hd,sn,sub,ab,col,del⟩:=cd;dsimp only at hm wa aP y6;subst hm wa;have Sw:sl = #[k0,k1,k2,k3,some (.builtin n),k5]:=by obtain⟨l⟩:=sl;simp only at hs;rw[hs]
   subst Sw;exact⟨bm,ns,nm,qn,bs,hd,sn,sub,ab,col,dd,k0,k1,k2,k3,k5,_,X _ _ ho,.of_isNs (isNs_of_in X aP),nsMap_none_of_in X aP y6,tail_of_in X ht⟩
  .cases q
 .cases q
section
variable {P:Program}{w:World}{K:PySem.W.Frag}{mg:Str->Option Value}{base:Heap}{N:List Str}{qual:Str}{scope:Scope}{f:Addr}{cd:Value}{A:Around}{outer:List Env}{aC:Shared}{bM:Hp}{E:XK}{Uf:List (Addr×Obj)}{σ:St}{H:Hp}{s:Shared}
theorem Sx{nm txt:Str}{j:Nat}{np aA pf pos:Pos}(hA:A.handled=none)(hC:B0 K mg nm C)(hg:Gl (ka P w K mg base N qual scope f cd A outer aC bM E) nm)(gZ:(nm==("__debug__":Str))=false:=by decide) :
  PS (ka P w K mg base N qual scope f cd A outer aC bM E) (.Raise (some (.Call (.Name nm np) [.Constant (.str txt) j pf] [] aA)) none pos) (λ_ _ H=>E (.ref C) none H):=by
 intro Uf s σ H D I h;obtain⟨tl,Nn,B1,q,bs,hdct,sn,sub,ab,col,dd,k0,k1,k2,k3,k5,mN,Sy,hN,y6,T⟩:=Sv I.mod.u3 hC.ex;refine wpAny_Raise_call_subT (C:=C) (nm:=B1) (q:=q) (N:=Nn) (bs:=bs) (bm:=tl) (hdct:=hdct) (sn:=sn) (sub:=sub) (ab:=ab) (col:=col) (dd:=dd) (k0:=k0) (k1:=k1) (k2:=k2) (k3:=k3) (k5:=k5)
  J0 (mN:=mN) (T.hasType J0.hasBase) hA rfl y6 (u_ I hg hC.mg ⟨rfl,?_⟩ gZ)
 refine JD (Ji (bg (xT (j:=j) (pos:=pf) Uf s σ H (λv H1=>v=.str txt/\H1=H) I ⟨rfl,rfl⟩) λu s1 ao=>?_));obtain⟨v,H1,I1,r1,e1,e2⟩:=ao;subst e1 e2;refine Yb ⟨rfl,by show 1<=sizeLine;decide,I1.bk _ _ Sy,hN.keeps I1.bk,T.keeps I1.bk,λh' e hm=>Sr I1 hm h⟩
end
abbrev gA:=aW->Option Str
def tX (K:PySem.W.Frag)(x:gA)(E:XK):TS:=λ_ σ H=>∃ ρ w nm,Good K ρ σ H w 0/\x ρ=some nm/\∀ C H' w',nsIn K mainGlobals nm=some (some (.ref C))->WL K w' H'->Go H w H' w'->E (.ref C) none H'
def B2 (K:PySem.W.Frag)(n:Nat)(F:List D->Option Str):Sp:=λvs H _ E=>vs.length=n/\∃ ds w nm,(∀ a o,w a=some o->o=.f)/\WL K w H/\ah K H w .f 0 ds vs []/\F ds=some nm /\
 ∀ C H' w',nsIn K mainGlobals nm=some (some (.ref C))->WL K w' H'->Go H w H' w'->E (.ref C) none H'
def fnX (n:Nat)(x:gA):List D->Option Str:=λds=>x (oT n ds)
def lA (P:Program)(w:World)(K:PySem.W.Frag)(mg:Str->Option Value)(base:Heap)(k:Nat)(x:Str)(n:Nat)(F:List D->Option Str):Prop:=
 ∃ f fd ps,dS P w K mg base (BY P w) k f fd ps (B2 K n F)/\mg x=some (.ref f)/\W.keepIn K (.ref f)=true/\nJ K fd ps []
theorem lA.mk{mg:Str->Option Value}{base:Heap}{k:Nat}{st:Stmt}{N ps:List Str}{xb:gA}(a:At K mg x st ps)(S:aj N ps (aZ st))
  (h:∀ (f:Addr) (bA:Value) (A:Around) (outer:List Env) (s:Shared) (H:Hp) (E:XK),bc k (A.deeper (envOfC x (aZ st) s.heap.objs.size f bA))->gV (ka P w K mg base N x (aZ st) f bA A outer s H E) (i5 st) (tX K xb E)) :
  lA P w K mg base (k+1) x ps.length (fnX N.length xb):=by obtain⟨f,fd,F,m,b⟩:=a;refine⟨f,fd,ps,?_,m,F.kp,b⟩;obtain⟨oc,od,kV,doc,pm,an,bA,ct,nK,rfl,lk,gX⟩:=F.ex;refine EO lk gX S (λvs H Q E h=>h.1) λA outer s H vs Q E hr jg=>⟨_,h f bA A outer s H E hr,?_⟩;obtain⟨hn,ds,w,nm,hw,wl,rs,e,k⟩:=jg;exact⟨_,w,nm,Br hw wl rs,e,k⟩
def B3 (F:List D->Option Str)(n:Nat)(g:bP):gA:=λρ=>match g ρ with
 | some (ds,_)=>if ds.length=n then F ds else none
 | none=>none
theorem Sz{K:Frag}{s:Shared}{x R:Addr}{ox:Obj}{Q:Bool->Shared->Prop}(X:K.In s.heap)(I:jH s.heap x ox C)(hR:fD K R)(oE:typeIn K (.ref R)=some (.type "type"))
  (da:subIn K (.ref C) (.ref R)=some true) (h:Q true s):wpAny M A (excMatches (.ref x) (.ref R)) Q E s:=by
 obtain⟨h0,g,d,tt,os⟩:=s;have L0:=I.type (M:=M);have L1:=looks_typeIn (M:=M) X oE;have L2:=AZ (M:=M) X hR.ci;have L3:=looks_mroIn (M:=M) X hR.mb;have L4:=YV (M:=M) X da;have f:=tc_notTuple;have L5:Looks M h0 (isSubtype (.type "type") (.type "tuple")) false:=JC f;unfold excMatches isInstance isExcClass
 repeat (first|lk|wp_step)
 exact h
section
variable {X:Cx}{Uf:List (Addr×Obj)}{σ:St}{H H':Hp}{s s':Shared}{a C t:Addr}{B:Heap}
theorem SA{Q:Unit->Shared->Prop}(I:Inv X Uf σ H s)(hN:X.N.Nodup)(hi:X.N[i]? = some x)(hx:X.env.scope.names.lookup x=some .local)
  (h:∀ s',Inv X Uf (σ.set i none) H s'->Q () s'):wpAny M A (do bindName X.env x .none;unbindBehindTheSuite X.env x pos) Q E s:=by
 obtain⟨m,hn,hl⟩:=id I.loc;have qZ:(X.env.scope.kind == .class||(X.env.scope.kind == .module&&X.env.locals != X.env.globals))=false:=by rw[I.ok.kind];rfl
 have k7:i<σ.length:=by rw[I.len];exact(Qq.mp hi).1
 have mr:=I.mr;refine wpAny_nameGoes_keeps hx hn qZ λh' v oq hs=>?_;obtain⟨oL,_,_,tK,_⟩:=id hn;have tracked:di X.prog X.w H h':=λb ob e=>by
  refine(I.aP b ob e).fT (λc w' hc q=>(hs.2 c ?_).trans q) (λ_ q=>q) λ_ _ q=>q;rintro rfl;rcases hc with rfl|hc
  .rw[I.free]at e;cases e
  .rw[I.free]at hc;cases hc
 refine h _ ⟨I.ok,I.os,I.bare,⟨λb o e n hb hx=>?_,λb o e n hb hx=>?_,I.base.free,λb o e hx=>?_,I.base.d8,I.base.dR,I.base.d9⟩,⟨_,oq,λj y v' e1 e2 e3=>?_⟩,λy c e=>?_,I.free,I.cT,λp hp=>?_,tracked,by simpa using I.len⟩
 .exact(hs.2 b (QH (Qo (Qn e) I.ok.above))).trans (I.base.keep b o e n hb hx)
 .obtain⟨sl,e1⟩:=I.base.slot b o e n hb hx;exact⟨sl,(hs.2 b (QH (Qo (Qn e) I.ok.above))).trans e1⟩
 .obtain⟨o',e1⟩:=I.base.there b o e hx;exact⟨o',(hs.2 b (QH (Qo (Qn e) I.ok.above))).trans e1⟩
 .by_cases hj:j=i
  .subst hj;rw[Qz k7]at e2;cases e2
  .rw[Qy (Jn hj)]at e2;obtain⟨u',r',q⟩:=hl j y v' e1 e2 e3;refine⟨u',r',?_⟩;rcases q with⟨k,e⟩|⟨k,c,e,z⟩
   .refine .inl ⟨k,?_⟩;have:y≠x:=λe=>hj (zS hN e1 (e ▸ hi));simp[this,e]
   .exact .inr ⟨k,c,e,z.sameBut hs (mr y c e)⟩
 .obtain⟨w',z⟩:=I.cell y c e;exact⟨w',z.sameBut hs (mr y c e)⟩
 .obtain⟨e,n,ne,nf,d⟩:=I.pin p hp;exact⟨(hs.2 p.1 ne).trans e,n,ne,nf,d⟩
def ue (a:Addr)(oe:Obj):HO:=.fM oe (.ext λh=>h.get? a=some oe)
theorem pb.B4(I:Inv X Uf σ H s)(F:pb X.prog X.w X.stack H s a C t B H' s')(fl:Heap.FlyingW B X.stack a (.ref C) (.ref t) h')(up:s'.heap.UpToSlots h'):Un (df X.stack) [] H H' s.heap h'/\di X.prog X.w H' h':=by
 have slot:∀ b o,s.heap.get? b=some o->H b=none->b∈df X.stack->∃ sl,h'.get? b=some { o with slots:=sl }:=λb o q n hb=>by obtain⟨sl,q1⟩:=F.un.slot b o q n hb (by simp);obtain⟨_,o',ho,hd⟩:=I.stack.mem hb;rw[q]at ho;cases ho;obtain⟨nF,q2⟩:=up b _ q1 hd;exact⟨nF,q2⟩
 refine⟨⟨λb o q n hb _=>fl.1 b o (F.old b o q n hb),λb o q n hb _=>slot b o q n hb,F.un.free,λb o q _=>?_,F.un.d8,F.un.dR,F.un.d9⟩,BX F.aP λb u o q e=>fl.1 b o (F.mn b u o q e)⟩;by_cases hb:b∈df X.stack
 .obtain⟨sl,q2⟩:=slot b o q (I.eU b hb) hb;exact⟨_,q2⟩
 .obtain⟨o2,q2⟩:=F.pd b o q hb;exact⟨o2,fl.1 b o2 q2⟩
theorem pb.inv(I:Inv X Uf σ H s)(F:pb X.prog X.w X.stack H s a C t B H' s')(fl:Heap.FlyingW B X.stack a (.ref C) (.ref t) h')(up:s'.heap.UpToSlots h'):Inv X Uf σ H' { s' with heap:=h' }:=
 I.mv (s':={ s' with heap:=h' }) F.os (F.B4 I fl up).1 (F.B4 I fl up).2 F.bare (λb hb=>nomatch hb)
theorem pb.inv2(I:Inv X Uf σ H s)(F:pb X.prog X.w X.stack H s a C t B H' s')(fl:Heap.FlyingW B X.stack a (.ref C) (.ref t) h')(up:s'.heap.UpToSlots h'){oe:Obj}{vs:Array Value}(ho:h'.get? a=some oe)(hd:oe.data=.fields vs) :
  Inv X Uf σ (upd H' a (ue a oe)) { s' with heap:=h' }:=by
 obtain⟨u,hk⟩:=F.B4 I fl up;have na:∀ b x,H' b=some x->upd H' a (ue a oe) b=some x:=λb x q=>by unfold upd;rw[Qt (λz=>by rw[z,F.free]at q;cases q)];exact q
 have SD:a ∉ df X.stack:=λhb=>by obtain⟨_,o',gU,nC⟩:=fl.2.2.1.mem hb;rw[ho]at gU;cases gU;exact nC vs hd
 refine I.mv (s':={ s' with heap:=h' }) F.os ⟨u.keep,u.slot,λb o q n e=>?_,u.there,λb xs q=>na b _ (u.d8 b xs q),λb o' u' q=>na b _ (u.dR b o' u' q),λb ps q=>?_⟩ (λb x q=>?_) F.bare (λb hb=>nomatch hb)
 .unfold upd;rw[Qt (λz=>?_)]
  .exact u.free b o q n e
  .subst z;obtain⟨o2,q2⟩:=F.pd b o q SD;rw[fl.2.1]at q2;cases q2
 .obtain⟨m,q1⟩:=u.d9 b ps q;exact⟨m,na b _ q1⟩
 .by_cases hb:b=a
  .subst hb;unfold upd at q;rw[Ql rfl]at q;cases q;exact⟨ho,ho,⟨_,ho⟩,λh1 h2 q1 q2=>q2 _ q1⟩
  .have q':=q;unfold upd at q;rw[Qt hb]at q;exact(hk b x q).fT (λ_ _ _ z=>z) (λc z=>na c _ z) (λc xs z=>na c _ z)
abbrev Cx.mark (X:Cx)(e:Value):Cx:={ X with A:=X.A.mark (some e),calm:=false,xe:=λ_ _=>False }
theorem Inv.mark(I:Inv X Uf σ H s)(e:Value):Inv (Cx.mark X e) Uf σ H s:=
 ⟨⟨I.ok.mod,I.ok.kind,I.ok.glob,I.ok.blt,I.ok.above,I.ok.inj,I.ok.has,I.ok.tJ,(λz=>by cases z),I.ok.frames,I.ok.u4,I.ok.xQ,I.ok.bs,I.ok.mq,I.ok.kZ,I.ok.k4,I.ok.fB,I.ok.qX⟩,I.os,I.bare,I.base,I.loc,I.cell,I.free,I.cT,I.pin,I.aP,I.len⟩
theorem Inv.unmark{e:Value}(hX:X.Ok)(I:Inv (Cx.mark X e) Uf σ H s):Inv X Uf σ H s:=⟨hX,I.os,I.bare,I.base,I.loc,I.cell,I.free,I.cT,I.pin,I.aP,I.len⟩
theorem SE{R n kx:Str}{RA:Addr}{np kp vp apos:Pos}{ie ik:Nat}{Q:Flow->Shared->Prop}(I:Inv X Uf σ H s)(F:pb X.prog X.w X.stack H s a C t B H' s')(iI:X.stack=X.env::X.outer)(B5:X.env.frame=some X.env.locals)
  (hN:X.N.Nodup) (sE:X.N[ie]? = some n) (t7:X.N[ik]? = some kx) (cG:X.env.scope.names.lookup n=some .local) (y7:X.env.scope.names.lookup kx=some .local) (hR:fD X.K RA) (B6:typeIn X.K (.ref RA)=some (.type "type")) (da:subIn X.K (.ref C) (.ref RA)=some true) (hmg:X.mg R=some (.ref RA)) (hg:Gl X R)
  (gZ:(R==("__debug__":Str))=false) (B7:(n==("__debug__":Str))=false) (B8:(n==("__classdict__":Str))=false) (rH:swapsWith (.Name n vp) (some (.Name kx kp)) apos.line X.env=pure false)
  (hQ:∀ s5 oe,oe.cls=.ref C->Inv X Uf (((σ.set ie (some (.ref a))).set ik (some (.ref a))).set ie none) (upd H' a (ue a oe)) s5->Q .next s5) :
  wpAny (model X.prog X.w) X.A (noteFrame (.ref a) X.env) (λ_ k9=>wpAny (model X.prog X.w) X.A (setFlight (.ref a) none) (λ_ jW=>
   wpAny (model X.prog X.w) X.A (handleBy (.ref a) X.env [.ExceptHandler (some (.Name R np)) (some n) [.Assign [.Name kx kp] (.Name n vp) apos] pos]) Q E jW) E k9) E s':=by
 have k7:ie<σ.length:=by rw[I.len];exact(Qq.mp sE).1
 have GH:=F.fl;have sF:=iI;rw[iI]at GH;refine wpAny_looks_onW (L:=X.env.locals) (outer:=X.outer) (by rw[<- iI];exact I.ok.frames) B5 GH λvy mX qw=>?_;refine wpAny_landsW mX λvz qx qy=>?_;have kb:=qx;rw[<- iI]at kb;have I5:=F.inv I kb (qw.trans qy);obtain⟨ob,SF,B9⟩:=kb.there;have J5:=Inv.mark I5 (.ref a);refine wpAny_handleBy_cons (codeAny_handlers_test (u_ (X:=Cx.mark X (.ref a)) J5 hg hmg ?_ gZ)) (by intro q;cases q);refine Sz J5.fC ⟨SF,B9⟩ hR B6 da ?_;refine codeAny_handlers_suite_as ?_;refine lands_againW qx λSG wb wc=>?_;have kc:=wb;rw[<- iI]at kc;obtain⟨oe,ws,SH,B_,Ca,SI⟩:=kc.first;have I6:=F.inv2 I kc ((qw.trans qy).trans wc) SH Ca;refine zV (v:=.ref a) I6 hN sE (.inl cG) rfl (λs7 I7=>?_) (.inr cG);have J7:=Inv.mark I7 (.ref a);have body:=Ep (Ew (X:=Cx.mark X (.ref a)) (i:=ik) (x:=kx) (pos:=apos) (pos':=kp) hN t7 (.inl y7) (pv (X:=Cx.mark X (.ref a)) ie (x:=n) (pos:=vp) sE (.inl cG) B7 B8) rH (.inr y7));refine Zs (body Uf s7 _ _ { nx:=λaT H1=>aT=(σ.set ie (some (.ref a))).set ik (some (.ref a))/\H1=upd H' a (ue a oe),rt:=λ_ _=>False } J7 ⟨.ref a,Qz k7,rfl,rfl⟩) (λfl s8 q=>?_) (λ_ _ z=>False.elim z);cases fl with
 | next=>
  obtain⟨bd,H8,J8,rfl,rfl⟩:=q;exact SA (Inv.unmark I.ok J8) hN sE cG λs9 I9=>hQ s9 oe B_ I9
 | brk=>obtain⟨_,_,_,z⟩:=q;exact z.elim
 | cont=>obtain⟨_,_,_,z⟩:=q;exact z.elim
 | ret u=>obtain⟨_,_,_,_,_,z⟩:=q;exact z.elim
end
theorem Good.unset{w:Wn}{v:Option V}(g:Good K ρ σ H w t)(hi:i<σ.length) :
  Good K (ρ.set i none) (σ.set i v) H (iK i w) t/\Go H w H (iK i w):=by
 have st:dk H w H (iK i w):=λa x h n=>⟨sm h,vD n⟩;refine⟨⟨⟨λa o h=>g.wl a o (oP h).1,g.wl.tb⟩,λa j h=>by rw[QA];exact g.ws a j (oP h).1,λa j h=>g.wt a j (oP h).1,by rw[QA,QA];exact g.len,λj d' q' e'=>?_⟩,⟨st,λa o h n=>⟨rfl,tY h (n i)⟩⟩⟩;by_cases hj:i=j
 .subst hj;rw[Qz (by rw[g.len];exact hi)]at e';cases e'
 .rw[Qy hj]at e';obtain⟨v',F,h1,h2⟩:=g.slot j d' q' e';exact⟨v',F,by rw[Qy hj];exact h1,Rep.go g.wl st h2 λa m=>⟨rfl,tY (h2.aM a m) (λz=>hj (by cases z;rfl))⟩⟩
theorem Good.grow{H':Hp}{w:Wn}(g:Good K ρ σ H w t)(h:∀ b o,H b=some o->Sm o (H' b))(tb:TB K H'):Good K ρ σ H' w t/\Go H w H' w:=by
 have st:dk H w H' w:=λa x e n=>⟨h a x e,n⟩;have kp:∀ a o,w a=some o->H' a=H a:=λa o e=>by obtain⟨vs,q⟩:=g.wl a o e;rw[q,(h a _ q).eq (by cases vs<;>rfl)]
 refine⟨⟨⟨λa o e=>?_,tb⟩,g.ws,g.wt,g.len,λi d q e=>?_⟩,st,λa o e _=>⟨kp a o e,e⟩⟩
 .obtain⟨vs,q⟩:=g.wl a o e;exact⟨vs,(h a _ q).eq (by cases vs<;>rfl)⟩
 .obtain⟨v,F,h1,h2⟩:=g.slot i d q e;exact⟨v,F,h1,Rep.go g.wl st h2 λa m=>⟨kp a _ (h2.aM a m),h2.aM a m⟩⟩
def ph (K:Frag)(mg:Str->Option Value)(R:Str)(L:List Str):Prop:=∃ RA,fD K RA/\typeIn K (.ref RA)=some (.type "type")/\mg R=some (.ref RA) /\
 ∀ nm∈L,∀ C,nsIn K mainGlobals nm=some (some (.ref C))->ji K nm C/\subIn K (.ref C) (.ref RA)=some true
end L3
namespace L3
open PySem PySem.Spec PyProof.Rows PySem.W L2 PySem.SeqAt
variable {K:PySem.W.Frag}{L:List Str}
def fI (K:Frag)(mg:Str->Option Value)(L:List Str)(nm:Str):Prop:=∃ C,mg nm=some (.ref C)/\∀ n∈L,∀ B,nsIn K mainGlobals n=some (some (.ref B))->(n=nm->isIn K (.ref B) C=true)/\(n≠nm->kin_not K B C=true)
section
variable {X:Cx}{a b c e:Expr}{es:List Expr}{fa fb fc f:aJ}{ga gb:cI}{g:bP}{pos p p1 p2 pT aA apos:Pos}
theorem SJ{C:Addr}{nm:Str}(h:∀ n∈L,∀ B,nsIn X.K mainGlobals n=some (some (.ref B))->(n=nm->isIn X.K (.ref B) C=true)/\(n≠nm->kin_not X.K B C=true)) :
  jU X (.builtin "isinstance") (λxs H Q=>∃ x w o q F n,xs=[x,.ref C]/\n∈L/\Rep X.K H w o q (.exc n) x F/\Q (.bl (n==nm)) H):=by
 intro Uf s σ H xs us Q I r hh;obtain⟨x,w,o,q,F,n,rfl,hn,rd,hq⟩:=hh;obtain⟨u,v,rfl,ru,rv⟩:=vb r;cases rv;obtain⟨_,_,_,rfl,ha,B,hc,k⟩:=rd.inv
 .cases ru;obtain⟨e1,_⟩:=(show dh X.prog X.w H s.heap _ (.fM _ _)from I.aP _ _ ha);obtain⟨h1,h2⟩:=h n hn B k.ns;by_cases z:n=nm
  .rw[ZB.mpr z]at hq;exact OY I.fC ⟨e1,hc⟩ (h1 z) ⟨.bl true,H,I,rfl,hq⟩
  .rw[JJ.mpr z]at hq;exact OW I.fC ⟨e1,hc⟩ k.xc (h2 z) ⟨.bl false,H,I.tok _,rfl,hq⟩
def qz (L:List Str)(nm:Str)(fa:aJ):aJ:=λρ=>match fa ρ with
 | some (.exc n,_,ac)=>if n∈L then some (.bl (n==nm),9,ac)else none
 | _=>none
theorem uf{nm:Str}(hC:fI X.K X.mg L nm)(hm:X.mg "isinstance" = none)(ha:QD X a fa)(hg:Gl X "isinstance":=by rfl)(vR:Gl X nm:=by rfl)(BP:(nm==("__debug__":Str))=false:=by decide)(hs:starEach [a,.Name nm pT] X.env=(false,eval a X.env)::starEach [.Name nm pT] X.env:=by rfl)(cB:(backTo pos (starEach [.Name nm pT] X.env)).any (·.1)=false:=by rfl):QD X (.Call (.Name "isinstance" p) [a,.Name nm pT] [] pos) (qz L nm fa):=⟨have ha:=ha.o;by
 obtain⟨C,SK,jV⟩:=hC;refine PE.imp (nN (SJ jV) hg hm Z0 (jf ha (jf (L6 (v:=.ref C) vR SK rfl BP) k_ eZ) hs) (by decide) (by decide) hs cB) λσ H Q ao=>?_;obtain⟨ρ,w,t,r',q,ad,gd,ee,k⟩:=ao;unfold qz at ee;split at ee;next n q1 ac h1=>
  split at ee;next hL=>
   cases ee;refine⟨ρ,w,t,_,_,_,gd,h1,λv H1 w1 F1 g1 aN r1=>?_⟩;exact⟨v,w1,_,_,F1,n,rfl,hL,r1,k _ H1 (cH t w1) [] g1.drop.up (aN.drop gd.wt) (.bl _)⟩
  .cases ee
 .cases ee⟩
theorem SM:jU X (.builtin "isinstance") (λxs H Q=>∃ x w o q F n,xs=[x,.ty "ValueError"]/\Rep X.K H w o q (.exc n) x F/\Q (.bl true) H):=by
 intro Uf s σ H xs us Q I r hh;obtain⟨x,w,o,q,F,n,rfl,rd,hq⟩:=hh;obtain⟨u,v,rfl,ru,rv⟩:=vb r;cases rv;obtain⟨_,_,_,rfl,ha,B,hc,k⟩:=rd.inv
 .cases ru;obtain⟨e1,_⟩:=(show dh X.prog X.w H s.heap _ (.fM _ _)from I.aP _ _ ha);exact OZ I.fC ⟨e1,hc⟩ (by kernel_rfl) k.ve ⟨.bl true,H,I,rfl,hq⟩
def Cb (fa:aJ):aJ:=λρ=>match fa ρ with
 | some (.exc n,_,ac)=>some (.bl true,9,ac)
 | _=>none
theorem SN(hm:X.mg "isinstance" = none)(BO:X.mg "ValueError" = none)(ha:QD X a fa)(hg:Gl X "isinstance":=by rfl)(vR:Gl X "ValueError":=by rfl)(hs:starEach [a,.Name "ValueError" pT] X.env=(false,eval a X.env)::starEach [.Name "ValueError" pT] X.env:=by rfl)(cB:(backTo pos (starEach [.Name "ValueError" pT] X.env)).any (·.1)=false:=by rfl):QD X (.Call (.Name "isinstance" p) [a,.Name "ValueError" pT] [] pos) (Cb fa):=⟨have ha:=ha.o;by
 refine PE.imp (nN SM hg hm Z0 (jf ha (jf (Eo (v:=.ty "ValueError") vR BO (by kernel_rfl) rfl (by decide) (by decide)) k_ eZ) hs) (by decide) (by decide) hs cB) λσ H Q ao=>?_;obtain⟨ρ,w,t,r',q,ad,gd,ee,k⟩:=ao;unfold Cb at ee;split at ee;next n q1 ac h1=>
  cases ee;refine⟨ρ,w,t,_,_,_,gd,h1,λv H1 w1 F1 g1 aN r1=>?_⟩;exact⟨v,w1,_,_,F1,n,rfl,r1,k _ H1 (cH t w1) [] g1.drop.up (aN.drop gd.wt) (.bl _)⟩
 .cases ee⟩
def y8:D->D->Option D
 | .aF,.aF=>some (.bl true)
 | .exc _,.aF=>some (.bl false)
 | .int _,.aF=>some (.bl false)
 | .tup _,.aF=>some (.bl false)
 | .str _,.aF=>some (.bl false)
 | _,_=>none
def GI:R2:=λx y H Q=>y=.aF/\((x=.aF/\Q (.bl true) H)\/((∃ i,x=.int i)\/(∃ i,x=.str i)\/(∃ i,x=.ref i))/\Q (.bl false) H)
theorem EC:cU X (compareOp .Is) GI:=by
 intro Uf s σ H x y v u Q I rx ry h;obtain⟨rfl,h⟩:=h;cases ry;rcases h with⟨rfl,q⟩|⟨⟨i,rfl⟩|⟨i,rfl⟩|⟨i,rfl⟩,q⟩
 .cases rx;exact Qe ⟨.bl true,H,I,rfl,q⟩
 .obtain⟨t,rfl⟩:=rx;exact Qe ⟨.bl false,H,I,rfl,q⟩
 .obtain⟨t,rfl⟩:=rx;exact Qe ⟨.bl false,H,I,rfl,q⟩
 .cases rx;exact Qe ⟨.bl false,H,I,rfl,q⟩
theorem SO:∀ σ H Q,tD K (e2 y8 fa fb) σ H Q->jF GI (tD K fa) (tD K fb) σ H Q:=tZ λx y d h=>by
 unfold y8 at h;split at h
 .cases h;exact⟨_,rfl,λH w o o' q q' u u' F F' r1 r2 _ Q hq=>⟨r2.inv.1,.inl ⟨r1.inv.1,hq⟩⟩⟩
 .cases h;exact⟨_,rfl,λH w o o' q q' u u' F F' r1 r2 _ Q hq=>have ⟨a,_,_,e,_⟩:=r1.inv;⟨r2.inv.1,.inr ⟨.inr (.inr ⟨a,e⟩),hq⟩⟩⟩
 .cases h;exact⟨_,rfl,λH w o o' q q' u u' F F' r1 r2 _ Q hq=>⟨r2.inv.1,.inr ⟨.inl ⟨_,r1.inv.1⟩,hq⟩⟩⟩
 .cases h;exact⟨_,rfl,λH w o o' q q' u u' F F' r1 r2 _ Q hq=>have ⟨a,_,e,_⟩:=r1.inv;⟨r2.inv.1,.inr ⟨.inr (.inr ⟨a,e⟩),hq⟩⟩⟩
 .cases h;exact⟨_,rfl,λH w o o' q q' u u' F F' r1 r2 _ Q hq=>⟨r2.inv.1,.inr ⟨.inr (.inl ⟨_,r1.inv.1⟩),hq⟩⟩⟩
 .cases h
theorem SQ(ha:QD X a fa)(hb:QD X b fb):g_ X (.Compare a [.Is] [b] pos) (bf (e2 y8 fa fb)):=⟨have ha:=ha.o;have hb:=hb.o;rQ EC SO ha hb (q_ _)⟩
def we (d:D)(ds:List D):Nat:=(dg ds).countP λy=>PyData.eqv y (cP d)
def SR (K:PySem.W.Frag):V->List V->Hp->VK->Prop:=λx xs H Q=>∃ ds d y,xs=[y]/\Is K H (.lst ds) x/\Is K H d y/\d5 (.lst ds)=true/\d5 d=true/\Q (.int (Int.ofNat (we d ds))) H
theorem SS(hu:X.A.units+65<cLine):ya X "list.count" (SR X.K):=by
 intro Uf s σ H x xs v us Q I rx rs ⟨ds,d,y,e,⟨w,o,q,F,h1⟩,⟨w',o',q',F',h2⟩,k1,k2,hq⟩;subst e;obtain⟨u,rfl,ru⟩:=my rs;obtain⟨as,ra⟩:=h1.reads I rx (lX k1);obtain⟨bs,rb⟩:=h2.reads I ru (lX k2);replace k1:=lY k1;replace k2:=lY k2;unfold cP at ra k1;have kI:PyData.canLayAll0 (dg ds)=true:=QV k1;have ku:=QV k2;cases ra with
 | @list a ob vs n _ _ ho mL hd mM=>
  obtain⟨cls,dd,data,sl⟩:=ob;simp only at mL hd;subst mL hd;have j5:=JZ _ _ _ kI mM;have Cc:vs.toList.countP (λy=>PyData.eqv (SeqAt.readOf s.heap y) (cP d))=we d ds:=by unfold we;rw[<- j5,List.countP_map];rfl
  refine ZQ Yq ⟨_,ho,rfl⟩ PySem.F.entry_list_count (PySem.F.args_list_count_2 _ _)
   (list_countAt a vs n dd sl u (λy=>PyData.eqv (SeqAt.readOf s.heap y) (cP d))) ⟨ho,Yp mM rb kI ku (Jr k2 hu),?_⟩
  rw[Cc];exact⟨.int (Int.ofNat (we d ds)),H,I.tok _,⟨_,rfl⟩,hq⟩
def Cd (fo:aJ)(g:bP):aJ:=λρ=>match fo ρ with
 | some (.lst ds,_,ac)=>match g ac with
  | some ([d],am)=>if d5 (.lst ds)=true/\d5 d=true then some (.int (Int.ofNat (we d ds)),9,am)else none
  | _=>none
 | _=>none
def SU (K:PySem.W.Frag):V->List V->Hp->VK->Prop:=λx xs H Q=>∃ ds d y j,xs=[y]/\Is K H (.lst ds) x/\Is K H d y/\d5 (.lst ds)=true/\d5 d=true/\t8 d ds=some j/\(j:Int)<1000/\Q (.int (Int.ofNat j)) H
theorem SV(hu:X.A.units+65<cLine):ya X "list.index" (SU X.K):=by
 intro Uf s σ H x xs v us Q I rx rs ⟨ds,d,y,j,e,⟨w,o,q,F,h1⟩,⟨w',o',q',F',h2⟩,k1,k2,hj,GJ,hq⟩;subst e;obtain⟨u,rfl,ru⟩:=my rs;obtain⟨as,ra⟩:=h1.reads I rx (lX k1);obtain⟨bs,rb⟩:=h2.reads I ru (lX k2);replace k1:=lY k1;replace k2:=lY k2;unfold cP at ra k1;have kI:PyData.canLayAll0 (dg ds)=true:=QV k1;have ku:=QV k2;cases ra with
 | @list a ob vs n _ _ ho mL hd mM=>
  obtain⟨cls,dd,data,sl⟩:=ob;simp only at mL hd;subst mL hd;have j5:=JZ _ _ _ kI mM;have BE:=ZJ.mp hj;obtain⟨BF,BG,BH⟩:=BE;have hlen:vs.size=(dg ds).length:=by rw[<- j5];simp
  have rZ:∀ m (hm:m<vs.size) (r_:m<(dg ds).length),SeqAt.readOf s.heap vs[m]=(dg ds)[m]:=λm hm r_=>by
   have:(vs.toList.map (SeqAt.readOf s.heap))[m]? = (dg ds)[m]?:=by rw[j5]
   simpa [hm,r_]using this
  refine ZQ Yr ⟨_,ho,rfl⟩ PySem.F.entry_list_index (PySem.F.args_list_index_2 _ _)
   (list_indexAt a vs n dd sl u (λy=>PyData.eqv (SeqAt.readOf s.heap y) (cP d)) j (by omega) (by omega) (by rw[rZ j (by omega) BF];simpa using BG) (λm hm BI=>by rw[rZ m hm (by omega)];simpa using BH m BI)) ⟨ho,Yp mM rb kI ku (Jr k2 hu),?_⟩
  exact⟨.int (Int.ofNat j),H,I.tok _,⟨_,rfl⟩,hq⟩
def Ce (fo:aJ)(g:bP):aJ:=λρ=>match fo ρ with
 | some (.lst ds,_,ac)=>match g ac with
  | some ([d],am)=>if d5 (.lst ds)=true/\d5 d=true then match t8 d ds with
   | some j=>if(j:Int)<1000 then some (.int (Int.ofNat j),9,am)else none
   | none=>none
   else none
  | _=>none
 | _=>none
theorem Rep.GK{H:Hp}{w:Wn}{ds:List D}{v:V}{F:List Addr}(r:Rep K H w .f 0 (.lst ds) v F):∃ a us,v=.ref a/\cQ K H a us:=by obtain⟨a,vs,e,h,_⟩:=r.eX;exact⟨a,vs,e,h⟩
theorem SW{k:Nat}(hr:bc k X.A)(ho:QD X a fa)(ha:ft X [e] g)(cf:attributeBase a "count" X.env (eval a X.env)=eval a X.env:=by rfl)(dJ:((backTo aA (starEach [e] X.env)).all (λx=>!x.1)&&(backToKw aA (keywordEach [] X.env)).all (λx=>x.1.isSome)
   && decide ([e].length+([]:List Keyword).length+(if([]:List Keyword).isEmpty then 0 else 1)<30))=true:=by rfl) (cj:(apos.endLine==aA.line)=true:=by rfl) (hs:starEach [e] X.env=(false,eval e X.env)::starEach [] X.env:=by rfl) (bN:(backTo aA (starEach [] X.env)).any (·.1)=false:=by rfl):QD X (.Call (.Attribute a "count" apos) [e] [] aA) (Cd fa g):=⟨have ho:=ho.o;have ha:=ha.o;PE.imp (rq Zp Yq PySem.F.type_list_count (SS (vJ hr)) ho ha cf dJ cj hs bN) λσ H Q ao=>by
 obtain⟨ρ,w,t,r',q,ad,gd,ee,k⟩:=ao;unfold Cd at ee;split at ee;next ds q1 ac h1=>
  split at ee;next d am h2=>
   split at ee;next aP=>
    cases ee;refine⟨ρ,w,t,_,_,_,gd,h1,λv H1 w1 F1 g1 aN r1=>?_⟩;have r0:=r1.drop (o:=.f) (Qf t);have gg:=g1.drop (t':=t);obtain⟨p0,us,rfl,hq⟩:=Rep.GK r0;refine⟨.inl ⟨rfl,us,hq⟩,ac,cH t w1,t,_,_,gg,h2,λGf H2 w2 g2 bC r2=>?_⟩;obtain⟨v2,rfl,vM⟩:=one r2;have r3:Rep X.K H2 w2 .f 0 (.lst ds) (.ref p0) []:=r0.mJ gg.wl bC.bO;exact⟨ds,d,v2,rfl,⟨_,_,_,_,r3⟩,⟨_,_,_,_,vM⟩,aP.1,aP.2,k _ H2 w2 [] g2.up ((aN.drop gd.wt).trans bC) (.int _)⟩
   .cases ee
  .cases ee
 .cases ee⟩
theorem SX{k:Nat}(hr:bc k X.A)(ho:QD X a fa)(ha:ft X [e] g)(cf:attributeBase a "index" X.env (eval a X.env)=eval a X.env:=by rfl)(dJ:((backTo aA (starEach [e] X.env)).all (λx=>!x.1)&&(backToKw aA (keywordEach [] X.env)).all (λx=>x.1.isSome)
   && decide ([e].length+([]:List Keyword).length+(if([]:List Keyword).isEmpty then 0 else 1)<30))=true:=by rfl) (cj:(apos.endLine==aA.line)=true:=by rfl) (hs:starEach [e] X.env=(false,eval e X.env)::starEach [] X.env:=by rfl) (bN:(backTo aA (starEach [] X.env)).any (·.1)=false:=by rfl):QD X (.Call (.Attribute a "index" apos) [e] [] aA) (Ce fa g):=⟨have ho:=ho.o;have ha:=ha.o;PE.imp (rq Zp Yr PySem.F.type_list_index (SV (vJ hr)) ho ha cf dJ cj hs bN) λσ H Q ao=>by
 obtain⟨ρ,w,t,r',q,ad,gd,ee,k⟩:=ao;unfold Ce at ee;split at ee;next ds q1 ac h1=>
  split at ee;next d am h2=>
   split at ee;next aP=>
    split at ee;next j hj=>
     split at ee;next GJ=>
      cases ee;refine⟨ρ,w,t,_,_,_,gd,h1,λv H1 w1 F1 g1 aN r1=>?_⟩;have r0:=r1.drop (o:=.f) (Qf t);have gg:=g1.drop (t':=t);obtain⟨p0,us,rfl,hq⟩:=Rep.GK r0;refine⟨.inl ⟨rfl,us,hq⟩,ac,cH t w1,t,_,_,gg,h2,λGf H2 w2 g2 bC r2=>?_⟩;obtain⟨v2,rfl,vM⟩:=one r2;have r3:Rep X.K H2 w2 .f 0 (.lst ds) (.ref p0) []:=r0.mJ gg.wl bC.bO;exact⟨ds,d,v2,j,rfl,⟨_,_,_,_,r3⟩,⟨_,_,_,_,vM⟩,aP.1,aP.2,hj,GJ,k _ H2 w2 [] g2.up ((aN.drop gd.wt).trans bC) (.int _)⟩
     .cases ee
    .cases ee
   .cases ee
  .cases ee
 .cases ee⟩
end
end L3
namespace L3
open PySem PySem.Spec PyProof.Rows L2
end L3
namespace L3
open PySem PySem.Spec PyProof.Rows PySem.W L2
variable {j n:Nat}
def GL (K:PySem.W.Frag)(x:gA)(E:XK):St->Hp->Prop:=λσ H=>∃ ρ w t nm,Good K ρ σ H w t/\x ρ=some nm/\∀ C H' w',nsIn K mainGlobals nm=some (some (.ref C))->WL K w' H'->Go H w H' w'->E (.ref C) none H'
theorem tX.e{K:PySem.W.Frag}{x:gA}{E:XK}{D:Ends}{σ:St}{H:Hp}(h:tX K x E D σ H):GL K x E σ H:=by obtain⟨ρ,w,nm,g,e,k⟩:=h;exact⟨ρ,w,0,nm,g,e,k⟩
def GN:gA:=λ_=>none
def sG (g:cI)(x y:gA):gA:=λρ=>match g ρ with
 | some (b,ac)=>if b=true then x ac else y ac
 | none=>none
def GO (nm:Str):gA:=λ_=>some nm
abbrev SY (X:Cx)(E:XK)(e:Expr)(x:gA):Prop:=PE X e λσ H _=>GL X.K x E σ H
structure GP (X:Cx) (E:XK) (e:Expr) (x:gA):Prop where mk::o:SY X E e x
abbrev S0 (X:Cx)(E:XK)(st:Stmt)(x:gA):Prop:=PS X st (tX X.K x E)
structure y9 (X:Cx) (E:XK) (e:Stmt) (x:gA):Prop where mk::o:S0 X E e x
abbrev S1 (X:Cx)(E:XK)(ss:List Stmt)(x:gA):Prop:=gV X ss (tX X.K x E)
structure wg (X:Cx) (E:XK) (e:List Stmt) (x:gA):Prop where mk::o:S1 X E e x
section
variable {X:Cx}{E:XK}{st:Stmt}{ss bI a b:List Stmt}{x y:gA}{f:aI}{g:cI}{c e:Expr}{es:List Expr}{pos pos' p:Pos}
theorem S2:wg X E ss GN:=⟨λ_ _ _ _ _ _ h=>by obtain⟨_,_,_,_,e,_⟩:=h;cases e⟩
theorem Cf(h:y9 X E st x):wg X E (st::bI) x:=⟨have h:=h.o;by
 intro Uf s σ H D I hh;refine Jy (bg (h Uf s σ H { nx:=λ_ _=>False,rt:=λ_ _=>False } I hh) λfl s1 q=>?_);cases fl with
 | next=>obtain⟨_,_,_,z⟩:=q;exact z.elim
 | brk=>obtain⟨_,_,_,z⟩:=q;exact z.elim
 | cont=>obtain⟨_,_,_,z⟩:=q;exact z.elim
 | ret u=>obtain⟨_,_,_,_,_,z⟩:=q;exact z.elim⟩
theorem S3(hc:g_ X c g)(ha:wg X E a x)(hb:wg X E b y):y9 X E (.If c a b pos) (sG g x y):=⟨have hc:=hc.o;have ha:=ha.o;have hb:=hb.o;PS.imp (Es hc ha hb) λD σ H ao=>by
 obtain⟨ρ,w,nm,gd,e,k⟩:=ao;unfold sG at e;split at e;next b' ac h1=>
  refine⟨ρ,w,0,b',ac,gd,h1,λH1 w1 g1 aN=>?_⟩;cases b' with
  | true=>exact⟨ac,w1,nm,g1,e,λC H2 w2 n wl bC=>k C H2 w2 n wl (aN.trans bC)⟩
  | false=>exact⟨ac,w1,nm,g1,e,λC H2 w2 n wl bC=>k C H2 w2 n wl (aN.trans bC)⟩
 .cases e⟩
theorem S4(he:GP X E e x)(hs:swapsWith e none pos.line X.env=pure false:=by rfl):y9 X E (.Expr e pos) x:=⟨have he:=he.o;PS.imp (Er he hs) λD σ H ao=>ao.e⟩
end
section
variable {P:Program}{w:World}{K:PySem.W.Frag}{mg:Str->Option Value}{base:Heap}{N:List Str}{qual:Str}{scope:Scope}{f:Addr}{cd:Value}{A:Around}{outer:List Env}{aC:Shared}{bM:Hp}{E:XK}
theorem S5{nm txt:Str}{k j:Nat}{np aA pf pos:Pos}(hr:bc k (A.deeper (envOfC qual scope aC.heap.objs.size f cd)))(hC:∃ C,B0 K mg nm C)(hg:Gl (ka P w K mg base N qual scope f cd A outer aC bM E) nm:=by rfl)(gZ:(nm==("__debug__":Str))=false:=by decide):y9 (ka P w K mg base N qual scope f cd A outer aC bM E) E (.Raise (some (.Call (.Name nm np) [.Constant (.str txt) j pf] [] aA)) none pos) (GO nm):=⟨by obtain⟨C,hC⟩:=hC;refine PS.imp (Sx hr.hd hC hg gZ) λD σ H ao=>?_;obtain⟨ρ,w',B1,g,e,k⟩:=ao;cases e;exact k C H w' hC.ns g.wl Go.refl⟩
theorem S6{k:Nat}{x:Str}{F:List D->Option Str}{e:Expr}{es:List Expr}{g:bP}{p pos:Pos}(S7:lA P w K mg base k x n F)(hr:bc j (A.deeper (envOfC qual scope aC.heap.objs.size f cd)))(hk:k<=j)(ha:ft (ka P w K mg base N qual scope f cd A outer aC bM E) (e::es) g)(hg:Gl (ka P w K mg base N qual scope f cd A outer aC bM E) x:=by rfl)(gZ:(x==("__debug__":Str))=false:=by decide)(he:starEach (e::es) (envOfC qual scope aC.heap.objs.size f cd)=(false,eval e (envOfC qual scope aC.heap.objs.size f cd))::starEach es (envOfC qual scope aC.heap.objs.size f cd):=by rfl)(cB:(backTo pos (starEach es (envOfC qual scope aC.heap.objs.size f cd))).any (·.1)=false:=by rfl):GP (ka P w K mg base N qual scope f cd A outer aC bM E) E (.Call (.Name x p) (e::es) [] pos) (B3 F n g):=⟨have ha:=ha.o;by
 obtain⟨fn,fd,ps,G,hm,su,hb⟩:=S7;refine PE.imp (Am (X:=ka P w K mg base N qual scope f cd A outer aC bM E) (E:=E) G (hr.mono hk) hg hm su hb .nil (λUf σ H s e s' I h=>Ss (λ_ _ h=>h) I h) ha gZ he cB) λσ H Q ao=>?_;obtain⟨ρ,w',t,nm,gd,e,k'⟩:=ao;unfold B3 at e;split at e;next ds ac h1=>
  split at e;next hn=>
   refine⟨ρ,w',t,ds,ac,gd,h1,λvs H1 w1 g1 aN r1=>?_⟩;show B2 K n F (vs++[]) H1 Q E;rw[Q5];refine⟨by rw[<- r1.length];exact hn,ds,λa=>(w1 a).map λ_=>Ow.f,nm,λa o e=>?_,⟨λa o e=>?_,g1.wl.tb⟩,?_,e,λC H2 w2 nO rN bC=>k' C H2 w1 nO ⟨λa o ew=>?_,rN.tb⟩ (aN.trans ⟨λa x e n=>?_,λa o ew no=>?_⟩)⟩
   .try dsimp only at e
    cases ew:w1 a with
    | none=>rw[ew]at e;cases e
    | some o'=>rw[ew]at e;cases e;rfl
   .try dsimp only at e
    cases ew:w1 a with
    | none=>rw[ew]at e;cases e
    | some o'=>exact g1.wl a o' ew
   .exact ah.freeze (λa n=>by show(w1 a).map _=_;rw[n];rfl) r1 nM
   .obtain⟨eN,q⟩:=g1.wl a o ew;have:=(bC.keep a .f (by show(w1 a).map _=_;rw[ew];rfl) (λi z=>nomatch z)).1;exact⟨eN,by rw[this];exact q⟩
   .exact⟨(bC.bO a x e (by show(w1 a).map _=_;rw[n];rfl)).1,n⟩
   .exact⟨(bC.keep a .f (by show(w1 a).map _=_;rw[ew];rfl) (λi z=>nomatch z)).1,ew⟩
  .cases e
 .cases e⟩
end
abbrev sH:=aW->Option (Str×aW)
def CE (Y:Cx)(Uf:List (Addr×Obj))(σ:St)(H:Hp)(w:Wn)(nm:Str)(ac:aW)(ev:Value)(s':Shared):Prop:=
 ∃ s1 H1 w1 a C t B H',ev=.ref a/\Inv Y.fU Uf σ H1 s1/\Good Y.K ac σ H1 w1 0/\Go H w H1 w1/\pb Y.prog Y.w Y.stack H1 s1 a C t B H' s'/\nsIn Y.K mainGlobals nm=some (some (.ref C))/\(∀ b o,H1 b=some o->Sm o (H' b))/\TB Y.K H'
def S9 (Y:Cx)(st:Stmt)(y:sH):Prop:=∀ (Uf:List (Addr×Obj)) (s:Shared) (σ:St) (H:Hp) (ρ:aW) (w:Wn) (nm:Str) (ac:aW),Inv Y.fU Uf σ H s->Good Y.K ρ σ H w 0->y ρ=some (nm,ac)->
 wpAny (model Y.prog Y.w) Y.A (exec st Y.env) (λ_ _=>False) (CE Y Uf σ H w nm ac) s
structure GQ (Y:Cx) (e:Stmt) (y:sH):Prop where mk::o:S9 Y e y
def S_ (Y:Cx)(ss:List Stmt)(y:sH):Prop:=∀ (Uf:List (Addr×Obj)) (s:Shared) (σ:St) (H:Hp) (ρ:aW) (w:Wn) (nm:Str) (ac:aW),Inv Y.fU Uf σ H s->Good Y.K ρ σ H w 0->y ρ=some (nm,ac)->
 wpAny (model Y.prog Y.w) Y.A (execs ss Y.env) (λ_ _=>False) (CE Y Uf σ H w nm ac) s
structure GR (Y:Cx) (e:List Stmt) (y:sH):Prop where mk::o:S_ Y e y
def wj (Fx:List D->Option Str)(n:Nat)(g:bP):sH:=λρ=>match g ρ with
 | some (ds,ac)=>if ds.length=n then(Fx ds).map λnm=>(nm,ac)else none
 | none=>none
def wm (L:List Str)(f:aI)(y:sH)(ie ik:Nat):aI:=λρ=>match y ρ with
 | some (nm,ac)=>if nm∈L then some (.nx (((ac.set ie (some (.exc nm,9))).set ik (some (.exc nm,9))).set ie none))else none
 | none=>f ρ
section
variable {Y:Cx}{c e:Expr}{es:List Expr}{g:bP}{gt:cI}{x y:sH}{a b ss:List Stmt}{st:Stmt}{pos:Pos}
theorem Ta(h:GQ Y st y):GR Y [st] y:=⟨have h:=h.o;λUf s σ H ρ w nm ac I gd e=>
 Jy (bg (h Uf s σ H ρ w nm ac I gd e) λ_ _ z=>z.elim)⟩
theorem Tb{z u:Str}{Fx:List D->Option Str}{k:Nat}{yp fp aA jh:Pos}(CX:lA Y.prog Y.w Y.K Y.mg Y.base k z n Fx)(hr:bc j Y.A)(hk:k<=j)(ha:ft Y.fU (e::es) g)(Tc:Gl Y z:=by rfl)(Td:(z==("__debug__":Str))=false:=by decide)(wo:swapsWith (.Call (.Name z fp) (e::es) [] aA) (some (.Name u yp)) jh.line Y.env=pure false:=by rfl)(he:starEach (e::es) Y.env=(false,eval e Y.env)::starEach es Y.env:=by rfl)(cB:(backTo aA (starEach es Y.env)).any (·.1)=false:=by rfl):GQ Y (.Assign [.Name u yp] (.Call (.Name z fp) (e::es) [] aA) jh) (wj Fx n g):=⟨have ha:=ha.o;by
 intro Uf s σ H ρ w nm ac I gd ee;unfold wj at ee;split at ee;next ds am h1=>
  split at ee;next hn=>
   obtain⟨B1,hx,e0⟩:=YB.mp ee;cases e0;obtain⟨fn,fd,ps,G,hm,su,hb⟩:=CX;refine wpAny_Assign_Name ?_ wo;refine Jj (u_ (X:=Y.fU) I Tc hm ?_ Td);refine W.callWith_K (h₀:=Y.base) I.ok.mod.u3 su (Zs (ha aA Uf s σ H (λvs H1=>∃ w1,Good Y.K ac σ H1 w1 0/\Go H w H1 w1/\ah Y.K H1 w1 .f 0 ds vs []) I ⟨ρ,w,0,ds,ac,gd,h1,λvs H1 w1 g1 aN r1=>⟨w1,g1,aN,r1⟩⟩) (λus s1 Bx=>?_) (λ_ _ z=>False.elim z)) he cB;obtain⟨vs,H1,I1,rv,w1,g1,aN,r1⟩:=Bx;refine⟨I1.fC,?_⟩;have jg:B2 Y.K n Fx vs H1 (λ_ _=>False) (λc _ H'=>∃ C,c=.ref C/\nsIn Y.K mainGlobals nm=some (some (.ref C))/\(∀ b o,H1 b=some o->Sm o (H' b))/\TB Y.K H'):=by
    refine⟨by rw[<- r1.length];exact hn,ds,λa=>(w1 a).map λ_=>Ow.f,nm,λa o e=>?_,⟨λa o e=>?_,g1.wl.tb⟩,?_,hx,λC H2 w2 nO rN bC=>⟨C,rfl,nO,λb o e=>?_,rN.tb⟩⟩
    .try dsimp only at e
     cases ew:w1 a with
     | none=>rw[ew]at e;cases e
     | some o'=>rw[ew]at e;cases e;rfl
    .try dsimp only at e
     cases ew:w1 a with
     | none=>rw[ew]at e;cases e
     | some o'=>exact g1.wl a o' ew
    .exact ah.freeze (λa n=>by show(w1 a).map _=_;rw[n];rfl) r1 nM
    .cases ew:w1 b with
     | none=>exact(bC.bO b o e (by show(w1 b).map _=_;rw[ew];rfl)).1
     | some o'=>exact sm (((bC.keep b .f (by show(w1 b).map _=_;rw[ew];rfl) (λi z=>nomatch z)).1).trans e)
   have hl:us.length=ps.length:=by rw[<- rv.length];exact G.len _ _ _ _ jg
   have yb:=hb s1 us I1.fC (by rw[Q5];exact hl);rw[Q5]at yb;refine Yw (Z6 (G.run Y.A Y.stack s1 H1 ⟨us,[]⟩ us vs _ _ (hr.mono hk) I1.vd yb rv jg) λr s' hq=>?_);cases r with
   | ok fl=>
    cases fl with
    | ret u=>obtain⟨_,_,_,z⟩:=I1.after hq;exact z.2.elim
    | next=>exact False.elim hq
    | brk=>exact False.elim hq
    | cont=>exact False.elim hq
   | error ev=>
    obtain⟨a,C,t,B,H',rfl,F',C',eC,nO,pq,Cg⟩:=hq;cases eC;exact⟨s1,H1,w1,a,C,t,B,H',rfl,I1,g1,aN,F',nO,pq,Cg⟩
  .cases ee
 .cases ee⟩
theorem Te{R nn kx:Str}{L:List Str}{f:aI}{ie ik:Nat}{np kp vp apos mV:Pos}(hU:ph Y.K Y.mg R L)(hf:fY Y.fU ss f)(hx:GR Y ss y)(hN:Y.N.Nodup)(sE:Y.N[ie]? = some nn)(t7:Y.N[ik]? = some kx)(iI:Y.stack=Y.env::Y.outer:=by rfl)(B5:Y.env.frame=some Y.env.locals:=by rfl)(cG:Y.env.scope.names.lookup nn=some .local:=by rfl)(y7:Y.env.scope.names.lookup kx=some .local:=by rfl)(hg:Gl Y R:=by rfl)(gZ:(R==("__debug__":Str))=false:=by decide)(B7:(nn==("__debug__":Str))=false:=by decide)(B8:(nn==("__classdict__":Str))=false:=by decide)(rH:swapsWith (.Name nn vp) (some (.Name kx kp)) apos.line Y.env=pure false:=by rfl):jl Y.fU (.Try ss [.ExceptHandler (some (.Name R np)) (some nn) [.Assign [.Name kx kp] (.Name nn vp) apos] mV] [] [] pos) (wm L f y ie ik):=⟨have hf:=hf.o;have hx:=hx.o;by
 intro Uf s σ H Dn I hh;obtain⟨ρ,w,o,gd,ee,K'⟩:=hh;unfold wm at ee;refine wpAny_Try_except ?_;split at ee;next nm ac h1=>
  split at ee;next hL=>
   cases ee;obtain⟨RA,hR,B6,hmg,jV⟩:=hU;refine Zs (hx Uf s σ H ρ w nm ac I gd h1) (λ_ _ z=>z.elim) λev s' q=>?_;obtain⟨s1,H1,w1,a,C,t,B,H',rfl,I1,g1,aN,F',nO,pq,Cg⟩:=q;obtain⟨Tf,da⟩:=jV nm hL C nO;refine SE (X:=Y.fU) I1 F' iI B5 hN sE t7 cG y7 hR B6 da hmg hg gZ B7 B8 rH λs5 oe xS I5=>?_;have wq:ie<σ.length:=by rw[I.len];exact(Qq.mp sE).1
   have Ci:ik<σ.length:=by rw[I.len];exact(Qq.mp t7).1
   have Cj:=F'.free;obtain⟨g2,bC⟩:=g1.grow (H':=upd H' a (ue a oe)) (λb o q=>by obtain⟨y,ey,_⟩:=(pq b o q).is;unfold upd;rw[Qt (λz=>by rw[<- z,ey]at Cj;cases Cj)];exact pq b o q) (Cg.upd rfl (.inl Cj))
   have rep:∀ w',Rep Y.K (upd H' a (ue a oe)) w' .f 0 (.exc nm) (.ref a) []:=λw'=>.exc (ob:=oe) (u:=.ext λh=>h.get? a=some oe) (by unfold upd;rw[Ql rfl];rfl) ⟨C,xS,Tf⟩ (λ_ z=>nomatch z);obtain⟨g3,iO⟩:=g2.rT (i:=ie) wq (rep _);obtain⟨g4,ls⟩:=g3.rT (i:=ik) (by rw[QA];exact Ci) (rep _);obtain⟨g5,iN⟩:=g4.unset (i:=ie) (v:=none) (by rw[QA,QA];exact wq);exact⟨_,_,I5,K' _ _ _ (by rw[QA,QA,QA]) g5 ((((aN.trans bC).trans iO).trans ls).trans iN)⟩
  .cases ee
 .refine Zs (hf Uf s σ H Dn I ⟨ρ,w,o,gd,ee,K'⟩) (λfl s1 q=>?_) (λ_ _ z=>False.elim z);cases fl with
  | next=>exact Jg q
  | brk=>exact q
  | cont=>exact q
  | ret u=>exact q⟩
end
end L3
namespace L3
open PySem PySem.Spec PyProof.Rows L2
@[simp] def Ck (i:Nat):aJ:=λρ=>match ρ[i]? with
 | some (some (.lst ds,q))=>if q<=1 then some (.lst ds,1,ρ)else none
 | some (some (.tup ds,_))=>some (.lst ds,1,ρ)
 | _=>none
theorem Rep.wu{K:PySem.W.Frag}{H:Hp}{w:Wn}{o:Ow}{q:Nat}{ds:List D}{v:V}{F:List Addr}(r:Rep K H w o q (.lst ds) v F)(hq:q<=1):∃ a vs,v=.ref a/\cQ K H a vs/\ah K H w o 0 ds vs []:=by
 match q,hq with
 | 0,_=>exact r.eX
 | 1,_=>
  obtain⟨a,vs,e,F',_,h,_,r,_⟩:=r.inv;have z:=r.zero;subst z;exact⟨a,vs,e,cQ.of h,r⟩
section
variable {X:Cx}{pos p p1 p2:Pos}
theorem Tg{i:Nat}{x:Str}(hm:X.mg "list" = none)(hb:bootBuiltins "list" = some (.type "list"))(h:QE X (.Name x p1) (iH i))(hg:Gl X "list":=by rfl)(he:starEach [.Name x p1] X.env=(false,eval (.Name x p1) X.env)::starEach [] X.env:=by rfl)(cB:(backTo pos (starEach [] X.env)).any (·.1)=false:=by rfl):QD X (.Call (.Name "list" p) [.Name x p1] [] pos) (Ck i):=⟨have h:=h.o;PE.imp (tN E1 hg hm hb (jf h k_ he) (by decide) (by decide) he cB) λσ H Q ao=>by
 obtain⟨ρ,w,t,r',q,ad,gd,ee,k⟩:=ao;unfold Ck at ee;split at ee;next ds q0 e0=>
  split at ee;next hq=>
   cases ee;obtain⟨v,F,h1,h2⟩:=gd.slot i _ q0 e0;obtain⟨p,ys,rfl,hs,rs⟩:=h2.wu hq;refine⟨_,h1,p,ys,rfl,.inl hs,λl hl=>?_⟩;obtain⟨a1,a2,a3⟩:=oO gd hl (rs.any gd.wl);exact k _ _ _ _ a1 a2 a3
  .cases ee
 next ds q0 e0=>
  cases ee;obtain⟨v,F,h1,h2⟩:=gd.slot i _ q0 e0;obtain⟨p,ys,rfl,hs,rs⟩:=h2.d_;refine⟨_,h1,p,ys,rfl,.inr hs,λl hl=>?_⟩;obtain⟨a1,a2,a3⟩:=oO gd hl (rs.any gd.wl);exact k _ _ _ _ a1 a2 a3
 .cases ee⟩
end
end L3
namespace L3
open PySem PySem.Spec PyProof.Rows PySem.W L2
variable {H:Hp}{K:PySem.W.Frag}{Q:Bool->Shared->Prop}{led:Bool}{m v:Nat}{o:Ow}{w:Wn}
abbrev met (ks:List Int):List Int:=firstMet (λi=>ks.getD i 0) ks.length
theorem GS:∀ {ks:List Int} {us:List Value},bo (ks.map V.int) us->IntsAre us ks
 | [],_,h=>by cases h;exact .nil
 | k::ks,_,h=>by
  cases h with
  | cons r rs=>
   obtain⟨t,rfl⟩:=r;exact .cons k t (GS rs)
def bl (m:Nat):List Nat:=(range 5).filter λi=>m.testBit i
def bt (m:Nat)(led:Bool):SetTable:={ mask:=if(bl m).length<5 then 7 else 31,place:=(bl m).toArray,dummies:=#[],finger:=0,led:=led,moves:=if(bl m).length<5 then 0 else 1,plain:=true }
def c_ (m:Nat)(z:Nat->Tok):Array (Int×Value):=((bl m).map λv:Nat=>(Int.ofNat v,Value.int (Int.ofNat v) (z v))).toArray
def so (m:Nat)(z:Nat->Tok)(ep:Nat)(led:Bool):Obj:={ cls:=.type "set",dict:=none,data:=.set (c_ m z) ep (bt m led) }
def bor (m v:Nat):Nat:=m ||| 1 <<< v
theorem y_:∀ m:Nat,m<32->∀ v:Nat,v<5->bor m v<32:=by decide +kernel
theorem za:∀ m:Nat,m<32->∀ v:Nat,v<5->(v∈bl m ↔ m.testBit v=true):=by decide +kernel
theorem zb(m:Nat)(h:v∈bl m):v<5:=by unfold bl at h;rw[Zx]at h;exact Q0.mp h.1
theorem Th:∀ m:Nat,m<32->∀ v:Nat,v<5->m.testBit v=true->bor m v=m:=by decide +kernel
theorem Cn:∀ m:Nat,m<32->∀ led:Bool,(bt m led).fits (bl m).length=true:=by decide +kernel
theorem Ti:∀ m:Nat,m<32->∀ v:Nat,v<5->m.testBit v=false->∀ led:Bool,(bt m led).freeSlot (Int.ofNat v)=some (v,false):=by decide +kernel
theorem Tj:∀ m:Nat,m<32->∀ v:Nat,v<5->m.testBit v=false->∀ led:Bool,(bl m).take ((bt m led).put v).2++v::(bl m).drop ((bt m led).put v).2=bl (bor m v):=by decide +kernel
theorem Tn:∀ m:Nat,m<32->∀ v:Nat,v<5->m.testBit v=false->∀ led:Bool,((bt m led).put v).1.fits (bl (bor m v)).length=true:=by decide +kernel
theorem Co:∀ m:Nat,m<32->∀ v:Nat,v<5->m.testBit v=false->∀ led:Bool,((bt m led).put v).1.plain=true/\(bl (bor m v)).length<=5:=by decide +kernel
theorem To:∀ m:Nat,m<32->∀ v:Nat,v<5->m.testBit v=false->∀ led:Bool,((bt m led).put v).1.tooFull=false->((bt m led).put v).1=bt (bor m v) led:=by decide +kernel
def rl (m v:Nat)(led:Bool):=((bt m led).put v).1.relaid ((bl (bor m v)).map Int.ofNat).toArray (SetTable.grown (bl (bor m v)).length)
def GU (m v:Nat)(led:Bool):Bool:=match rl m v led with
 | some (x,y)=>decide (x=bt (bor m v) led)&&decide (y=Array.range (bl (bor m v)).length)
 | none=>false
theorem Tp:∀ m:Nat,m<32->∀ v:Nat,v<5->m.testBit v=false->∀ led:Bool,((bt m led).put v).1.tooFull=true->GU m v led=true:=by decide +kernel
theorem Tq(hm:m<32)(hv:v<5)(hb:m.testBit v=false)(hf:((bt m led).put v).1.tooFull=true):rl m v led=some (bt (bor m v) led,Array.range (bl (bor m v)).length):=by
 have a:=Tp m hm v hv hb led hf;unfold GU at a;split at a;next x y h=>
  rw[Zo,Js,Js]at a;rw[h,a.1,a.2]
 .cases a
theorem Tr:∀ n:Nat,n<9->coversAll (Array.range n) n=true:=by decide +kernel
theorem kL(m:Nat)(z:Nat->Tok):(c_ m z).size=(bl m).length:=by unfold c_;rw[Qk,Qg]
theorem wx(m:Nat)(z:Nat->Tok):(c_ m z).toList=(bl m).map λv:Nat=>(Int.ofNat v,Value.int (Int.ofNat v) (z v)):=rfl
theorem Ts(m:Nat)(z:Nat->Tok):(c_ m z).map (·.1)=((bl m).map Int.ofNat).toArray:=by apply Array.ext';rw[Array.toList_map,wx,QU];rfl
theorem Tt(hm:m<32)(hv:v<5)(hb:m.testBit v=false)(z:Nat->Tok)(t:Tok) :
  SetTable.insertAt (c_ m z) ((bt m led).put v).2 (Int.ofNat v,Value.int (Int.ofNat v) t)=c_ (bor m v) (λk=>if k=v then t else z k):=by
 apply Array.ext';rw[SetTable.toList_insertAt,wx,wx,<- Tj m hm v hv hb led,QZ,Zf,<- Yj,<- List.map_drop];have nm:v ∉ bl m:=λh=>by rw[(za m hm v hv).mp h]at hb;cases hb
 have e:∀ l:List Nat,(∀ k∈l,k∈bl m)->l.map (λk:Nat=>(Int.ofNat k,Value.int (Int.ofNat k) (z k)))=l.map (λk:Nat=>(Int.ofNat k,Value.int (Int.ofNat k) ((λk=>if k=v then t else z k) k))):=by intro l hl;apply Zc;intro k hk;have:k≠v:=λh=>nm (h ▸ hl k hk);simp only[Qt this]
 rw[e _ (λk hk=>ZP hk),e _ (λk hk=>List.mem_of_mem_drop hk)];simp only[Z7]
theorem GV(prog:Program)(w:World):∀ v:Nat,v<5->(intKind prog w).hash (Int.ofNat v)=Int.ofNat v:=by show ∀ v:Nat,v<5->hashInt (Int.ofNat v)=Int.ofNat v;decide +kernel
theorem Tu(prog:Program)(w:World)(z:Nat->Tok):ElemsOf (intKind prog w) (c_ m z).toList:=by intro e he;rw[wx]at he;obtain⟨v,hv,rfl⟩:=Qu.mp he;exact⟨⟨Int.ofNat v,YC _ _ _ _,(GV prog w v (zb m hv)).symm⟩,rfl⟩
section
variable {prog:Program}{w:World}{A:Around}{E:Tk}{s:Shared}
theorem Tv{a:Addr}{ep:Nat}{z:Nat->Tok}{t:Tok}(hm:m<32)(hv:v<5)(ho:s.heap.get? a=some (so m z ep led))
  (h:∀ h' z' k6 r,Heap.SameBut a s.heap h'->h'.get? a=some (so (bor m v) z' k6 led)->Q r { s with heap:=h' }) :
  wpAny (model prog w) A (setAddHashed a (.int (Int.ofNat v) t) ((intKind prog w).hash (Int.ofNat v))) Q E s:=by
 have hd:(so m z ep led).data=.set (c_ m z) ep (bt m led):=rfl;have hf:(bt m led).fits (c_ m z).size=true:=by rw[kL];exact Cn m hm led
 have GW:=Tu prog w (m:=m) z;have hsz:(c_ m z).size<scanBound:=by rw[kL];unfold bl scanBound;exact Jk (Zj _ _) (by simp)
 have rg:(intKind prog w).is (Int.ofNat v) (.int (Int.ofNat v) t)=true:=YC _ _ _ _;unfold setAddHashed setAddHashedIn;refine Zk (Qa (wpAny_setState_of ho hd hf ?_));dsimp only;rw[byScan_of (knd:=intKind prog w) rfl hsz GW];simp only[↓reduceIte];unfold setAddByScan;refine Qa ?_;refine Qa (wpAny_rule ?_);refine Qa (wpAny_setScan_of rg ho hd hf GW ?_);cases hr:List.findIdx? (λe=>(intKind prog w).is (Int.ofNat v) e.2) (c_ m z).toList with
 | some j=>
  dsimp only;obtain⟨hj,GX,_⟩:=ZJ.mp hr;have Cp:=QS hj;obtain⟨u,hu,eu⟩:=Qu.mp (show(c_ m z).toList[j]∈(bl m).map _ from Cp);rw[<- eu]at GX;have Tw:v=u:=by have:=(intKind prog w).inj _ _ _ GX (YC _ _ (Int.ofNat u) _);exact Int.ofNat.inj this
  subst Tw;have e:s={ s with heap:=s.heap }:=by cases s;rfl
  refine Qe (Qe ?_);rw[e];refine h s.heap z ep _ (Heap.SameBut.refl a s.heap) ?_;rw[Th m hm v hv ((za m hm v hv).mp hu)];exact ho
 | none=>
  dsimp only;have hb:m.testBit v=false:=by
   cases hk:m.testBit v with
   | false=>rfl
   | true=>
    have:=List.findIdx?_eq_none_iff.mp hr (Int.ofNat v,Value.int (Int.ofNat v) (z v)) (Qu.mpr ⟨v,(za m hm v hv).mpr hk,rfl⟩);rw[YC]at this;cases this
  have hL:layNew (bt m led) (c_ m z) ((intKind prog w).hash (Int.ofNat v)) (.int (Int.ofNat v) t)=(c_ (bor m v) (λk=>if k=v then t else z k),((bt m led).put v).1,false,false):=by unfold layNew;rw[GV prog w v hv,Ti m hm v hv hb led];dsimp only;rw[Tt hm hv hb z t,kL];unfold SetTable.orStandIn;rw[Tn m hm v hv hb led];rfl
  rw[hL];dsimp only;refine Qa (show wpAny _ _ (pure ()) _ _ _ from Qe ?_);rw[(Co m hm v hv hb led).1];simp only[↓reduceIte];rw[hashByValue_scannable 8 (x:=.int (Int.ofNat v) t) rfl];refine Qa (Qe ?_);simp only[plainKind,↓reduceIte];have GY:(c_ (bor m v) (λk=>if k=v then t else z k)).size<=sizeLine:=by rw[kL];exact QF (Co m hm v hv hb led).2 (by rw[YT];omega)
  refine Qa (wpAny_storeSet_of ho hd ?_ GY);have Cq:(s.heap.update a (Obj.putSet (c_ (bor m v) (λk=>if k=v then t else z k)) ((bt m led).put v).1)).get? a=some { so m z ep led with data:=.set (c_ (bor m v) (λk=>if k=v then t else z k)) (ep+1) ((bt m led).put v).1 }:=by have:=Z1 (Obj.putSet (c_ (bor m v) (λk=>if k=v then t else z k)) ((bt m led).put v).1) ho (by rw[putSet_of _ _ hd];rfl);rw[putSet_of _ _ hd]at this;exact this
  have wy:=Ja s.heap a (Obj.putSet (c_ (bor m v) (λk=>if k=v then t else z k)) ((bt m led).put v).1);cases GZ:((bt m led).put v).1.tooFull with
  | false=>
   rw[Qt (by simp)];refine Qe (show wpAny _ _ (pure true) _ _ _ from Qe (h _ (λk=>if k=v then t else z k) (ep+1) _ wy ?_));rw[Cq,To m hm v hv hb led GZ];rfl
  | true=>
   rw[Ql (by simp)];have hR:relayAll ((bt m led).put v).1 (c_ (bor m v) (λk=>if k=v then t else z k)) (SetTable.grown (c_ (bor m v) (λk=>if k=v then t else z k)).size)=(c_ (bor m v) (λk=>if k=v then t else z k),bt (bor m v) led,false):=by
    unfold relayAll;rw[Ts,kL];rw[show((bt m led).put v).1.relaid ((bl (bor m v)).map Int.ofNat).toArray (SetTable.grown (bl (bor m v)).length)=some (bt (bor m v) led,Array.range (bl (bor m v)).length)from Tq hm hv hb GZ];dsimp only;have e1:(Array.range (bl (bor m v)).length).filterMap (λi=>(c_ (bor m v) (λk=>if k=v then t else z k))[i]?)=c_ (bor m v) (λk=>if k=v then t else z k):=by apply Array.ext';rw[Array.toList_filterMap,Array.toList_range,<- kL (bor m v) (λk=>if k=v then t else z k)];exact filterMap_getElem?_range _
    rw[e1,Tr _ (Jk (Co m hm v hv hb led).2 (by decide)),kL,Cn _ (y_ m hm v hv) led];rfl
   rw[hR];dsimp only;refine Qa (show wpAny _ _ (pure ()) _ _ _ from Qe ?_);refine Qa (wpAny_storeSet_of (s:={ s with heap:=_ }) Cq rfl ?_ GY);refine Qe (show wpAny _ _ (pure true) _ _ _ from Qe (h _ (λk=>if k=v then t else z k) (ep+1+1) _ (wy.trans (Ja _ a _)) ?_));have:=Z1 (Obj.putSet (c_ (bor m v) (λk=>if k=v then t else z k)) (bt (bor m v) led)) Cq (by rw[putSet_of _ _ rfl];rfl);rw[putSet_of _ _ rfl]at this;exact this
end
def mb (val:Nat->Nat):Nat->Nat
 | 0=>0
 | i+1=>bor (mb val i) (val i)
theorem Cr{val:Nat->Nat}{n:Nat}(hv:∀ i,i<n->val i<5):∀ i,i<=n->mb val i<32
 | 0,_=>by show 0<32;decide
 | i+1,h=>y_ _ (Cr hv i (by omega)) _ (hv i (by omega))
section
variable {prog:Program}{w:World}{A:Around}{R:Result->Shared->Prop}{I:Addr}{fp wr:List Addr}{G:Array GenState->Array GenState->Prop}{n:Nat}{P:Nat->Value->Prop}{St:Nat->Shared->Prop}
theorem Tx(W:WalksS prog w A.in1 I fp wr G n P St)(S:Addr)(G0:S ∉ fp)(led:Bool)
  (val:Nat->Nat) (h5:∀ i,i<n->val i<5) (sI:∀ i v,P i v->∃ t,v=.int (Int.ofNat (val i)) t) :
  ∀ (k i:Nat) (s:Shared) (z:Nat->Tok) (ep:Nat),n-i=k->i<=n->St i s->s.heap.get? S=some (so (mb val i) z ep led)->
   (∀ s' z' k6,Moved (S::wr) G s s'->s'.heap.get? S=some (so (mb val n) z' k6 led)->R (.ok (.ret .none)) s')->
   codeAny (model prog w) A (.builtin "set.update.loop" ⟨[.ref S,.ref I],[]⟩) R s:=by
 have G1:S ∉ wr:=λh=>G0 (W.sub _ h);have da:∀ b∈wr,b∈S::wr:=λb hb=>Qb _ hb;intro k;induction k with
 | zero=>
  intro i s z ep hk hi iI hS hR;have pe:i=n:=by omega
  subst pe;refine ZC Jb ?_;rw[ZO ZE _];show wpAny _ A.in1 (pyNext (.ref I) >>= _) _ _ s;refine Qa (W.done s _ _ iI λs' hm=>?_);show wpAny _ A.in1 (ret Value.none) _ _ s';exact Qe (hR s' z ep (hm.mono da) (hm.heap S _ G1 hS))
 | succ k ih=>
  intro i s z ep hk hi iI hS hR;have dA:i<n:=by omega
  refine ZC Jb ?_;rw[ZO ZE _];show wpAny _ A.in1 (pyNext (.ref I) >>= _) _ _ s;refine Qa (W.item i s _ _ dA iI λv s' hP sF hm=>?_);obtain⟨t,rfl⟩:=sI i v hP;show wpAny _ A.in1 (holding [Value.int (Int.ofNat (val i)) t] (setAdd S (.int (Int.ofNat (val i)) t)) >>= _) _ _ s';refine Qa (Zk ?_);unfold setAdd;refine Zk ?_;refine Qa ((intKind prog w).pyHash (k:=Int.ofNat (val i)) (YC _ _ _ _) ?_);refine Tv (s:={ s' with toks:=s'.toks+1 }) (Cr h5 i hi) (h5 i dA) (hm.heap S _ G1 hS) λh' z' k6 r wy Tz=>?_;refine Qe ⟨plainId_quiet ZE _,ih (i+1) _ z' k6 (by omega) dA (W.frame _ s' _ _ sF (ZS _) λb hb o e=>?_) Tz λpQ TC Cs Ct Cu=>?_⟩
  .rw[wy.2 b (λh:b=S=>G0 (by rw[<- h];exact hb))];exact e
  .refine hR pQ TC Cs (Moved.trans W.gtrans ((hm.mono da).then_heap (ZS _) λb o hb e=>?_) Ct) Cu;rw[wy.2 b (λh:b=S=>hb (by rw[h];exact Qc))];exact e
end
section
variable {prog:Program}{w:World}{A:Around}{E:Tk}{s:Shared}
abbrev fP (w:World):Bool:=w.params.followText "set-order"
theorem TF(led:Bool):(so 0 (λ_=>0) 0 led)={ cls:=.type "set",dict:=none,data:=.set #[] 0 (.fresh 0 0 led) }:=by unfold so;congr 1
theorem TH(a:Value){Q₁:Tk}(h:Q₁ (.ref s.heap.objs.size) { s with heap:=s.heap.push (so 0 (λ_=>0) 0 (!fP w)) }) :
  codeAny (model prog w) A (.call (.builtin "set.__new__") ⟨[.type "set",a],[]⟩) (wants Q₁ E) s:=by
 refine codeAny_of_tree ?_;show wpAny _ A.in1 (do checkBuiltinCall "set.__new__" ⟨[.type "set",a],[]⟩;again (.builtin "set.__new__" ⟨[.type "set",a],[]⟩)) _ _ s;refine Qa (wpAny_of_eq (PySem.F.newCall_set_1 a) (Qe ⟨plainId_quiet YN _,ZC PySem.F.entry_set_new ?_⟩));rw[ZO YN _];unfold Builtin.«set.__new__» Builtin.Frozenset.newClass;have da:=sub_set_self;obtain⟨hp,g,d,tk,os⟩:=s;dsimp only;wp_walk
 refine Ys (Qe ?_);dsimp only;simp only[newObj];refine Qa (wpAny_alloc (Qe ?_));rw[TF]at h;exact Qe h
set_option maxHeartbeats 3200000 in
theorem TJ{t:Addr}{us:List Value}{ks:List Nat}{Q:Tk}(hA:A.handled=none)(ht:s.heap.IsList t us.toArray)(hk:IntsAre us (ks.map Int.ofNat))(h5:∀ k∈ks,k<5)
  (q:∀ (h':Heap) (tk:Nat) z ep,h'.get? s.heap.objs.size=some (so (mb (λi=>ks.getD i 0) ks.length) z ep (!fP w))->(∀ b o,b<s.heap.objs.size->s.heap.get? b=some o->h'.get? b=some o)->Q (.ref s.heap.objs.size) { s with heap:=h',toks:=tk }) :
  wpAny (model prog w) A (call (.type "set") [.ref t]) Q E s:=by
 have hlen:us.length=ks.length:=by rw[IntsAre.length hk,Qg]
 have c1:=Zl.made;have c2:=Zl.sub;obtain⟨cc,tl,c3⟩:=Zl.mro;have c4:=Zl.notType;have c5:=Zl.canCreate;have c6:=PySem.F.typeCall_set_1 (.ref t);refine Yw (codeAny_of_tree (show wpAny _ _ (callAny (.type "set") _) _ _ _ from Qe ⟨JW _ (by decide +kernel),ZC PySem.F.entry_type_call ?_⟩));rw[Around.under_plain (weight_type_call_type "set" [.ref t] []) rfl]
 repeat (any_goals (first|assumption|wp_step))
 refine Z6 (TH (.ref t) (E:=E) (Q₁:=λob s1=>ob=.ref s.heap.objs.size/\s1={ s with heap:=s.heap.push (so 0 (λ_=>0) 0 (!fP w)) }) ⟨rfl,rfl⟩) λr s1 hr=>?_;cases r with
 | error e=>exact hr
 | ok fl=>
  cases fl with
  | ret ob=>
   obtain⟨rfl,rfl⟩:=hr;have g0:(s.heap.push (so 0 (λ_=>0) 0 (!fP w))).get? s.heap.objs.size=some (so 0 (λ_=>0) 0 (!fP w)):=Qv _ rfl;have g1:Shared.TypeIs { s with heap:=s.heap.push (so 0 (λ_=>0) 0 (!fP w)) } (.ref s.heap.objs.size) "set":=⟨_,g0,rfl⟩;have g2:=Zl.init.lookup;have g3:=Zl.init.bind (.ref s.heap.objs.size)
   repeat (any_goals (first|assumption|wp_step))
   refine Z6 (ZN (R:=wants (λr s2=>r=.none/\∃ h' tk z ep,s2={ s with heap:=h',toks:=tk }/\h'.get? s.heap.objs.size=some (so (mb (λi=>ks.getD i 0) ks.length) z ep (!fP w))/\(∀ b o,b<s.heap.objs.size->s.heap.get? b=some o->h'.get? b=some o)) E)
    Zl.init.plain PySem.F.entry_set_init (check_set_init_1 g1 ?_)) λr2 s2 Cv=>?_
   .obtain⟨ol,G2,mL,nl,G3⟩:=ht;obtain⟨oc,od,odt,nK⟩:=ol;simp only at mL G3;subst mL G3;have Cw:(s.heap.push (so 0 (λ_=>0) 0 (!fP w))).get? t=some _:=Qd _ G2;have n1:=PySem.F.sub_list_set;have n2:=PySem.F.sub_list_frozenset;have n3:(Value.type "list" == Value.type "dict")=false:=by decide
    have tt:(s.heap.push (so 0 (λ_=>0) 0 (!fP w))).IsList t us.toArray:=⟨_,Cw,rfl,nl,rfl⟩;unfold Builtin.«set.__init__» noKeywords Builtin.Frozenset.updateFrom;generalize TK:pyIter=PI;wp_walk
    subst TK;refine Yd tt (Qa (wpAny_runValue ?_));have lt:=Qn G2;have e1:(s.heap.push (so 0 (λ_=>0) 0 (!fP w))).objs.size=s.heap.objs.size+1:=Zu ..;have sz:us.toArray.size=ks.length:=by rw[Qk,hlen]
    have sI:∀ (i:Nat) (v:Value),us.toArray[i]? = some v->∃ z,v=.int (Int.ofNat ((λi=>ks.getD i 0) i)) z:=λi v hv=>by
     have hi:i<us.length:=by
      rcases Y7 i us.length with h|h
      .exact h
      .rw[ZW (by rw[Qk];exact h)]at hv;cases hv
     obtain⟨z,e⟩:=IntsAre.int_at hk i v (by rw[<- hv];simp);refine⟨z,?_⟩;rw[e];congr 1;simp only[Qh,Qw];rw[Qi (hlen ▸ hi)];rfl
    have TL:∀ i,i<us.toArray.size->(λi=>ks.getD i 0) i<5:=λi hi=>by rw[sz]at hi;simp only[Qh];rw[Qi hi];exact h5 _ (QS hi)
    refine Tx ((Walks.list (A:=A.in1.in1.in1) (by simp[hA]) _ t (by rw[e1];exact QH (Zh lt)) us.toArray).toS) s.heap.objs.size (by rw[e1];simp only[Qr,QK,YY,not_or];exact⟨QH (Zg _),Y4 lt⟩) (!fP w) (λi=>ks.getD i 0) TL sI (us.toArray.size-0) 0 _ (λ_=>0) 0 (by omega) (ZA _) ⟨⟨_,Qv _ rfl,rfl,rfl⟩,tt.push _⟩ ?TM ?TN
    case TM=>exact Qd _ g0
    case TN=>
     intro s' z' k6 hm hS;rw[sz]at hS;obtain⟨h',g',d',By,Al⟩:=s';cases (show g'=s.gens from hm.gens);cases (show d'=s.drawn from hm.drawn);cases (show Al=s.os from hm.os);refine Qe (show wpAny _ _ (ret Value.none) _ _ _ from Qe ⟨rfl,h',By,z',k6,rfl,hS,λc o hc e=>hm.heap c o ?_ (Qd _ (Qd _ e))⟩);rw[e1];simp only[Qr,QK,YY,not_or];exact⟨QH hc,QH (Zh hc)⟩
   .cases r2 with
    | error e=>exact Cv
    | ok TQ=>
     cases TQ with
     | ret r=>
      obtain⟨rfl,h',tk,z,ep,rfl,hS,kp⟩:=Cv
      repeat (any_goals (first|assumption|wp_step))
      exact q _ _ _ _ hS kp
     | _=>exact Cv.elim
  | _=>exact hr.elim
end
theorem TR:∀ m:Nat,m<32->∀ i:Nat,i<6->i<=(bl m).length->SetTable.below (bl m).toArray (if i=0 then 0 else(bl m).getD (i-1) 0+1)=i:=by decide +kernel
theorem zc:∀ m:Nat,m<32->(bl m).length<=5:=by decide +kernel
theorem G4{α:Type}(next:Nat->Nat):∀ (fuel k:Nat) (bX:List α) (out:Array α),bX.length=fuel->(pickOrder.go next fuel k bX out).toList.Perm (out.toList++bX)
 | 0,k,bX,out,h=>by rw[List.eq_nil_of_length_eq_zero h,Q5];exact .rfl
 | fuel+1,k,bX,out,h=>by
  unfold pickOrder.go;have dA:next k % bX.length<bX.length:=Y3 _ (by omega)
  rw[Qi dA];dsimp only;refine(G4 next fuel (k+1) _ _ (by rw[Y1,Ql dA];omega)).trans ?_;rw[Array.toList_push,QW];refine YO _ ?_;rw[List.eraseIdx_eq_take_drop_succ];have e:bX=bX.take (next k % bX.length)++bX[next k % bX.length]::bX.drop (next k % bX.length+1):=by rw[List.getElem_cons_drop];exact(YM _ _).symm
  conv=>rhs;rw[e]
  show List.Perm (bX[next k % bX.length]::(bX.take (next k % bX.length)++bX.drop (next k % bX.length+1))) _;exact List.perm_middle.symm
theorem TU{α:Type}(next:Nat->Nat)(xs:Array α):(pickOrder next xs).toList.Perm xs.toList:=by unfold pickOrder;exact G4 next _ 0 _ #[] (by simp)
theorem TV:entryFor table "set.__iter__" = some Builtin.«frozenset.__iter__»:=
 entryFor_alias (id':="frozenset.__iter__") (by kernel_rfl) rfl (by decide +kernel) (by kernel_rfl)
theorem uh:Slot "set_iterator" "__next__" "set_iterator.__next__" :=
 .of (owner:="set_iterator") (n:="__next__") (by rw[JH,Z2];kernel_rfl) (by decide +kernel) (by decide +kernel) (by decide +kernel)
  (by first|exact .inl (by decide +kernel)|exact .inr (by decide +kernel)) (by rw[Jq];kernel_rfl)
theorem G5:entryFor table "set_iterator.__next__" = some Builtin.«set_iterator.__next__»:=entryFor_of_tree (by kernel_rfl)
theorem G6(a:Value):argsOk "set_iterator.__next__" ⟨[a],[]⟩:=by unfold argsOk;kernel_rfl
theorem G7:Slot "set_iterator" "__iter__" "set_iterator.__iter__" :=
 .of (owner:="set_iterator") (n:="__iter__") (by rw[JH,Z2];kernel_rfl) (by decide +kernel) (by decide +kernel) (by decide +kernel)
  (by first|exact .inl (by decide +kernel)|exact .inr (by decide +kernel)) (by rw[Jq];kernel_rfl)
theorem TX(a:Value):argsOk "set_iterator.__iter__" ⟨[a],[]⟩:=by unfold argsOk;kernel_rfl
theorem TY:entryFor table "set_iterator.__iter__" = some Builtin.«dict_keyiterator.__iter__»:=
 entryFor_alias (id':="dict_keyiterator.__iter__") (by kernel_rfl) rfl (by decide +kernel) (by kernel_rfl)
def io (a:Addr)(sl i n ep:Nat):Obj:={ cls:=.type "set_iterator",dict:=none,data:=.fields #[.int (Int.ofNat sl) 0,.int (Int.ofNat i) 0,.ref a,.int (Int.ofNat n) 0,.int (Int.ofNat ep) 0],slots:=#[] }
def wk (w:World)(a:Addr)(m:Nat)(z:Nat->Tok)(ep:Nat):Array (Int×Value):=if fP w then pickOrder (w.params.setOrder a ep) (c_ m z)else c_ m z
def ma (w:World)(m i:Nat):Nat:=if fP w then 0 else if i=0 then 0 else(bl m).getD (i-1) 0+1
theorem G8(w:World)(a:Addr)(m:Nat)(z:Nat->Tok)(ep:Nat):(wk w a m z ep).toList.Perm (c_ m z).toList:=by
 unfold wk;split
 .exact TU _ _
 .exact .rfl
theorem zd(w:World)(a:Addr)(m:Nat)(z:Nat->Tok)(ep:Nat):(wk w a m z ep).size=(bl m).length:=by rw[<- ZD,(G8 w a m z ep).length_eq,ZD,kL]
section
variable {prog:Program}{w:World}{A:Around}{E:Tk}{s:Shared}{a I:Addr}{m ep:Nat}{z:Nat->Tok}
theorem sJ{Q:(Array (Int×Value)×Nat×SetTable)->Shared->Prop}(hm:m<32)(ho:s.heap.get? a=some (so m z ep (!fP w)))(h:Q (c_ m z,ep,bt m (!fP w)) s):wpAny (model prog w) A (setState a) Q E s:=
 wpAny_setState_of ho rfl (by rw[kL];exact Cn m hm _) h
theorem Cy(h:Q (fP w) s):wpAny (model prog w) A setsByText Q E s:=by unfold setsByText;exact Qa (Ys (Qe h))
theorem TZ{Q:Tk}(hm:m<32)(ho:s.heap.get? a=some (so m z ep (!fP w)))
  (hQ:Q (.ref s.heap.objs.size) { s with heap:=s.heap.push (io a 0 0 (bl m).length ep) }):wpAny (model prog w) A (pyIter (.ref a)) Q E s:=by
 have hT:s.TypeIs (.ref a) "set":=⟨_,ho,rfl⟩;refine wpAny_pyIter_slot hT YQ (Zn YQ hT TV ?_ (PySem.F.args_set_iter_1 _));unfold Builtin.«frozenset.__iter__» Builtin.Frozenset.slot0 slotArgs;simp only[List.isEmpty_nil,Yf,Ze,↓reduceIte,bind_assoc,JG,bne_self_eq_false];unfold Builtin.Frozenset.addrOf Builtin.Frozenset.sizeOf;refine Qa (Qe ?_)
 try dsimp only
 refine Qa (Qe ?_);have wz:∀ {R:Array (Int×Value)->Shared->Prop},R (c_ m z) s->wpAny (model prog w) A.in1 (setEntries a) R E s:=λh=>by unfold setEntries;exact Qa (sJ hm ho (Qe h))
 refine Qa (Qa (wz (Qe ?_)));have T1:∀ {R:Bool->Shared->Prop},R false s->wpAny (model prog w) A.in1 (setDrawn a) R E s:=λh=>by
  unfold setDrawn;refine Qa (sJ hm ho (Qa (Cy (Qe ?_))));have e:(!fP w&&(!(bt m (!fP w)).plain&&decide ((c_ m z).size > 1)))=false:=by cases fP w<;>rfl
  exact e ▸ h
 refine Qa (T1 ?_);simp only[Ze,↓reduceIte];refine Qa (Qe ?_);have T2:∀ {R:Nat->Shared->Prop},R ep s->wpAny (model prog w) A.in1 (setEpoch a) R E s:=λh=>by unfold setEpoch;exact Qa (sJ hm ho (Qe h))
 refine Qa (T2 ?_);unfold newFields;refine Qa (Q1 (Qe ⟨_,rfl,"set_iterator",_,⟨_,Qv _ rfl,rfl⟩,uh.lookup,?_⟩));rw[kL];exact hQ
theorem G9{i:Nat}{R:Option (Value×Nat)->Shared->Prop}(hm:m<32)(hi:i<=(bl m).length)(ho:s.heap.get? a=some (so m z ep (!fP w)))
  (h:R (((wk w a m z ep)[i]?).map λe=>(e.2,ma w m (i+1))) s):wpAny (model prog w) A (setNext a (ma w m i) i ep) R E s:=by
 unfold setNext;refine Qa (sJ hm ho (Qa (Cy ?_)));dsimp only;cases hb:fP w with
 | true=>
  rw[Ql rfl];rw[Qt (by simp)];refine Qa (m:=setWalk a) ?_;unfold setWalk;refine Qa (sJ hm ho (Qa (Cy ?_)));rw[hb,Ql rfl];refine Qa (Ys (Qe (Qe ?_)));unfold wk ma at h;rw[hb]at h;simp only[↓reduceIte]at h;unfold ma;rw[hb,Ql rfl];exact h
 | false=>
  rw[Qt (by simp)];refine(show wpAny _ _ (if((!(bt m (!false)).plain&&decide ((c_ m z).size > 1))=true)then _ else _) _ _ _ from ?_);rw[Qt (show ¬ ((!(bt m (!false)).plain&&decide ((c_ m z).size > 1))=true)from by show ¬ ((!true&&_)=true);simp)];refine Qa (show wpAny _ _ (if((!(bt m (!false)).led && !(c_ m z).isEmpty)=true)then unsupported "set:maker-not-led" else pure ()) _ _ _ from ?_);rw[Qt (show ¬ ((!(bt m (!false)).led && !(c_ m z).isEmpty)=true)from by show ¬ ((!(!false)&&_)=true);simp)];refine Qe ?_;unfold wk ma at h;rw[hb]at h;simp only[Ze,↓reduceIte,Nat.add_one_ne_zero,Nat.add_sub_cancel]at h;unfold ma;rw[hb];simp only[Ze,↓reduceIte];refine Qe ?_;have hl:=zc m hm;have T3:=TR m hm i (by omega) hi;rw[show(bt m (!false)).place=(bl m).toArray from rfl,T3];rcases Y7 i (bl m).length with dA|wA
  .have hs:i<(c_ m z).size:=by rw[kL];exact dA
   have e1:(c_ m z)[i]? = some (c_ m z)[i]:=J9 hs;have e2:(bl m).toArray[i]? = some ((bl m).getD i 0):=by simp[Qi dA]
   rw[e1]at h ⊢;rw[e2];exact h
  .have e1:(c_ m z)[i]? = none:=ZW (by rw[kL];exact wA);rw[e1]at h ⊢;exact h
theorem T4(hh:A.handled=none)(cG:a≠I)(hm:m<32):Walks prog w A I [I,a] [I] (bl m).length (λi v=>∃ e,(wk w a m z ep)[i]? = some e/\v=e.2)
  (λi h=>h.get? I=some (io a (ma w m i) i (bl m).length ep)/\h.get? a=some (so m z ep (!fP w))) where
 sub:=λb hb=>by simp at hb;simp[hb]
 frame:=λ_ _ _ st hk=>⟨hk I (by simp) _ st.1,hk a (by simp) _ st.2⟩
 self:=λi s Q E st hQ=>by have hT:s.TypeIs (.ref I) "set_iterator":=⟨_,st.1,rfl⟩;refine wpAny_pyIter_slot hT G7 (Zn G7 hT TY ?_ (TX _));show wpAny _ _ (ret (.ref I)) _ _ s;exact Qe ⟨_,rfl,"set_iterator",_,hT,uh.lookup,hQ⟩
 item:=λi s Q E hi st hQ=>by
  have hT:s.TypeIs (.ref I) "set_iterator":=⟨_,st.1,rfl⟩;unfold pyNext;refine Qa (Ye (Zm (name:=Str.ofString "__next__") hT uh (Zn uh hT G5 ?_ (G6 _))));unfold Builtin.«set_iterator.__next__»;refine Qa (Qe ?_);refine Qa (wpAny_fieldsOf st.1 rfl ?_);show wpAny _ _ (setEntries a >>= _) _ _ _;have wz:∀ {R:Array (Int×Value)->Shared->Prop} {E:Tk},R (c_ m z) s->wpAny (model prog w) A.in1 (setEntries a) R E s:=λh=>by unfold setEntries;exact Qa (sJ hm st.2 (Qe h))
  refine Qa (wz ?_);dsimp only;rw[Qt (by rw[kL];simp)];show wpAny _ _ (setNext a (ma w m i) i ep >>= _) _ _ _;refine Qa (G9 hm (ZF hi) st.2 ?_);have ew:(wk w a m z ep)[i]? = some ((wk w a m z ep)[i]'(by rw[zd];exact hi)):=J9 (by rw[zd];exact hi);rw[ew];show wpAny _ _ (setField (.ref I) 0 (rawInt (ma w m (i+1))) >>= _) _ _ _;refine Qa (wpAny_setField_rec st.1 (by simp) λh1 g1 b1=>?_);refine Qa (wpAny_setField_rec (s:={ s with heap:=h1 }) g1 (by simp) λh2 g2 b2=>?_);refine Qe ⟨_,rfl,Qe (hQ _ h2 s.toks ⟨_,ew,rfl⟩ ⟨?_,?_⟩ λb o hb e=>?_)⟩
  .rw[g2];simp[io,rawInt]
  .have n1:=(b1.2 a cG);have n2:=(b2.2 a cG);rw[n2,n1];exact st.2
  .have qA:b≠I:=λh=>hb (by simp[h]);rw[b2.2 b qA,b1.2 b qA];exact e
 done:=λs Q E st hQ=>by
  have hT:s.TypeIs (.ref I) "set_iterator":=⟨_,st.1,rfl⟩;unfold pyNext;refine Qa (Ye (Zm (name:=Str.ofString "__next__") hT uh (Zn uh hT G5 ?_ (G6 _))));unfold Builtin.«set_iterator.__next__»;refine Qa (Qe ?_);refine Qa (wpAny_fieldsOf st.1 rfl ?_);show wpAny _ _ (setEntries a >>= _) _ _ _;have wz:∀ {R:Array (Int×Value)->Shared->Prop} {E:Tk},R (c_ m z) s->wpAny (model prog w) A.in1 (setEntries a) R E s:=λh=>by unfold setEntries;exact Qa (sJ hm st.2 (Qe h))
  refine Qa (wz ?_);dsimp only;rw[Qt (by rw[kL];simp)];show wpAny _ _ (setNext a (ma w m (bl m).length) (bl m).length ep >>= _) _ _ _;refine Qa (G9 hm (Qf _) st.2 ?_);have ew:(wk w a m z ep)[(bl m).length]? = none:=ZW (by rw[zd];exact Qf _);rw[ew];show wpAny _ _ (setField (.ref I) 2 .none >>= _) _ _ _;refine Qa (wpAny_setField_rec st.1 (by simp) λh1 g1 b1=>?_);show wpAny _ _ (newExc (.type "StopIteration") [] >>= _) _ _ _;refine Qa ?_;simp only[newExc,newTuple];refine Qa (Q1 ?_ (by size_fits));refine Qa (m:=firstArgMember _ _) (wpAny_of_eq (a:=Value.none) (by first|rfl|(simp only[firstArgMember];rfl)) ?_);refine Q1 ?_ (by size_fits);simp only[raiseNew];refine Qa (wpAny_handled ?_);rw[show A.in1.handled=none from hh];refine Qa (Qe (wpAny_throw ?_));refine Qa (wpAny_isInstance (T:="StopIteration") (b:=true) ⟨_,Qv _ rfl,rfl⟩ isSubtype_stop ?_);refine Qe (hQ _ s.toks λb o hb e=>?_);have qA:b≠I:=λh=>hb (by simp[h]);exact Qd _ (Qd _ (by rw[b1.2 b qA];exact e))
theorem T5(hT:s.TypeIs (.ref a) "set")(h:Q false s):wpAny (model prog w) A (Builtin.List.listLengthHint (.ref a)) Q E s:=by
 unfold Builtin.List.listLengthHint;refine Qa (wpAny_specialOf hT PySem.F.slot_set_len.lookup ?_);generalize sD:("set.__len__":String)=T6
 wp_delta
 rw[show splitId T6=some ("set","__len__")from by subst sD;decide +kernel];subst sD;refine Qa (wpAny_isInstance (T:="set") (b:=true) hT (by rw[Jq];kernel_rfl) ?_);refine wpAny_ite_split (λCz=>absurd Cz (by decide)) (λ_=>?_);refine wpAny_ite_split (λ_=>?_) (λCz=>absurd (by decide +kernel) Cz);refine Qa (JO hT ?_);exact Qe h
theorem T7(hm:m<32):KdlSrc prog w "set" a a (bl m).length (λi v=>∃ e,(wk w a m z ep)[i]? = some e/\v=e.2) (λh=>h.get? a=some (so m z ep (!fP w))) where
 type:=λ_ h=>⟨_,h,rfl⟩
 there:=λ_ h=>⟨Qn h,Qn h⟩
 keep:=λ_ _ h hk=>hk a (.inl rfl) _ h
 notList:=by decide
 notTuple:=by decide
 hint:=λ_ _ _ _ h hq=>T5 ⟨_,h,rfl⟩ hq
 iter:=λA s hh h=>⟨io a 0 0 (bl m).length ep,_,(λ_ _ hq=>TZ hm h hq),T4 hh (QH (Qn h)) hm,⟨by rw[show ma w m 0=0 by unfold ma;split<;>rfl];exact Qv _ rfl,Qd _ h⟩⟩
theorem T8{vs:List Value}(hl:vs.length=(bl m).length)(hv:∀ (j:Nat) (v:Value),vs[j]? = some v->∃ e,(wk w a m z ep)[j]? = some e/\v=e.2):∃ ns:List Int,IntsAre vs ns/\ns.Perm ((bl m).map Int.ofNat):=by
 have e:vs=(wk w a m z ep).toList.map (·.2):=by
  apply Zi;intro j;rw[Qw];have et:(wk w a m z ep).toList[j]? = (wk w a m z ep)[j]?:=Jw;rw[et];rcases Y7 j vs.length with h|h
  .obtain⟨e,h1,h2⟩:=hv j _ (Qi h);rw[h1,Qi h,h2];rfl
  .rw[QO h,ZW (by rw[zd];omega)];rfl
 have p:vs.Perm ((bl m).map λv:Nat=>Value.int (Int.ofNat v) (z v)):=by rw[e];refine((G8 w a m z ep).map _).trans ?_;rw[wx,QU];exact .rfl
 refine⟨vs.map numOf,intsAre_map vs λv h=>?_,?_⟩
 .obtain⟨k,_,rfl⟩:=Qu.mp (p.mem_iff.mp h);exact⟨_,_,rfl⟩
 .refine(p.map numOf).trans ?_;rw[QU];exact .rfl
theorem T9(m:Nat):((bl m).map Int.ofNat).Pairwise (· <= ·):=by rw[List.pairwise_map];refine List.Pairwise.imp (R:=(· < ·)) (λh=>Int.ofNat_le.mpr (ZF h)) ?_;unfold bl;exact List.Pairwise.filter _ List.pairwise_lt_range
theorem T_{Q:Tk}(hh:A.handled=none)(hm:m<32)(ho:s.heap.get? a=some (so m z ep (!fP w)))
  (h:∀ (h1:Heap) (h':Heap) (tk:Nat) (us:List Value) (c:Nat),(∀ b o,s.heap.get? b=some o->h1.get? b=some o)->(∀ b o,s.heap.get? b=some o->h'.get? b=some o)->IntsAre us ((bl m).map Int.ofNat)->
    h'.get? h1.objs.size=some { cls:=.type "list",data:=.seq us.toArray c }->Q (.ref h1.objs.size) { s with heap:=h',toks:=tk }) :
  wpAny (model prog w) A (call (.builtin "sorted") [.ref a]) Q E s:=by
 refine Calls.call_function_entry kind_sorted plain_sorted entry_sorted (args_sorted1 _) ?_;unfold Builtin.«sorted»;refine Qa (m:=checkCount "sorted" 1 1 _) (Qe ?_);have hl5:=zc m hm;refine Qa (kdu_collect (A:=A.in1) (T7 hm) hh ho (kdl_size (by omega)) λh' tk acc hk dt=>?_);have hl:acc.toList.length=(bl m).length:=by rw[ZD];exact dt.1
 refine Qa (wpAny_newList ?_ (by rw[hl];exact kdl_size (by omega)));obtain⟨ns,hI,hp⟩:=T8 (w:=w) (a:=a) (z:=z) (ep:=ep) hl (λj v e=>dt.2 j v (by rw[<- Jw];exact e));have tK:(h'.push (seqObj "list" acc.toList.toArray 0)).get? h'.objs.size=some (seqObj "list" acc.toList.toArray 0):=Qv _ rfl;refine Qa (Zk (Zn slot_list_sort ⟨_,tK,rfl⟩ entry_list_sort (list_sort_tree tK hI (by omega) λout Ua a1 a2 a3=>⟨_,rfl,?_⟩) (args_list_sort _)));refine Qe ⟨_,rfl,?_⟩;have en:Ua=(bl m).map Int.ofNat:=lks_uniq (a2.trans hp) a3 (T9 m);subst en;have lt:∀ b o,s.heap.get? b=some o->b≠h'.objs.size:=λb o e=>QH (Qn (hk b o e));have keep:∀ (H:Heap) (f:Array Value->Array Value) (D:Addr),(∀ b o,s.heap.get? b=some o->b≠D)->(∀ b o,s.heap.get? b=some o->H.get? b=some o)->∀ b o,s.heap.get? b=some o->(H.update D (Obj.mapSeq f)).get? b=some o:=
  λH f D hD hH b o e=>(Jp _ _ (Jn (hD b o e))).trans (hH b o e)
 unfold sortedHeap;have g1:=get?_update_seq tK (λ_=>(#[]:Array Value));have g2:=Qd (seqObj "tuple" acc.toList.toArray 0) g1;have g3:=Qd (seqObj "list" #[] 0) g2;have g4:=get?_update_seq g3 (λ_=>out);refine h h' _ _ out.toList _ hk ?_ a1 (by rw[Array.toArray_toList];exact g4)
 .refine keep _ _ _ lt λb o e=>Qd _ (Qd _ ?_);exact keep _ _ _ lt (λb o e=>Qd _ (hk b o e)) b o e
end
section
variable {X:Cx}{Uf:List (Addr×Obj)}{σ:St}{H:Hp}{s:Shared}{a:Addr}{h1 h':Heap}{o:HO}{t':Nat}
theorem G_{P:Program}{w:World}{h:Heap}(x:di P w H h)(k:∀ b u,h.get? b=some u->h1.get? b=some u)(hp:h1.objs.size<=a):H a=none:=by
 cases q:H a with
 | none=>rfl
 | some u=>exact absurd (Qo ((x a u q).fT (h':=h1) (H':=H) (λb u _ e=>k b u e) (λ_ e=>e) (λ_ _ e=>e)).lt hp) (QT _)
theorem Ub(I:Inv X Uf σ H s)(k1:∀ b u,s.heap.get? b=some u->h1.get? b=some u)(hp:h1.objs.size<=a)(k:∀ b u,s.heap.get? b=some u->h'.get? b=some u)(new:dh X.prog X.w (upd H a o) h' a o) :
  Inv X Uf σ (upd H a o) { s with heap:=h',toks:=t' }:=by
 have hn:=G_ I.aP k1 hp;refine I.un ⟨λb u q _ _ _=>k b u q,λb u q _ _ _=>⟨u.slots,k b u q⟩,λb u q n _=>?_,λb u q _=>⟨u,k b u q⟩,λb xs q=>by rw[bw (iF q hn)];exact q,λb u xs q=>by rw[bw (iF q hn)];exact q,
  λb ps q=>⟨#[],by rw[bw (iF q hn),q];simp⟩⟩ λb u e=>?_
 .rw[bw (QH (Qo (Qn (k1 b u q)) hp))];exact n
 .by_cases hb:b=a
  .subst hb;rw[gM]at e;cases e;exact new
  .rw[bw hb]at e;exact(I.aP b u e).fT (λc v _ q=>k c v q) (λc q=>by rw[bw (iF q hn)];exact q) λc xs q=>by rw[bw (iF q hn)];exact q
end
def S8 (a:Addr)(m:Nat)(w:World):Heap->Prop:=λh=>∃ z ep,h.get? a=some (so m z ep (!fP w))
abbrev pw (ks:List Nat):Nat:=mb (λi=>ks.getD i 0) ks.length
theorem vm:∀ {ks:List Int} {us:List Value},IntsAre us ks->bo (ks.map V.int) us
 | _,_,.nil=>.nil
 | _,_,.cons k t r=>.cons ⟨t,rfl⟩ (vm r)
section
variable {X:Cx}{a:Expr}{fa:aJ}{p p2 pos px:Pos}
theorem Uc(hc:X.calm=true):jU X (.type "set") (λxs H Q=>∃ t ks,xs=[.ref t]/\cQ X.K H t (ks.map λk:Nat=>V.int (Int.ofNat k))/\(∀ k∈ks,k<5)/\∀ p,H p=none->Q (.ref p) (upd H p (.ext (S8 p (pw ks) X.w)))):=by
 intro Uf s σ H xs us Q I r hh;obtain⟨t,ks,rfl,hq,hl,q⟩:=hh;obtain⟨u,rfl,ru⟩:=my r;cases ru;obtain⟨ar,rv,pl,_⟩:=I.list hq;have Ud:bo ((ks.map Int.ofNat).map V.int) ar:=by rw[QU];exact rv
 refine TJ (I.ok.hd hc) pl.isList (GS Ud) hl λh' tk z ep hS kp=>?_;refine⟨.ref s.heap.objs.size,_,I.laid (o:=.ext (S8 s.heap.objs.size (pw ks) X.w)) (h':=h') (t':=tk) (λb o e=>kp b o (Qn e) e) (Qf _) ⟨⟨z,ep,hS⟩,⟨_,hS⟩,λh1 h2 ⟨z,ep,e⟩ k=>⟨z,ep,k _ e⟩⟩,rfl,q _ (I.aP.fresh (Qf _))⟩
theorem Ue(hc:X.calm=true):jU X (.builtin "sorted") (λxs H Q=>∃ t m,xs=[.ref t]/\m<32/\H t=some (.ext (S8 t m X.w))/\∀ p,H p=none->Q (.ref p) (upd H p (.lst ((bl m).map λk:Nat=>V.int (Int.ofNat k))))):=by intro Uf s σ H xs us Q I r hh;obtain⟨t,m,rfl,hm,hq,q⟩:=hh;obtain⟨u,rfl,ru⟩:=my r;cases ru;obtain⟨⟨z,ep,ho⟩,_,_⟩:=I.aP _ _ hq;refine T_ (I.ok.hd hc) hm ho λh1 h' tk us c k1 kp hi hg=>?_;have hv:=vm hi;rw[QU]at hv;exact⟨.ref h1.objs.size,_,Ub (o:=.lst ((bl m).map λk:Nat=>V.int (Int.ofNat k))) I k1 (Qf _) kp ⟨kdl_size (by rw[Qg];have:=zc m hm;omega),us,c,hv,hg⟩,rfl,q _ (G_ I.aP k1 (Qf _))⟩
def ui:List D->Option (List Nat)
 | []=>some []
 | .int (.ofNat i)::ds=>if i<5 then(ui ds).map (i :: ·)else none
 | _=>none
theorem Ug:∀ {ds:List D} {ks:List Nat},ui ds=some ks->ds=ks.map (λk:Nat=>D.int (Int.ofNat k))/\∀ k∈ks,k<5:=by
 intro ds;induction ds with
 | nil=>intro ks h;cases h;exact⟨rfl,λ_ h=>nomatch h⟩
 | cons d ds ih=>
  intro ks h;unfold ui at h;split at h
  .rename_i e;cases e
  next i cJ e=>
   cases e;split at h;next hi=>
    obtain⟨ks',e,rfl⟩:=YB.mp h;obtain⟨e1,e2⟩:=ih e;exact⟨by rw[e1];rfl,λk hk=>by
     rcases Qr.mp hk with q|q
     .rw[q];exact hi
     .exact e2 k q⟩
   .cases h
  .cases h
def qB (fa:aJ):aJ:=λρ=>match fa ρ with
 | some (.lst ds,q,ac)=>if q<=1 then match ui ds with
  | some ks=>some (.lst ((bl (pw ks)).map λk:Nat=>D.int (Int.ofNat k)),1,ac)
  | none=>none
  else none
 | _=>none
theorem Ha:∀ {ks:List Nat} {vs:List V} {F:List Addr},ah K H w o 0 (ks.map λk:Nat=>D.int (Int.ofNat k)) vs F->vs=ks.map λk:Nat=>V.int (Int.ofNat k)
 | [],_,_,h=>by cases h;rfl
 | k::ks,_,_,h=>by
  cases h with
  | cons r rs _=>rw[dU r,Ha rs];rfl
theorem Hb:∀ ks:List Nat,ah K H w o 0 (ks.map λk:Nat=>D.int (Int.ofNat k)) (ks.map λk:Nat=>V.int (Int.ofNat k)) []
 | []=>.nil
 | k::ks=>.cons (.int _) (Hb ks) (λ_ h=>nomatch h)
theorem Hc(hc:X.calm=true)(hm:X.mg "sorted" = none)(Uh:X.mg "set" = none)(ha:QD X a fa)(hb:bootBuiltins "set" = some (.type "set"):=by kernel_rfl)(ze:bootBuiltins "sorted" = some (.builtin "sorted"):=by kernel_rfl)(hg:Gl X "sorted":=by rfl)(Ui:Gl X "set":=by rfl)(hs:starEach [a] X.env=(false,eval a X.env)::starEach [] X.env:=by rfl)(cB:(backTo px (starEach [] X.env)).any (·.1)=false:=by rfl)(Hd:starEach [.Call (.Name "set" p2) [a] [] px] X.env=(false,eval (.Call (.Name "set" p2) [a] [] px) X.env)::starEach [] X.env:=by rfl)(CA:(backTo pos (starEach [] X.env)).any (·.1)=false:=by rfl):QD X (.Call (.Name "sorted" p) [.Call (.Name "set" p2) [a] [] px] [] pos) (qB fa):=⟨have ha:=ha.o;by
 refine PE.imp (nN (Ue hc) hg hm ze (jf (tN (Uc hc) Ui Uh hb (jf ha k_ hs) (by decide) (by decide) hs cB) k_ Hd) (by decide) (by decide) Hd CA) λσ H Q ao=>?_;obtain⟨ρ,w,t,r',q,ad,gd,ee,k⟩:=ao;unfold qB at ee;split at ee;next ds q1 ac h1=>
  split at ee;next BK=>
   split at ee;next ks h2=>
    cases ee;obtain⟨e,h5⟩:=Ug h2;subst e;refine⟨ρ,w,t,_,_,_,gd,h1,λv H1 w1 F1 g1 aN r1=>?_⟩;obtain⟨p1,vs,rfl,Uj,rs⟩:=r1.wu BK;have ev:=Ha rs;subst ev;have CB:pw ks<32:=Cr (n:=ks.length) (λi hi=>by simp only[Qh];rw[Qi hi];exact h5 _ (QS hi)) _ (Qf _)
    refine⟨p1,ks,rfl,Uj,h5,λp' oK=>⟨p',_,rfl,CB,gM,λl hl=>?_⟩⟩;have gg:=g1.drop (t':=t);obtain⟨g2,bC⟩:=gg.grow (H':=upd H1 p' (.ext (S8 p' (pw ks) X.w))) (λb o q=>by unfold upd;rw[Qt (λz=>by rw[z,oK]at q;cases q)];exact sm q) (gg.wl.tb.upd rfl (.inl oK))
    obtain⟨a1,a2,a3⟩:=oO g2 hl (Hb (bl (pw ks)));exact k _ _ _ _ a1 (((aN.drop gd.wt).trans bC).trans a2) a3
   .cases ee
  .cases ee
 .cases ee⟩
end
end L3
namespace L3
open PySem PySem.Spec PyProof.Rows L2
end L3
namespace L3
open PySem PySem.Spec PyProof.Rows PySem.W L2
end L3
namespace L3
open PySem PySem.Spec PyProof.Rows L2
end L3
namespace L3
open PySem PySem.Spec PyProof.Rows PySem.W L2
end L3
namespace L3
open PySem PySem.Spec PyProof.Rows L2
@[simp] def uj:List D->Option D
 | [.int i,.int j]=>some (.int (if j<i then j else i))
 | _=>none
section
variable {X:Cx}{a:Expr}{es:List Expr}{g:bP}{p pos:Pos}
theorem Uk(hc:X.calm=true)(hm:X.mg "min" = none)(ha:ft X (a::es) g)(hb:bootBuiltins "min" = some (.builtin "min"):=by kernel_rfl)(hg:Gl X "min":=by rfl)(he:starEach (a::es) X.env=(false,eval a X.env)::starEach es X.env:=by rfl)(cB:(backTo pos (starEach es X.env)).any (·.1)=false:=by rfl):QD X (.Call (.Name "min" p) (a::es) [] pos) (eB uj g):=⟨have ha:=ha.o;PE.imp (nN (Nb hc) hg hm hb ha (by decide) (by decide) he cB) (yJ λds d h=>by
  unfold uj at h;split at h;next i j=>
   cases h;refine⟨_,rfl,λH w vs wl r Q hq=>?_⟩;obtain⟨v,v',rfl,r1,r2⟩:=two r;exact⟨i,j,by rw[dU r1,dU r2],hq⟩
  .cases h)⟩
end
end L3
namespace L3
open PySem PySem.Spec PyProof.Rows PySem.W L2
variable {H:Hp}{K:PySem.W.Frag}{N ps:List Str}{P:Program}{a l:Addr}{base:Heap}{ds ds0:List D}{f1 f2 f3 g:aI}{i m n t:Nat}{mg:Str->Option Value}{o:Ow}{p:Option Addr}{r:List D×D}{st:Stmt}{vs:List V}{w:Wn}{x:Str}{ρ:aW}{σ:St}
def cE (m:Nat)(l:Addr)(w:Wn):Wn:=λa=>if a=l then some (.s m)else(w a).map λ_=>Ow.f
theorem Ul:cE m l w l=some (.s m):=Ql rfl
theorem Um(h:w a=some o)(n:a≠l):cE m l w a=some .f:=by unfold cE;rw[Qt n,h];rfl
theorem He(h:w a=none)(n:a≠l):cE m l w a=none:=by unfold cE;rw[Qt n,h];rfl
theorem Hf(h:cE m l w a=some o):(a=l/\o=.s m)\/(a≠l/\o=.f/\∃ o',w a=some o'):=by
 unfold cE at h;split at h
 .rename_i e;cases h;exact .inl ⟨e,rfl⟩
 next e=>
  cases ew:w a with
  | none=>rw[ew]at h;cases h
  | some o'=>rw[ew]at h;cases h;exact .inr ⟨e,rfl,o',rfl⟩
theorem Uo:∀ a o,cE m l w a=some o->(a=l/\o=.s m)\/(a≠l/\o=.f):=λa o e=>by
 rcases Hf e with z|⟨z1,z2,_⟩
 .exact .inl z
 .exact .inr ⟨z1,z2⟩
abbrev lD (p:Option Addr)(ds:List D):D:=.mp (.l ds.length p) ds
abbrev DL:=Addr->List D->List D->Option (List D×D)
def Hg (K:PySem.W.Frag)(n:Nat)(F:DL):Sp:=λvs H Q _=>vs.length=n/\∃ l us ds0 ds w cJ r vr,vs=us++[.ref l] /\
 (∀ a o,w a=some o->(a=l/\o=.s us.length)\/(a≠l/\o=.f))/\WL K w H/\Rep K H w (.s us.length) 1 (lD (some l) ds0) (.ref l) [l]/\ah K H w .f 0 ds us [] /\
 F l ds0 ds=some (cJ,r)/\jj r=some vr /\
 ∀ H' w',Go H w H' w'->WL K w' H'->Rep K H' w' (.s us.length) 1 (lD (some l) cJ) (.ref l) [l]->Q vr H'
@[simp] def uk (n:Nat)(p:Addr)(ds0 ds:List D):aW:=ds.map (λd=>some (d,gj d))++some (lD (some p) ds0,1)::replicate (n-(ds.length+1)) none
def sL (n:Nat)(A B:aI):DL:=λp ds0 ds=>match A (uk n p ds0 ds)with
 | some (.nx ρ)=>match (ρ[ds.length]?:Option (OD))with
  | some (some (.mp (.l _ (some p')) cJ,1))=>match B (ρ.set ds.length none)with
   | some (.rt r _)=>if p'=p then some (cJ,r)else none
   | _=>none
  | _=>none
 | _=>none
theorem Up{us:List V}(hn:us.length<N.length)(hw:∀ a o,w a=some o->(a=l/\o=.s us.length)\/(a≠l/\o=.f))(wl:WL K w H)(r0:Rep K H w (.s us.length) 1 (lD (some l) ds0) (.ref l) [l])(r:ah K H w .f 0 ds us []):Good K (uk N.length l ds0 ds) (L2.i4 N (us++[.ref l])) H w 0:=by
 have hl:=r.length;refine⟨wl,(λa i e=>by
  rcases hw a _ e with⟨_,z⟩|⟨_,z⟩
  .cases z;unfold L2.i4;simp<;>omega
  .cases z),(λa i e=>by rcases hw a _ e with⟨_,z⟩|⟨_,z⟩<;>cases z),?_,λi d' q e=>?_⟩
 .unfold uk L2.i4;simp[hl]<;>omega
 .unfold uk at e;by_cases hi:i<ds.length
  .rw[QL (by simpa using hi),Qw]at e;cases h:ds[i]? with
   | none=>rw[h]at e;cases e
   | some d1=>
    rw[h]at e;cases e;obtain⟨v,hv,rv⟩:=r.get h;refine⟨v,[],?_,(rv.any wl:Rep K H w (.s i) 0 _ v []).kB⟩;unfold L2.i4;rw[QZ,QW,QL (by rw[Qg,<- hl];exact hi),Qw,hv];rfl
  .rw[QX (by simpa using hi),Qg]at e;by_cases hj:i=us.length
   .subst hj;rw[hl,Y8]at e;cases e;refine⟨_,_,?_,r0⟩;unfold L2.i4;rw[QZ,QW,QX (by rw[Qg];exact Qf _),Qg,Y8];rfl
   .obtain⟨j,rfl⟩:∃ j,i=ds.length+1+j:=⟨i-(ds.length+1),by omega⟩;rw[show ds.length+1+j-ds.length=j+1 by omega,Yt,Q8]at e;split at e<;>cases e
theorem Good.CC(g:Good K ρ σ H w 0)(hw:w l=some (.s m)):Good K (ρ.set m none) σ H (i6 l .f w) 0:=by
 have st:dk H w H (i6 l .f w):=λa x h n=>⟨sm h,by rw[gr (λz=>by rw[z,hw]at n;cases n)];exact n⟩;refine⟨⟨λa o e=>?_,g.wl.tb⟩,λa i e=>?_,λa i e=>?_,by rw[QA];exact g.len,λi d q e=>?_⟩
 .by_cases h:a=l
  .subst h;exact g.wl _ _ hw
  .rw[gr h]at e;exact g.wl _ _ e
 .by_cases h:a=l
  .subst h;rw[nR]at e;cases e
  .rw[gr h]at e;exact g.ws _ _ e
 .by_cases h:a=l
  .subst h;rw[nR]at e;cases e
  .rw[gr h]at e;exact g.wt _ _ e
 .by_cases h:m=i
  .subst h;rw[List.getElem?_set]at e;split at e
   .split at e<;>cases e
   .rename_i z;exact absurd rfl z
  .rw[Qy h]at e;obtain⟨v,F,h1,h2⟩:=g.slot i d q e;exact⟨v,F,h1,Rep.go g.wl st h2 λa m=>⟨rfl,by rw[gr (λz=>by have:=h2.aM a m;rw[z,hw]at this;cases this;exact h rfl)];exact h2.aM a m⟩⟩
theorem Uq{H':Hp}{w':Wn}{d:D}(wl:WL K w H)(r:Rep K H w (.s m) 1 d (.ref l) [l])(go:Go H (i6 l .f w) H' w')(lh:WL K w' H') :
  Go H w H' (i6 l (.s m) w')/\WL K (i6 l (.s m) w') H'/\Rep K H' (i6 l (.s m) w') (.s m) 1 d (.ref l) [l]:=by
 have hw:=r.aM l (Qs.mpr rfl);obtain⟨k1,k2⟩:=go.keep l .f nR (λ_ z=>nomatch z);have ne:∀ a,w a=none->a≠l:=λa n z=>by rw[z,hw]at n;cases n
 have st:dk H w H' (i6 l (.s m) w'):=λa x h n=>by obtain⟨s1,s2⟩:=go.bO a x h (by rw[gr (ne a n)];exact n);exact⟨s1,by rw[gr (ne a n)];exact s2⟩
 refine⟨⟨st,λa o e n=>?_⟩,⟨λa o e=>?_,lh.tb⟩,?_⟩
 .have qC:a≠l:=λz=>by rw[z,hw]at e;cases e;exact n m rfl
  obtain⟨h1,h2⟩:=go.keep a o (by rw[gr qC];exact e) n;exact⟨h1,by rw[gr qC];exact h2⟩
 .by_cases h:a=l
  .subst h;exact lh _ _ k2
  .rw[gr h]at e;exact lh _ _ e
 .exact Rep.go wl st r λa m=>by rw[Qs.mp m];exact⟨k1,nR⟩
theorem Rep.lst{K:PySem.W.Frag}{H:Hp}{w:Wn}{o:Ow}{n:Nat}{p:Option Addr}{ds:List D}{v:V}{F:List Addr}(r:Rep K H w o 1 (.mp (.l n p) ds) v F) :
  ∃ l vs,v=.ref l/\F=[l]/\H l=some (.lst vs)/\(∀ d,p=some d->l=d)/\w l=some o/\n=ds.length/\ah K H w o 0 ds vs []:=by
 cases r with
 | p7 h i e l r=>exact⟨_,_,rfl,rfl,by rw[h,i.1],i.2,e,l,r⟩
theorem Rep.iQ(h:H l=some (.lst vs))(hp:∀ d,p=some d->l=d)(e:w l=some o)(r:ah K H w o 0 ds vs []):Rep K H w o 1 (lD p ds) (.ref l) [l]:=
 .p7 h ⟨rfl,hp⟩ e rfl r
theorem Ur(hn:n<=N.length){Q:VK}{E:XK}(h:Hg K n (sL N.length (az f1 (az f2 f3)) g) vs H Q E) :
  xV (qe K f1) (xV (qe K f2) (xV (qe K f3) (qe K g))) { nx:=λ_ H'=>Q .aF H',rt:=Q } (L2.i4 N vs) H:=by
 obtain⟨Hh,l,us,ds0,ds,w,cJ,r,vr,rfl,hw,wl,r0,rs,e,wo,k⟩:=h;have hlen:=rs.length;unfold sL at e;split at e;next ad h1=>
  split at e;next n0 p0 d0 e0=>
   split at e;next r1 q1 h2=>
    split at e;next hp=>
     subst hp;cases e;unfold az at h1;cases h3:f1 (uk N.length p0 ds0 ds)with
     | none=>rw[h3]at h1;cases h1
     | some o1=>
      rw[h3]at h1;cases o1 with
      | nx ac=>
       refine⟨_,w,.nx ac,Up (by rw[Qj]at Hh;exact Qo (by rw[<- Hh];exact Zg _) hn) hw wl r0 rs,h3,λpN H1 w1 l1 g1 aN=>?_⟩;dsimp only at h1;cases h4:f2 ac with
       | none=>rw[h4]at h1;cases h1
       | some o2=>
        rw[h4]at h1;cases o2 with
        | nx am=>
         refine⟨ac,w1,.nx am,g1,h4,λlT H2 w2 l2 g2 bC=>?_⟩;refine⟨am,w2,.nx ad,g2,h1,λlS H3 w3 l3 g3 iO=>?_⟩;obtain⟨v,F,_,rr⟩:=g3.slot _ _ _ e0;obtain⟨a,vs,rfl,rfl,hH,Hi,ho,hl,t_⟩:=rr.lst;have ha:a=p0:=Hi p0 rfl;subst ha;rw[hlen]at ho t_ h2;refine⟨ad.set us.length none,i6 a .f w3,.rt r q1,g3.CC ho,h2,λv4 H4 w4 F4 Us ls r4=>?_⟩;obtain⟨b1,b2,b3⟩:=Uq g3.wl (Rep.iQ hH Hi ho t_) ls Us;have ev:=r4.Bh wo;subst ev;exact k H4 _ (((aN.trans bC).trans iO).trans b1) b2 b3
        | rt d q=>cases h1
        | bk am=>cases h1
        | ct am=>cases h1
      | rt d q=>cases h1
      | bk ac=>cases h1
      | ct ac=>cases h1
    .cases e
   .cases e
  .cases e
 .cases e
def kM (P:Program)(w:World)(K:PySem.W.Frag)(mg:Str->Option Value)(base:Heap)(k:Nat)(x:Str)(n:Nat)(F:DL):Prop:=
 ∃ f fd ps,dS P w K mg base fX k f fd ps (Hg K n F)/\mg x=some (.ref f)/\W.keepIn K (.ref f)=true/\nJ K fd ps []
theorem kM.zero{w:World}{k:Nat}(a:At K mg x st ps):kM P w K mg base k x ps.length (λ_ _ _=>none):=by
 obtain⟨f,fd,F,m,b⟩:=a;exact⟨f,fd,ps,⟨λvs H Q E h=>h.1,λA outer s H args us vs Q E hr he hb hv hs=>by obtain⟨_,_,_,_,_,_,_,_,_,_,_,_,_,_,e,_⟩:=hs;cases e⟩,m,F.kp,b⟩
theorem kM.mk{w:World}{k:Nat}{s1 s2 s3:Stmt}{bI:List Stmt}(a:At K mg x st ps)(S:aj N ps (aZ st))(hN:ps.length<=N.length)(hb:i5 st=s1::s2::s3::bI)
  (h:∀ (f:Addr) (bA:Value) (A:Around) (outer:List Env) (s:Shared) (H:Hp) (E:XK),bc k (A.deeper (envOfC x (aZ st) s.heap.objs.size f bA))->yC (ir fX P w K mg base N x (aZ st) f bA A outer s H E).fU s1 f1/\yC (ir fX P w K mg base N x (aZ st) f bA A outer s H E).fU s2 f2/\yC (ir fX P w K mg base N x (aZ st) f bA A outer s H E).fU s3 f3/\vI (ir fX P w K mg base N x (aZ st) f bA A outer s H E).fU bI g) :
  kM P w K mg base (k+1) x ps.length (sL N.length (az f1 (az f2 f3)) g):=by obtain⟨f,fd,F,m,b⟩:=a;refine⟨f,fd,ps,F.ok S (λvs H Q E h=>h.1) λbA A outer s H vs Q E hr jg=>?_,m,F.kp,b⟩;obtain⟨p1,p2,p3,p4⟩:=h f bA A outer s H E hr;exact⟨_,by rw[hb];exact xW p1 (xW p2 (xW p3 p4)),Ur hN jg⟩
def um (F:DL)(ds0 ds:List D):Option (List D×D):=
 open Classical in if h:∃ r:List D×D,∀ p,F p ds0 ds=some r then some h.choose else none
theorem Ut{F:DL}(h:um F ds0 ds=some r)(p:Addr):F p ds0 ds=some r:=by
 unfold um at h;split at h;next e=>
  cases h;exact e.choose_spec p
 .cases h
theorem Uu{F:DL}(h:∀ p,F p ds0 ds=some r):um F ds0 ds=some r:=by
 have e:∃ r:List D×D,∀ p,F p ds0 ds=some r:=⟨r,h⟩;have hm:um F ds0 ds=some e.choose:=by unfold um;rw[dif_pos e]
 have h2:=e.choose_spec 0;rw[h 0]at h2;rw[hm];exact h2.symm
theorem Good.cE{l:Nat}(g:Good K ρ σ H w t)(hi:i<ρ.length)(h1:σ[i]? = some (some (.ref l)))(hl:H l=some (.lst vs))(hw:w l=some (.s i))(rs:ah K H w (.s i) 0 ds0 vs []) :
  WL K (cE m l w) H/\Rep K H (cE m l w) (.s m) 1 (lD (some l) ds0) (.ref l) [l]/\(∀ ds us,ah K H w .f 0 ds us []->ah K H (cE m l w) .f 0 ds us []) /\
  ∀ cJ H' w',Go H (cE m l w) H' w'->WL K w' H'->Rep K H' w' (.s m) 1 (lD (some l) cJ) (.ref l) [l]->
   ∀ d,(∀ eN,H' l=some (.lst eN)->ah K H' w (.s i) 0 cJ eN []->∃ F,Rep K H' w (.s i) 1 d (.ref l) F)->Good K (ρ.set i (some (d,1))) σ H' w t/\Go H w H' w:=by
 have Hj:dk H w H (L3.cE m l w):=λa x h n=>⟨sm h,He n (λz=>by rw[z,hw]at n;cases n)⟩;refine⟨⟨λa o ee=>?_,g.wl.tb⟩,Rep.iQ hl (λd z=>QJ z) Ul (ah.go g.wl Hj rs nM),λds us r=>ah.go g.wl Hj r nM,λcJ H' w' go lh r' d hd=>?_⟩
 .rcases Hf ee with⟨rfl,_⟩|⟨_,_,o',ew⟩
  .exact g.wl _ _ hw
  .exact g.wl _ _ ew
 .have kf:∀ a o,w a=some o->a≠l->H' a=H a/\w' a=some .f:=λa o ea n=>go.keep a .f (Um ea n) (λ_ z=>nomatch z);have nl:∀ a o,w a=some o->o ≠ .s i->a≠l:=λa o ea n z=>by subst z;rw[hw]at ea;exact n (QJ ea).symm
  have st:dk H w H' w:=λa x ea n=>⟨(go.bO a x ea (He n (λz=>by rw[z,hw]at n;cases n))).1,n⟩;have nH:dk H' w' H' w:=λa x ea n=>⟨sm ea,by
   cases ew:w a with
   | none=>rfl
   | some o=>
    by_cases qC:a=l
    .subst qC;have:=r'.aM a (Qs.mpr rfl);rw[n]at this;cases this
    .have:=(kf a o ew qC).2;rw[n]at this;cases this⟩
  obtain⟨l',eN,e1,e2,qY,_,me,_,t_⟩:=r'.lst;cases e1;refine⟨⟨⟨λa o ea=>?_,lh.tb⟩,g.ws,g.wt,by rw[QA];exact g.len,λj d' q' e'=>?_⟩,⟨st,λa o ea n=>⟨(kf a o ea (nl a o ea (n i))).1,ea⟩⟩⟩
  .by_cases qC:a=l
   .subst qC;exact lh _ _ me
   .obtain⟨us,q⟩:=g.wl a o ea;exact⟨us,(kf a o ea qC).1.trans q⟩
  .by_cases hj:i=j
   .subst hj;rw[Qz hi]at e';cases e';obtain⟨F,rF⟩:=hd eN qY (ah.go lh nH t_ nM);exact⟨_,F,h1,rF⟩
   .rw[Qy hj]at e';obtain⟨v',F',se,jK⟩:=g.slot j d' q' e';exact⟨v',F',se,Rep.go g.wl st jK λa m=>⟨(kf a _ (jK.aM a m) (nl a _ (jK.aM a m) (λz=>hj (by cases z;rfl)))).1,jK.aM a m⟩⟩
def CD (K:PySem.W.Frag)(i:Nat)(f:bP):TA:=λσ H Q=>∃ ρ w t ds ad v,Good K ρ σ H w t/\f ρ=some (ds,ad)/\σ[i]? = some (some v)/\∀ vs H' w',Good K ad σ H' w' t->Go H w H' w'->ah K H' w' .f 0 ds vs []->Q (vs++[v]) H'
@[simp] def CF:Option (OD)->Bool
 | some (some _)=>true
 | _=>false
def zf (cJ:List D):D->D
 | .mp (.l _ p) _=>lD p cJ
 | _=>.lst cJ
def zg:Option (OD)->Option (D×List D)
 | some (some (.lst ds,1))=>some (.lst ds,ds)
 | some (some (.mp (.l n p) ds,1))=>some (.mp (.l n p) ds,ds)
 | _=>none
def uo (F:DL)(n i:Nat)(g:bP):aJ:=λρ=>if CF ρ[i]? = true then match g ρ with
 | some (ds,ac)=>if ds.length+1=n then match zg ac[i]? with
  | some (d0,ds0)=>match um F ds0 ds with
   | some (cJ,r)=>if(jj r).isSome=true then some (r,9,ac.set i (some (zf cJ d0,1)))else none
   | none=>none
  | none=>none
  else none
 | none=>none
 else none
def sM (i:Nat)(g:bP):aJ:=λρ=>match ρ[i]? with
 | some (some (.mp (.l _ _) _,1))=>match g ρ with
  | some ([d],ac)=>match ac[i]? with
   | some (some (.mp (.l _ p) ds,1))=>if ds.length<=1000 then some (.aF,9,ac.set i (some (lD p (ds++[d]),1)))else none
   | _=>none
  | _=>none
 | _=>none
theorem Good.wB(g:Good K ρ σ H w t)(e:ρ[i]? = some (some (.mp (.l n p) ds,1))) :
  ∃ l vs,σ[i]? = some (some (.ref l))/\H l=some (.lst vs)/\ah K H w .f 0 ds vs []/\∀ cJ eN,ah K H w .f 0 cJ eN []->
   Good K (ρ.set i (some (lD p cJ,1))) σ (upd H l (.lst eN)) w t/\Go H w (upd H l (.lst eN)) w:=by
 obtain⟨v,F,h1,h2⟩:=g.slot i _ _ e;obtain⟨l,vs,rfl,rfl,hl,hp,hw,hn,rs⟩:=h2.lst;refine⟨l,vs,h1,hl,rs.any g.wl,λcJ eN r'=>?_⟩;have nl:∀ a o,w a=some o->o ≠ .s i->a≠l:=λa o e n z=>by subst z;rw[hw]at e;exact n (QJ e).symm
 have nn:∀ a,w a=none->a≠l:=λa e z=>by subst z;rw[hw]at e;cases e
 have st:dk H w (upd H l (.lst eN)) w:=λa x h n=>⟨sm (by rw[bw (nn a n)];exact h),n⟩;refine⟨⟨⟨λa o h=>?_,g.wl.tb.upd rfl (.inr (g.wl l _ hw))⟩,g.ws,g.wt,by rw[QA];exact g.len,λj d' q' e'=>?_⟩,⟨st,λa o h n=>⟨bw (nl a o h (n i)),h⟩⟩⟩
 .by_cases z:a=l
  .subst z;exact⟨.l _,gM⟩
  .obtain⟨us,q⟩:=g.wl a o h;exact⟨us,by rw[bw z];exact q⟩
 .by_cases hj:i=j
  .subst hj;rw[Qz (Qq.mp e).1]at e';cases e';exact⟨_,_,h1,Rep.iQ gM hp hw (ah.go g.wl st r' nM)⟩
  .rw[Qy hj]at e';obtain⟨v',F',se,jK⟩:=g.slot j d' q' e';exact⟨v',F',se,Rep.go g.wl st jK λa m=>⟨bw (nl a _ (jK.aM a m) (λz=>hj (by cases z;rfl))),jK.aM a m⟩⟩
section
variable {X:Cx}{a b c d e:Expr}{es:List Expr}{f fa fb fc fd:aJ}{g:bP}{p p1 pos apos aA:Pos}{x y:Str}{i j k n:Nat}
theorem Uv(hv:PE X (.Name y p1) (iH i))(hs:starEach [.Name y p1] X.env=(false,eval (.Name y p1) X.env)::starEach [] X.env):PA X [.Name y p1] (CD X.K i ai):=PA.imp (jf hv k_ hs) λσ H Q ao=>by obtain⟨ρ,w,t,ds,ad,v,gd,ee,hv,k⟩:=ao;cases ee;exact⟨v,hv,k [] H w gd Go.refl .nil⟩
theorem zh(ha:PD X e f)(hr:PA X es (CD X.K i g))(hs:starEach (e::es) X.env=(false,eval e X.env)::starEach es X.env):PA X (e::es) (CD X.K i (af f g)):=PA.imp (jf ha hr hs) λσ H Q ao=>by
 obtain⟨ρ,w,t,ds,ad,v,gd,ee,hv,k⟩:=ao;unfold af at ee;split at ee;next d q ac h1=>
  split at ee;next cJ am h2=>
   cases ee;refine⟨ρ,w,t,d,q,ac,gd,h1,λx H1 w1 F1 g1 aN r1=>⟨ac,cH t w1,t,cJ,_,v,g1.drop,h2,hv,λvs H2 w2 g2 bC r2=>?_⟩⟩;have gl:=(g1.drop (t':=t)).wl;have r0:Rep X.K H2 w2 .f 0 d x []:=Rep.go gl bC.bO (r1.drop (o:=.f) (Qf t)) nM;exact k (x::vs) H2 w2 g2 ((aN.drop gd.wt).trans bC) (.cons (F:=[]) (G:=[]) r0 r2 nM)
  .cases ee
 .cases ee
theorem Uw{d0:D}(g:Good K ρ σ H w t)(h:zg ρ[i]? = some (d0,ds0)):∃ l vs,σ[i]? = some (some (.ref l))/\H l=some (.lst vs)/\w l=some (.s i)/\ah K H w (.s i) 0 ds0 vs [] /\
  ∀ H' cJ eN,H' l=some (.lst eN)->ah K H' w (.s i) 0 cJ eN []->∃ F,Rep K H' w (.s i) 1 (zf cJ d0) (.ref l) F:=by
 unfold zg at h;split at h;next ds e=>
  cases h;obtain⟨v,F,h1,h2⟩:=g.slot i _ _ e;obtain⟨l,vs,rfl,F',rfl,hl,hw,rs,ne⟩:=h2.inv;have hF:=rs.zero;subst hF;exact⟨l,vs,h1,hl,hw,rs,λH' cJ eN e r=>⟨_,.own e hw r (λz=>nomatch z)⟩⟩
 next n p ds e=>
  cases h;obtain⟨v,F,h1,h2⟩:=g.slot i _ _ e;obtain⟨l,vs,rfl,rfl,hl,hp,hw,hn,rs⟩:=h2.lst;exact⟨l,vs,h1,hl,hw,rs,λH' cJ eN e r=>⟨_,Rep.iQ e hp hw r⟩⟩
 .cases h
theorem Hk{F:DL}(Cm:kM X.prog X.w X.K X.mg X.base k x 5 F)(hr:bc j X.A)(hk:k<=j)(ha:QD X a fa)(qA:QD X b fb)(hc:QD X c fc)(hd:QD X d fd)(hv:QE X (.Name y p1) (iH i))(hg:Gl X x:=by rfl)(gZ:(x==("__debug__":Str))=false:=by decide)(s0:starEach [a,b,c,d,.Name y p1] X.env=(false,eval a X.env)::starEach [b,c,d,.Name y p1] X.env:=by rfl)(s1:starEach [b,c,d,.Name y p1] X.env=(false,eval b X.env)::starEach [c,d,.Name y p1] X.env:=by rfl)(s2:starEach [c,d,.Name y p1] X.env=(false,eval c X.env)::starEach [d,.Name y p1] X.env:=by rfl)(s3:starEach [d,.Name y p1] X.env=(false,eval d X.env)::starEach [.Name y p1] X.env:=by rfl)(s4:starEach [.Name y p1] X.env=(false,eval (.Name y p1) X.env)::starEach [] X.env:=by rfl)(cB:(backTo pos (starEach [b,c,d,.Name y p1] X.env)).any (·.1)=false:=by rfl):QD X (.Call (.Name x p) [a,b,c,d,.Name y p1] [] pos) (uo F 5 i (af fa (af fb (af fc (af fd ai))))):=⟨have ha:=ha.o;have qA:=qA.o;have hc:=hc.o;have hd:=hd.o;have hv:=hv.o;by
 obtain⟨fn,fdd,ps,G,hm,su,hb⟩:=Cm;refine PE.imp (Am G (hr.mono hk) hg hm su hb .nil E9 (zh ha (zh qA (zh hc (zh hd (Uv hv s4) s3) s2) s1) s0) gZ s0 cB) λσ H Q ao=>?_;obtain⟨ρ,w,t,r',q,ad,gd,ee,kk⟩:=ao;unfold uo at ee;split at ee;next h0=>
  split at ee;next ds ac h1=>
   split at ee;next hn=>
    split at ee;next d0 ds0 e1=>
     split at ee;next cJ r hM=>
      split at ee;next wo=>
       cases ee;obtain⟨vr,Hl⟩:=Zz.mp wo;obtain⟨v0,zi⟩:∃ v0,σ[i]? = some (some v0):=by
        unfold CF at h0;split at h0;next dq e=>
         obtain⟨v,F,h,_⟩:=gd.slot i dq.1 dq.2 e;exact⟨v,h⟩
        .cases h0
       refine⟨ρ,w,t,ds,ac,v0,gd,h1,zi,λvs H1 w1 g1 aN r1=>?_⟩;obtain⟨l,vs1,s1,CG,uq,Ux,bk⟩:=Uw g1 e1;rw[zi]at s1;cases s1;have hi:i<ac.length:=by rw[g1.len];exact(Qq.mp zi).1
       obtain⟨Uy,rl,CH,Bm⟩:=g1.cE (m:=vs.length) hi zi CG uq Ux;rw[Q5];refine⟨by rw[Qj,<- r1.length];exact hn,l,vs,ds0,ds,L3.cE vs.length l w1,cJ,r',vr,rfl,Uo,Uy,rl,CH _ _ r1,Ut hM l,Hl,λH2 w2 bC rN r2=>?_⟩;obtain⟨g2,iO⟩:=Bm cJ H2 w2 bC rN r2 (zf cJ d0) λeN=>bk H2 cJ eN;exact kk vr H2 w1 [] g2.up (aN.trans iO) (vE Hl)
      .cases ee
     .cases ee
    .cases ee
   .cases ee
  .cases ee
 .cases ee⟩
theorem CI(h:QE X (.Name x p1) (iH i))(ha:ft X [e] g)(cf:attributeBase (.Name x p1) "append" X.env (eval (.Name x p1) X.env)=eval (.Name x p1) X.env:=by rfl)(dJ:((backTo aA (starEach [e] X.env)).all (λx=>!x.1)&&(backToKw aA (keywordEach [] X.env)).all (λx=>x.1.isSome)
   && decide ([e].length+([]:List Keyword).length+(if([]:List Keyword).isEmpty then 0 else 1)<30))=true:=by rfl) (cj:(apos.endLine==aA.line)=true:=by rfl) (hs:starEach [e] X.env=(false,eval e X.env)::starEach [] X.env:=by rfl) (bN:(backTo aA (starEach [] X.env)).any (·.1)=false:=by rfl):QD X (.Call (.Attribute (.Name x p1) "append" apos) [e] [] aA) (sM i g):=⟨have h:=h.o;have ha:=ha.o;PE.imp (rq Zp Yh Yi E5 h ha cf dJ cj hs bN) λσ H Q ao=>by
 obtain⟨ρ,w,t,r',q,ad,gd,ee,k⟩:=ao;unfold sM at ee;split at ee;next n0 p0 ds0 e0=>
  obtain⟨l,us,gP,hq,_,_⟩:=gd.wB e0;split at ee;next d ac h1=>
   split at ee;next n p ds e1=>
    split at ee;next hlen=>
     cases ee;refine⟨_,gP,.inl ⟨rfl,us,.inl (.inl hq)⟩,ρ,w,t,_,_,gd,h1,λvs H1 w1 g1 aN r1=>?_⟩;obtain⟨v,rfl,rv⟩:=one r1;obtain⟨l',ws,eY,hH,rs,mk⟩:=g1.wB e1;rw[gP]at eY;cases eY;have r2:ah X.K H1 w1 .f 0 (ds++[d]) (ws++[v]) []:=ah.snoc (F:=[]) (G:=[]) rv rs nM;obtain⟨m1,m2⟩:=mk _ _ r2;refine⟨l,ws,v,rfl,rfl,hH,by rw[<- rs.length];exact pW hlen,?_⟩;exact k .aF _ w1 [] m1.up (aN.trans m2) .aF
    .cases ee
   .cases ee
  .cases ee
 .cases ee⟩
end
end L3
namespace L3
open PySem PySem.Spec PyProof.Rows L2
variable {K:PySem.W.Frag}{N ps:List Str}{P:Program}{X:Cx}{base:Heap}{body:aI}{es:List Expr}{g:bP}{mg:Str->Option Value}{st:Stmt}{w:World}{x:Str}
theorem qv(i:Nat){pos:Pos}(hN:X.N[i]? = some x:=by rfl)(hv:tI X.env.scope x:=by first|exact Or.inl rfl|exact Or.inr (Or.inl rfl)|exact Or.inr (Or.inr rfl))(hd:(x==("__debug__":Str))=false:=by decide)(gX:(x==("__classdict__":Str))=false:=by decide):QE X (.Name x pos) (iH i):=⟨pv i hN hv hd gX⟩
theorem ql(i:Nat){pos:Pos}(hN:X.N[i]? = some x)(hv:X.env.scope.names.lookup x=some .local)(hd:(x==("__debug__":Str))=false:=by decide)(gX:(x==("__classdict__":Str))=false:=by decide):QE X (.Name x pos) (iH i):=⟨pv i hN (.inl hv) hd gX⟩
theorem wC{e:Expr}{f:cI}(h:rP X e f):g_ X e f:=⟨PW.pt h.o⟩
theorem ax(i:Nat){pos:Pos}(hN:X.N[i]? = some x)(hv:X.env.scope.names.lookup x=some .local)(hd:(x==("__debug__":Str))=false:=by decide)(gX:(x==("__classdict__":Str))=false:=by decide):QD X (.Name x pos) (aa i):=cV (ql i hN hv hd gX)
theorem ay(i:Nat){pos:Pos}(hN:X.N[i]? = some x)(hv:X.env.scope.names.lookup x=some .local)(hr:ft X es g)(hd:(x==("__debug__":Str))=false:=by decide)(gX:(x==("__classdict__":Str))=false:=by decide):ft X (.Name x pos::es) (af (aa i) g):=au (ax i hN hv hd gX) hr eZ
theorem ck{i:Int}{j:Nat}{pos:Pos}(hr:ft X es g):ft X (.Constant (.int i) j pos::es) (af (eC (.int i)) g):=au aY hr kK
theorem aw.cz{k:Nat}(a:At K mg x st ps)(S:aj N ps (aZ st))
  (h:∀ (f:Addr) (bA:Value) (A:Around) (outer:List Env) (s:Shared) (H:Hp) (E:XK),bc k (A.deeper (envOfC x (aZ st) s.heap.objs.size f bA))->fY (ir fX P w K mg base N x (aZ st) f bA A outer s H E).fU (i5 st) body) :
  aw P w K mg base (k+1) x ps.length (bR N.length body):=aw.mk a S λf bA A outer s H E hr=>(h f bA A outer s H E hr).o
theorem Uz{k:Nat}{f:Addr}{fd:FuncData}(F:mE K x x st f fd)(S:aj N ps (aZ st))
  (h:∀ (f:Addr) (bA:Value) (A:Around) (outer:List Env) (s:Shared) (H:Hp) (E:XK),bc k (A.deeper (envOfC x (aZ st) s.heap.objs.size f bA))->fY (ir fX P w K mg base N x (aZ st) f bA A outer s H E).fU (i5 st) body) :
  dS P w K mg base fX (k+1) f fd ps (lg K ps.length (bR N.length body)):=Rj F S λf bA A outer s H E hr=>(h f bA A outer s H E hr).o
end L3
namespace L3
open PySem PySem.Spec PyProof.Rows PySem.W L2
variable {C:Addr}{K:Frag}{L N ps:List Str}{P:Program}{base:Heap}{mg:Str->Option Value}{st:Stmt}{w:World}{x:Str}
theorem CJ{v:Value}{b:Bool}(h:mroIn K C v=some b):(clsIn K C).isSome=true:=by obtain⟨cd,a,_⟩:=Option.bind_eq_some_iff.mp h;rw[a];rfl
theorem ji.of{nm:Str}(n:nsIn K mainGlobals nm=some (some (.ref C)))(x:fD K C)(ex:excIn K C Ba "ValueError.__new__" = true)(v:mroIn K C (.type "ValueError")=some true)
  (a1:mroIn K C (.type "int")=some false) (a2:mroIn K C (.type "bool")=some false) (a3:mroIn K C (.type "tuple")=some false) (a4:mroIn K C (.type "list")=some false) (a5:mroIn K C (.type "str")=some false):ji K nm C:=
 ⟨n,x,ex,v,λT hT=>by
   rcases Qr.mp hT with rfl|hT
   .exact a1
   rcases Qr.mp hT with rfl|hT
   .exact a2
   rcases Qr.mp hT with rfl|hT
   .exact a3
   rcases Qr.mp hT with rfl|hT
   .exact a4
   rcases Qr.mp hT with rfl|hT
   .exact a5
   cases hT⟩
theorem ph.nil{R:Str}{RA:Addr}(x:fD K RA)(t:typeIn K (.ref RA)=some (.type "type"))(m:mg R=some (.ref RA)):ph K mg R []:=⟨RA,x,t,m,λn hn=>nomatch hn⟩
theorem ph.cons{K:Frag}{mg:Str->Option Value}{R nm:Str}{L:List Str}{C RA:Addr}(U:ph K mg R L)(m:mg R=some (.ref RA))(k:ji K nm C)(s:mroIn K C (.ref RA)=some true):ph K mg R (nm::L):=by
 obtain⟨RB,x,t,m',h⟩:=U;rw[m]at m';cases m';refine⟨RA,x,t,m,λn hn C' e=>?_⟩;rcases Qr.mp hn with rfl|hn
 .have e':=k.ns;rw[e]at e';cases e';exact⟨k,s⟩
 .exact h n hn C' e
theorem fI.nil{nm:Str}(m:mg nm=some (.ref C)):fI K mg [] nm:=⟨C,m,λn hn=>nomatch hn⟩
theorem fI.self{nm:Str}(U:fI K mg L nm)(n:nsIn K mainGlobals nm=some (some (.ref C)))(m:mg nm=some (.ref C)):fI K mg (nm::L) nm:=by
 obtain⟨C',m',h⟩:=U;rw[m]at m';cases m';refine⟨C,m,λn' hn B e=>?_⟩;rcases Qr.mp hn with rfl|hn
 .rw[e]at n;cases n;exact⟨λ_=>by unfold isIn;simp,λz=>absurd rfl z⟩
 .exact h n' hn B e
theorem fI.other{nm n2:Str}{D:Addr}(U:fI K mg L n2)(n:nsIn K mainGlobals nm=some (some (.ref C)))(m:mg n2=some (.ref D))(hn:nm≠n2)(ne:C≠D)(t:typeIn K (.ref D)=some (.type "type"))(o:mroIn K D (.type "object")=some true)(s:mroIn K C (.ref D)=some false):fI K mg (nm::L) n2:=by
 obtain⟨D',m',h⟩:=U;rw[m]at m';cases m';refine⟨D,m,λn' oq B e=>?_⟩;rcases Qr.mp oq with rfl|oq
 .rw[e]at n;cases n;have s':subIn K (.ref C) (.ref D)=some false:=s;exact⟨λz=>absurd z hn,λ_=>by unfold kin_not;rw[CJ o,t,s'];simp[ne]⟩
 .exact h n' oq B e
theorem lA.cz{K:PySem.W.Frag}{k:Nat}{xb:gA}(a:At K mg x st ps)(S:aj N ps (aZ st))
  (h:∀ (f:Addr) (bA:Value) (A:Around) (outer:List Env) (s:Shared) (H:Hp) (E:XK),bc k (A.deeper (envOfC x (aZ st) s.heap.objs.size f bA))->wg (ka P w K mg base N x (aZ st) f bA A outer s H E) E (i5 st) xb) :
  lA P w K mg base (k+1) x ps.length (fnX N.length xb):=lA.mk a S λf bA A outer s H E hr=>(h f bA A outer s H E hr).o
theorem j5p{K:PySem.W.Frag}(a:nsIn K mainGlobals x=some none):tabIn K x=none:=by unfold tabIn;rw[a]
theorem T0.of{K:PySem.W.Frag}(h1:tabIn K "turned" = none)(h2:tabIn K "chain_ladder" = none)(h3:tabIn K "flat_ladder" = none)(h4:tabIn K "paired" = none)(h5:tabIn K "height_of" = none)(h6:tabIn K "_law_high" = none):∀ x∈tT,tabIn K x=none:=λx hx=>by unfold tT at hx;simp only[Qr,QK,YY]at hx;rcases hx with rfl|rfl|rfl|rfl|rfl|rfl<;>assumption
theorem UA{l:PySem.W.OpenLaw}{n k:Nat}{q:Program}{loose:List Str}{XP:(Str->Option Value)->Heap->Prop}{YP:World->Heap->Prop}{d:DefRec}{K:Params->PySem.W.Frag}{F0:List D->OD}
  (hn:l.most=some n) (yi:n<=sizeLine) (vk:d.params.defaults=[]) (hr:bc k callerA) (hY:∀ (w:World) (h:Heap),YP w h->(K w.params).In h)
  (F:∀ (w:World) (mg:Str->Option Value) (fa:Addr) (h:Heap),(K w.params).In h->h.Ns mainGlobals mg->mg d.name=some (.ref fa)->(∀ x∈tT,tabIn (K w.params) x=none) /\
    ∃ fd:FuncData,(∀ (s:Shared) (u:Value),BindsTo s fd ⟨[u],[]⟩ [(x,u)])/\∀ base:Heap,(K w.params).In base->base.Ns mainGlobals mg->dS l.prog w (K w.params) mg base fX k fa fd [x] (lg (K w.params) 1 F0))
  (jg:∀ (w:World) (H:Hp) (a:Addr) (ns:List Int),ns.length<=n->TB (K w.params) H->cQ (K w.params) H a (ns.map V.int)->lg (K w.params) 1 F0 [.ref a] H (λv _=>v=.bl true) λ_ _ _=>False) :
  PySem.W.WalkO q loose XP YP l.row.toRowW d [] (λf vs=>PySem.call f vs):=by refine E6.N7 hn vk λw aC ba mg mb fa o pm cd doc a vs ns G Y ho hd gX hmg rB hints hlen hg=>?_;have KX:=hY w _ Y;obtain⟨hT,fd,hb,hF⟩:=F w mg fa _ KX G.T.g hmg;exact N9 KX G.T.g G.T.b G.T.builtins G.T.nolimit hg rB hints (QF hlen yi) hr hF hb (λH hO hS=>jg w H a ns hlen (TB.only hO hT) hS) λ_ _ _ z=>z
theorem kM.cz{K:PySem.W.Frag}{k:Nat}{s1 s2 s3:Stmt}{bI:List Stmt}{f1 f2 f3 g:aI}(a:At K mg x st ps)(S:aj N ps (aZ st))(hN:ps.length<=N.length)(hb:i5 st=s1::s2::s3::bI)
  (h:∀ (f:Addr) (bA:Value) (A:Around) (outer:List Env) (s:Shared) (H:Hp) (E:XK),bc k (A.deeper (envOfC x (aZ st) s.heap.objs.size f bA))->jl (ir fX P w K mg base N x (aZ st) f bA A outer s H E).fU s1 f1/\jl (ir fX P w K mg base N x (aZ st) f bA A outer s H E).fU s2 f2/\jl (ir fX P w K mg base N x (aZ st) f bA A outer s H E).fU s3 f3/\fY (ir fX P w K mg base N x (aZ st) f bA A outer s H E).fU bI g) :
  kM P w K mg base (k+1) x ps.length (sL N.length (az f1 (az f2 f3)) g):=kM.mk a S hN hb λf bA A outer s H E UB=>by obtain⟨h1,h2,h3,h4⟩:=h f bA A outer s H E UB;exact⟨h1.o,h2.o,h3.o,h4.o⟩
end L3
namespace L3
open PySem PySem.Spec PyProof.Rows L2
theorem sN{k:Nat}{pt:fE}{tt:cI}{te:aJ}{deep:Bool}:∀ (ds:List D) (S:Nat->aW) (b:Nat->Bool) (v:Nat->D),
  (∀ i (h:i<ds.length),∃ ac am,pt ds[i] (S i++replicate k none)=some ac/\tt ac=some (b i,am) /\
    (if b i=true then ∃ q fO,te am=some (v i,q,fO)/\¬ (deep=true/\(v i).cO=true/\q≠1)/\fO.take (S i).length=S (i+1)else am.take (S i).length=S (i+1)))->
  jI k pt tt te deep ds (S 0)=some (((range ds.length).filter b).map v,S ds.length)
 | [],S,b,v,_=>rfl
 | d::ds,S,b,v,h=>by
  obtain⟨ac,am,h1,h2,h3⟩:=h 0 (by simp);have ih:=sN ds (λi=>S (i+1)) (λi=>b (i+1)) (λi=>v (i+1)) (λi hi=>h (i+1) (by simpa using hi));have er:((range (d::ds).length).filter b).map v=(if b 0=true then [v 0]else [])++((range ds.length).filter λi=>b (i+1)).map λi=>v (i+1):=by rw[QN,List.range_succ_eq_map,List.filter_cons,List.filter_map];split<;>simp[Jt]
  rw[er];unfold jI;rw[show pt d (S 0++replicate k none)=some ac from h1];simp only[h2];split at h3;next hb=>
   obtain⟨q,fO,h4,h5,h6⟩:=h3;simp only[hb,Z7,h4,Qt h5,h6,ih];rfl
  next hb=>
   simp only[hb,h3,ih];rfl
theorem ur{pt:fE}{body:aI}:∀ (ds:List D) (I:Nat->aW->Prop) (ρ:aW),(∀ i (h:i<ds.length) ρ,I i ρ->∃ ac am,pt ds[i] ρ=some ac/\(body ac=some (.nx am)\/body ac=some (.ct am))/\I (i+1) am)->I 0 ρ->∃ ad,fZ pt body ds ρ=some (.nx ad)/\I ds.length ad
 | [],I,ρ,_,h0=>⟨ρ,rfl,h0⟩
 | d::ds,I,ρ,h,h0=>by obtain⟨ac,am,h1,h2,h3⟩:=h 0 (by simp) ρ h0;obtain⟨ad,e,h4⟩:=ur ds (λi=>I (i+1)) am (λi hi=>h (i+1) (by simpa using hi)) h3;refine⟨ad,?_,h4⟩;unfold fZ;rw[show pt d ρ=some ac from h1];rcases h2 with h2|h2<;>(simp only[h2];exact e)
theorem aO{f g:aI}{ρ ac:aW}(h:f ρ=some (.nx ac)):az f g ρ=g ac:=by unfold az;rw[h]
theorem uu{f g:aI}{ρ:aW}{d:D}{q:Nat}(h:f ρ=some (.rt d q)):az f g ρ=some (.rt d q):=by unfold az;rw[h]
theorem dw{n:Nat}{body:aI}{ds:List D}{d:D}{q:Nat}(h:body (oT n ds)=some (.rt d q)):bR n body ds=some (d,q):=by unfold bR;rw[h]
theorem jM{k:Nat}{it:jZ}{pt:fE}{tt:cI}{te:aJ}{deep:Bool}{ρ ac am:aW}{ds vs:List D}(hi:it ρ=some (ds,ac))(hc:jI k pt tt te deep ds ac=some (vs,am)):eO k it pt tt te deep ρ=some (.lst vs,if deep=true then 2 else 1,am):=by unfold eO;rw[hi];simp only[hc]
theorem UC{i:Nat}{f:aJ}{ρ ac:aW}{d:D}{q:Nat}(h:f ρ=some (d,q,ac)):aV i f ρ=some (.nx (ac.set i (some (d,q)))):=by unfold aV;rw[h]
theorem eF{f:aJ}{ρ ac:aW}{d:D}{q:Nat}(h:f ρ=some (d,q,ac)):bG f ρ=some (.rt d q):=by unfold bG;rw[h]
theorem kN{it:jZ}{pt:fE}{body:aI}{ρ ac:aW}{ds:List D}(h:it ρ=some (ds,ac)):fN it pt body ρ=fZ pt body ds ac:=by unfold fN;rw[h]
theorem lC{g:cI}{s s':aI}{ρ ac:aW}(h:g ρ=some (true,ac)):dn g s s' ρ=s ac:=by unfold dn;rw[h];rfl
theorem jo{g:cI}{s s':aI}{ρ ac:aW}(h:g ρ=some (false,ac)):dn g s s' ρ=s' ac:=by unfold dn;rw[h];rfl
theorem cW{i:Nat}{f:aJ}{ρ ac am:aW}{d:D}{q:Nat}(h:f ρ=some (d,q,ac))(e:ac.set i (some (d,q))=am):aV i f ρ=some (.nx am):=by rw[UC h,e]
theorem bp{f:aJ}{ρ ac:aW}{d:D}{q:Nat}(h:f ρ=some (d,q,ac)):af f ai ρ=some ([d],ac):=by unfold af;rw[h];rfl
theorem bK{f:aJ}{g:bP}{ρ ac am:aW}{d:D}{q:Nat}{ds:List D}(h:f ρ=some (d,q,ac))(h':g ac=some (ds,am)):af f g ρ=some (d::ds,am):=by unfold af;rw[h];simp only[h']
theorem jN{g:bP}{ρ ac:aW}{ds:List D}(h:g ρ=some ([.lst ds],ac)):fF g ρ=some (.tup ds,9,ac):=by unfold fF;rw[h]
theorem CK{g:bP}{ρ ac:aW}{ds:List D}(h:dW g ρ=some (ds,ac)):qo g ρ=some (.lst ds,1,ac):=by unfold qo;rw[h]
theorem bh{F:List D->OD}{n:Nat}{g:bP}{ρ ac:aW}{ds:List D}{d:D}{q:Nat}(h:g ρ=some (ds,ac))(hl:ds.length=n)(hF:F ds=some (d,q)):aE F n g ρ=some (d,q,ac):=by unfold aE;rw[h];simp only[hl,Z7,hF]
def ak (l:List Nat):List D:=l.map λi=>.int (Int.ofNat i)
abbrev iD (k:Nat):D:=.int (Int.ofNat k)
abbrev uL (v:List Nat):OD:=some (.lst (ak v),1)
abbrev v9 (v:List Nat):OD:=some (.tup (ak v),9)
abbrev b9 (b:Bool):OD:=some (.bl b,9)
abbrev i9 (k:Nat):OD:=some ((iD k),9)
theorem UD(n:Nat):eE n=ak (range n):=rfl
def lE (n:Nat)(f:Nat->Nat->Nat)(i:Nat):D:=.tup (ak ((range n).map λj=>f i j))
def bH (n:Nat)(f:Nat->Nat->Nat):D:=.tup ((range n).map λi=>lE n f i)
abbrev t9 (n:Nat)(f:Nat->Nat->Nat):OD:=some (bH n f,9)
def e7 (n:Nat)(f:Nat->Nat->Nat)(i:Nat):D:=.lst (ak ((range n).map λj=>f i j))
def b6 (n:Nat)(f:Nat->Nat->Nat):D:=.lst ((range n).map λi=>e7 n f i)
@[simp] theorem j5k{n:Nat}{f:Nat->Nat->Nat}:(bH n f).cO=false:=rfl
@[simp] theorem j5o{n:Nat}{f:Nat->Nat->Nat}{i:Nat}:(lE n f i).cO=false:=rfl
@[simp] theorem j5b{n:Nat}{f:Nat->Nat->Nat}:(b6 n f).cO=true:=rfl
@[simp] theorem j5m{n:Nat}{f:Nat->Nat->Nat}{i:Nat}:(e7 n f i).cO=true:=rfl
theorem iz(l:List Nat):(ak l).length=l.length:=by simp[ak]
theorem Hm(l:List Nat)(i:Nat):(ak l)[i]? = (l[i]?).map λx=>.int (Int.ofNat x):=by simp[ak]
theorem uv{n i:Nat}(h:i<n):g8 n (Int.ofNat i)=some i:=by unfold g8;rw[Ql (by exact Int.natCast_nonneg i),Ql (by show(i:Int)<n;omega)];rfl
theorem wD{α:Type}{xs:List α}{i:Nat}{x:α}(h:xs[i]? = some x):L2.dz xs (Int.ofNat i)=some x:=by unfold L2.dz;rw[uv (Qq.mp h).1];exact h
theorem CL{l:List Nat}{i x:Nat}(h:l[i]? = some x):L2.dz (ak l) (Int.ofNat i)=some (iD x):=wD (by rw[Hm,h];rfl)
theorem Hn{g:Nat->D}{n i:Nat}(h:i<n):L2.dz ((range n).map g) (Int.ofNat i)=some (g i):=wD (by rw[Qw,Zw h];rfl)
theorem uw{g:Nat->Nat}{n i:Nat}(h:i<n):L2.dz (ak ((range n).map g)) (Int.ofNat i)=some (iD (g i)):=CL (by rw[Qw,Zw h];rfl)
theorem ux{n:Nat}{f:Nat->Nat->Nat}{i:Nat}(h:i<n):cS (bH n f) (Int.ofNat i)=some (lE n f i):=Hn h
theorem wF{n:Nat}{f:Nat->Nat->Nat}{i j:Nat}(h:j<n):cS (lE n f i) (Int.ofNat j)=some (iD (f i j)):=uw h
theorem UE{n:Nat}{f:Nat->Nat->Nat}{i:Nat}(h:i<n):cS (b6 n f) (Int.ofNat i)=some (e7 n f i):=Hn h
theorem UG{n:Nat}{f:Nat->Nat->Nat}{i j:Nat}(h:j<n):cS (e7 n f i) (Int.ofNat j)=some (iD (f i j)):=uw h
theorem lF{n:Nat}{f:Nat->Nat->Nat}:gQ (bH n f)=some n:=by simp[bH,gQ]
theorem wG{n:Nat}{f:Nat->Nat->Nat}:gQ (b6 n f)=some n:=by simp[b6,gQ]
theorem zj{n:Nat}{f g:Nat->Nat->Nat}(h:∀ a b,a<n->b<n->f a b=g a b):b6 n f=b6 n g:=by unfold b6 e7;refine ZR D.lst (Zc λa ha=>?_);refine ZR (λl=>D.lst (ak l)) (Zc λb hb=>?_);exact h a b (Q0.mp ha) (Q0.mp hb)
theorem Ho{α:Type}{g:Nat->α}{n m:Nat}{x:α}:((range n).map g).set m x=(range n).map λa=>if a=m then x else g a:=by
 apply Zi;intro i;by_cases hi:i<n
 .by_cases h:m=i
  .subst h;rw[Qz (by simpa using hi),Qw,Zw hi];simp
  .rw[Qy h,Qw,Qw,Zw hi];simp;exact λz=>absurd z.symm h
 .rw[QO (by simp;omega),QO (by simp;omega)]
theorem CM{g:Nat->Nat}{n:Nat}:ak ((range n).map g)=(range n).map λi=>.int (Int.ofNat (g i)):=by simp[ak]
theorem UH{n:Nat}{f:Nat->Nat->Nat}{a b v:Nat}:D.lst (((range n).map λi=>e7 n f i).set a (.lst ((ak ((range n).map λj=>f a j)).set b (iD v))))=b6 n λi j=>if i=a/\j=b then v else f i j:=by
 unfold b6;rw[Ho];refine ZR D.lst (Zc λi hi=>?_);by_cases h:i=a
 .subst h;rw[Ql rfl,CM,Ho];unfold e7;rw[CM];refine ZR D.lst (Zc λj hj=>?_);by_cases hj:j=b<;>simp[hj]
 .rw[Qt h];unfold e7;simp[h]
theorem UI(n:Nat):D.lst (replicate n [D.int 0]).flatten=e7 n (λ_ _=>0) 0:=by unfold e7 ak;congr 1;simp[Zd,YI]
theorem Hq:∀ ds:List D,dg ds=ds.map cP
 | []=>rfl
 | d::ds=>by rw[dg,Hq ds];rfl
def lay (d:D):Bool:=kH d&&(cP d).canLay0
theorem Hr{d:D}(h:lay d=true):kH d=true:=(Zb.mp h).1
theorem Ht{d:D}(h:lay d=true):(cP d).canLay0=true:=(Zb.mp h).2
theorem CN:∀ {ds:List D},(∀ d∈ds,lay d=true)->rY ds=true
 | [],_=>rfl
 | d::ds,h=>by show(kH d&&rY ds)=true;rw[Hr (h d Qc),CN λx m=>h x (Qb _ m)];rfl
def kB (d:D):Nat:=(cP d).depth
theorem CO:∀ {ds:List D},(∀ d∈ds,lay d=true)->PyData.canLayAll0 (dg ds)=true
 | [],_=>rfl
 | d::ds,h=>by rw[dg,PyData.canLayAll0,CO λx m=>h x (Qb _ m),Bool.and_true];exact Ht (h d Qc)
theorem CP{k:Nat}:∀ {ds:List D},(∀ d∈ds,kB d<=k)->PyData.depthAll (dg ds)<=k
 | [],_=>ZA _
 | d::ds,h=>by rw[dg,PyData.depthAll];exact Nat.max_le.mpr ⟨h d Qc,CP λx m=>h x (Qb _ m)⟩
def Sh (k:Nat)(d:D):Prop:=lay d=true/\kB d<=k
theorem Sh.int{k:Nat}(i:Int):Sh k (.int i):=⟨rfl,ZA _⟩
theorem Sh.aF{k:Nat}:Sh k .aF:=⟨rfl,ZA _⟩
theorem Sh.tup{k:Nat}{ds:List D}(h:∀ d∈ds,Sh k d):Sh (k+1) (.tup ds):=⟨Zb.mpr ⟨CN λd m=>(h d m).1,CO λd m=>(h d m).1⟩,Yl (CP λd m=>(h d m).2)⟩
theorem Sh.lst{k:Nat}{ds:List D}(h:∀ d∈ds,Sh k d):Sh (k+1) (.lst ds):=⟨Zb.mpr ⟨CN λd m=>(h d m).1,CO λd m=>(h d m).1⟩,Yl (CP λd m=>(h d m).2)⟩
theorem Sh.ok{k:Nat}{d:D}(h:Sh k d)(hk:k<=64:=by decide):d5 d=true:=by show(kH d&&((cP d).canLay0&&decide ((cP d).depth<=64)))=true;rw[Hr h.1,Ht h.1,Bool.true_and,Bool.true_and];exact QC (QF h.2 hk)
theorem Hu{l:List Nat}{d:D}(m:d∈ak l):Sh 0 d:=by obtain⟨x,_,rfl⟩:=Qu.mp m;exact .int _
theorem sO(l:List Nat):Sh 1 (.lst (ak l)):=.lst λ_ m=>Hu m
theorem pz(l:List Nat):Sh 1 (.tup (ak l)):=.tup λ_ m=>Hu m
theorem UJ(n:Nat)(f:Nat->Nat->Nat):Sh 2 (bH n f):=.tup λd m=>by obtain⟨x,_,rfl⟩:=Qu.mp m;exact pz _
theorem CQ:∀ l l':List Nat,PyData.eqvAll (dg (ak l)) (dg (ak l'))=decide (l=l')
 | [],[]=>rfl
 | [],_::_=>rfl
 | _::_,[]=>rfl
 | x::l,y::l'=>by
  show(((x:Int)==(y:Int))&&PyData.eqvAll (dg (ak l)) (dg (ak l')))=_;rw[CQ l l'];by_cases h:x=y
  .subst h;simp
  .have:((x:Int)==(y:Int))=false:=by simp;omega
   rw[this];simp[h]
theorem Hv(l l':List Nat):nU (.lst (ak l)) (.lst (ak l'))=decide (l=l'):=CQ l l'
theorem zk(l l':List Nat):nU (.tup (ak l)) (.tup (ak l'))=decide (l=l'):=CQ l l'
theorem CS(i j:Int):nU (.int i) (.int j)=decide (i=j):=by show(i==j)=_;rw[Bool.beq_eq_decide_eq]
theorem CT(i j:Nat):nU (iD i) (iD j)=decide (i=j):=by rw[CS];exact decide_eq_decide.mpr ⟨λh=>Int.ofNat.inj h,λh=>by rw[h]⟩
theorem UK(l l':List Nat):dE (.lst (ak l)) (.lst (ak l'))=some (.bl (decide (l=l'))):=by unfold dE;rw[Ql ⟨(sO l).ok,(sO l').ok⟩,Hv]
theorem UL(l l':List Nat):cD (.lst (ak l)) (.lst (ak l'))=some (.bl (!decide (l=l'))):=by unfold cD;rw[Ql ⟨(sO l).ok,(sO l').ok⟩,Hv]
theorem Hw(i j:Int):dE (.int i) (.int j)=some (.bl (decide (i=j))):=by unfold dE;rw[Ql ⟨(Sh.int (k:=0) i).ok,(Sh.int (k:=0) j).ok⟩,CS]
theorem UM(i j:Int):cD (.int i) (.int j)=some (.bl (!decide (i=j))):=by unfold cD;rw[Ql ⟨(Sh.int (k:=0) i).ok,(Sh.int (k:=0) j).ok⟩,CS]
theorem Hx(i j:Nat):dE (iD i) (iD j)=some (.bl (decide (i=j))):=by unfold dE;rw[Ql ⟨(Sh.int (k:=0) _).ok,(Sh.int (k:=0) _).ok⟩,CT]
theorem Hy(i j:Nat):cD (iD i) (iD j)=some (.bl (!decide (i=j))):=by unfold cD;rw[Ql ⟨(Sh.int (k:=0) _).ok,(Sh.int (k:=0) _).ok⟩,CT]
theorem Hz{α:Type}{p:α->Bool}:∀ {l:List α} {j:Nat} {x:α},l[j]? = some x->p x=true->(∀ i y,i<j->l[i]? = some y->p y=false)->l.findIdx? p=some j
 | [],j,x,h,_,_=>by simp at h
 | a::l,0,x,h,hp,_=>by simp at h;subst h;simp[List.findIdx?_cons,hp]
 | a::l,j+1,x,h,hp,hn=>by have h0:p a=false:=hn 0 a (Nat.succ_pos _) rfl;have ih:=Hz (l:=l) (j:=j) (x:=x) (by simpa using h) hp λi y hi hy=>hn (i+1) y (Nat.succ_lt_succ hi) (by simpa using hy);simp[List.findIdx?_cons,h0,ih]
structure bF (n:Nat) (f:Nat->Nat->Nat):Prop where
 lo:0<n
 hi:n<=16
 cl:∀ i j,i<n->j<n->f i j<n
 idem:∀ i,i<n->f i i=i
 comm:∀ i j,i<n->j<n->f i j=f j i
 assoc:∀ i j k,i<n->j<n->k<n->f (f i j) k=f i (f j k)
 bot:∃ z,z<n/\∀ j,j<n->f z j=j
def CU (n:Nat)(f:Nat->Nat->Nat):Bool:=
 decide (0<n)&&decide (n<=16)&&((range n).all λi=>(range n).all λj=>decide (f i j<n))&&((range n).all λi=>decide (f i i=i))&&((range n).all λi=>(range n).all λj=>decide (f i j=f j i)) &&
 ((range n).all λi=>(range n).all λj=>(range n).all λk=>decide (f (f i j) k=f i (f j k)))&&((range n).any λz=>(range n).all λj=>decide (f z j=j))
theorem UN{n:Nat}{f:Nat->Nat->Nat}(h:CU n f=true):bF n f:=by unfold CU at h;simp only[Zo,Js,Yn,List.any_eq_true,Q0]at h;obtain⟨⟨⟨⟨⟨⟨h1,h2⟩,h3⟩,h4⟩,h5⟩,h6⟩,z,hz,h7⟩:=h;exact⟨h1,h2,λi j hi hj=>h3 i hi j hj,h4,λi j hi hj=>h5 i hi j hj,λi j k hi hj hk=>h6 i hi j hj k hk,z,hz,h7⟩
theorem bF.UO{n:Nat}{f:Nat->Nat->Nat}(L:bF n f){π ι:Nat->Nat}(h1:∀ i,i<n->π i<n)(h2:∀ i,i<n->ι i<n)(h3:∀ i,i<n->ι (π i)=i)(h4:∀ i,i<n->π (ι i)=i):bF n λa b=>π (f (ι a) (ι b)):=by
 obtain⟨l1,l2,cl,idem,comm,assoc,z,hz,bot⟩:=L;refine⟨l1,l2,λi j hi hj=>h1 _ (cl _ _ (h2 i hi) (h2 j hj)),λi hi=>?_,λi j hi hj=>?_,λi j k hi hj hk=>?_,π z,h1 z hz,λj hj=>?_⟩
 .show π (f (ι i) (ι i))=i;rw[idem _ (h2 i hi),h4 i hi]
 .show π (f (ι i) (ι j))=π (f (ι j) (ι i));rw[comm _ _ (h2 i hi) (h2 j hj)]
 .show π (f (ι (π (f (ι i) (ι j)))) (ι k))=π (f (ι i) (ι (π (f (ι j) (ι k)))));rw[h3 _ (cl _ _ (h2 i hi) (h2 j hj)),h3 _ (cl _ _ (h2 j hj) (h2 k hk)),assoc _ _ _ (h2 i hi) (h2 j hj) (h2 k hk)]
 .show π (f (ι (π z)) (ι j))=j;rw[h3 z hz,bot _ (h2 j hj),h4 j hj]
def bX (p:Nat->Nat->Nat)(n:Nat):Nat->List Nat
 | 0=>range n
 | k+1=>(bX p n k).eraseIdx (p k (bX p n k).length)
def drawn (p:Nat->Nat->Nat)(n k:Nat):Nat:=(bX p n k).getD (p k (bX p n k).length) 0
theorem HA:∀ (l:List Nat) (j:Nat),(ak l).eraseIdx j=ak (l.eraseIdx j)
 | [],_=>rfl
 | _::_,0=>rfl
 | a::l,j+1=>ZR ((iD a) :: ·) (HA l j)
theorem wH{p:Nat->Nat->Nat}{n:Nat}(hp:∀ k m,0<m->p k m<m):∀ k,k<=n->(bX p n k).length=n-k
 | 0,_=>by simp[bX]
 | k+1,h=>by have ih:=wH hp k (Nat.le_of_succ_le h);have:=hp k (n-k) (by omega);rw[bX,Y1,ih,Ql this];omega
theorem HB:∀ {l:List Nat} {j:Nat} (h:j<l.length),(l[j]::l.eraseIdx j).Perm l
 | a::l,0,_=>List.Perm.refl _
 | a::l,j+1,h=>(List.Perm.swap a (l[j]'(by simpa using h)) (l.eraseIdx j)).trans (List.Perm.cons a (HB (by simpa using h)))
theorem HC{p:Nat->Nat->Nat}{n:Nat}(hp:∀ k m,0<m->p k m<m):∀ k,k<=n->(((range k).map (drawn p n))++bX p n k).Perm (range n)
 | 0,_=>by simp[bX]
 | k+1,h=>by
  have ih:=HC hp k (Nat.le_of_succ_le h);have hl:=wH hp k (by omega:k<=n);have hj:p k (bX p n k).length<(bX p n k).length:=by rw[hl];exact hp k _ (by omega)
  refine List.Perm.trans ?_ ih;rw[YJ,QZ,QW];refine YO _ ?_;have e:drawn p n k=(bX p n k)[p k (bX p n k).length]:=by unfold drawn;rw[Qh,Qi hj];rfl
  show(drawn p n k::(bX p n (k+1))).Perm _;rw[e,bX];exact HB hj
theorem zl{p:Nat->Nat->Nat}{n:Nat}(hp:∀ k m,0<m->p k m<m):((range n).map (drawn p n)).Perm (range n):=by have h:=HC hp n (Qf n);have hl:=wH hp n (Qf n);rw[Y8]at hl;rw[Zq.mp hl,Q5]at h;exact h
theorem HD{p:Nat->Nat->Nat}{n:Nat}(hp:∀ k m,0<m->p k m<m){i:Nat}(h:i<n):drawn p n i<n:=by have m:drawn p n i∈(range n).map (drawn p n):=Qu.mpr ⟨i,Q0.mpr h,rfl⟩;exact Q0.mp ((zl hp).mem_iff.mp m)
def kO (p:Nat->Nat->Nat)(n a:Nat):Nat:=((range n).map (drawn p n)).idxOf a
theorem HE{p:Nat->Nat->Nat}{n:Nat}(hp:∀ k m,0<m->p k m<m){a:Nat}(h:a<n):kO p n a<n:=by have m:a∈(range n).map (drawn p n):=(zl hp).mem_iff.mpr (Q0.mpr h);have:=JR m;rw[Qg,QR]at this;exact this
theorem HF{p:Nat->Nat->Nat}{n:Nat}(hp:∀ k m,0<m->p k m<m){a:Nat}(h:a<n):drawn p n (kO p n a)=a:=by have m:a∈(range n).map (drawn p n):=(zl hp).mem_iff.mpr (Q0.mpr h);have:=List.getElem_idxOf (JR m);rw[List.getElem_map,List.getElem_range]at this;exact this
theorem HG{p:Nat->Nat->Nat}{n:Nat}(hp:∀ k m,0<m->p k m<m){i:Nat}(h:i<n):kO p n (drawn p n i)=i:=by
 have nd:((range n).map (drawn p n)).Nodup:=(zl hp).nodup_iff.mpr List.nodup_range;have hi:i<((range n).map (drawn p n)).length:=by simpa using h
 have:=nd.idxOf_getElem i hi;rw[List.getElem_map,List.getElem_range]at this;exact this
theorem wI{i n:Nat}{tt:cI}{te:aJ}{ρ:aW}{deep:Bool}(hi:ρ.length=i)(b:Nat->Bool)(v:Nat->D)(q:Nat->Nat)(ht:∀ j,j<n->tt (ρ++[i9 j])=some (b j,ρ++[i9 j]))
  (he:∀ j,j<n->b j=true->te (ρ++[i9 j])=some (v j,q j,ρ++[i9 j])) (hd:deep=true->∀ j,(v j).cO=true->q j=1:=by intro h;cases h) :
  jI 1 (aH i) tt te deep (eE n) ρ=some (((range n).filter b).map v,ρ):=by
 have h:=sN (k:=1) (pt:=aH i) (tt:=tt) (te:=te) (deep:=deep) (eE n) (λ_=>ρ) b v (λj hj=>?_)
 .rw[jm]at h;exact h
 .rw[jm]at hj;refine⟨ρ++[i9 j],_,?_,ht j hj,?_⟩
  .have:(eE n)[j]'(by rw[jm];exact hj)=(iD j):=by simp[eE]
   rw[this];unfold aH;rw[Ql (by simp[hi])];subst hi;simp[YK]
  .by_cases hb:b j=true
   .rw[Ql hb];exact⟨q j,_,he j hj hb,λ⟨h1,h2,h3⟩=>h3 (hd h1 j h2),by simp⟩
   .rw[Qt hb];simp
theorem HH{z:Nat}:∀ n:Nat,(range n).filter (λw=>decide (w=z))=if z<n then [z]else []
 | 0=>by simp
 | n+1=>by
  rw[YJ,List.filter_append,HH n];by_cases h:n=z
  .subst h;simp
  .have:¬ (n=z):=h;by_cases h2:z<n
   .rw[Ql h2,Ql (by omega)];simp[h]
   .rw[Qt h2,Qt (by omega)];simp[h]
theorem UP{n:Nat}{g:Nat->Nat}:(range n).map g=range n ↔ ∀ j,j<n->g j=j:=by
 constructor
 .intro h j hj;have:=ZR (λl=>l[j]?) h;simpa [hj]using this
 .intro h;have e:=Zc (l:=range n) (f:=g) (g:=id) λa ha=>h a (Q0.mp ha);rw[e,List.map_id]
namespace bF
variable {z:Nat}
variable {n:Nat}{f:Nat->Nat->Nat}(L:bF n f)
include L
theorem mY{x:Nat}(hz:z<n)(bz:∀ j,j<n->f z j=j)(hx:x<n)(bx:∀ j,j<n->f x j=j):x=z:=by have h1:=bx z hz;have h2:=bz x hx;rw[L.comm x z hx hz]at h1;omega
theorem fold_lt:∀ {l:List Nat} {a:Nat},a<n->(∀ x∈l,x<n)->l.foldl f a<n
 | [],a,ha,_=>ha
 | y::l,a,ha,h=>fold_lt (l:=l) (L.cl a y ha (h y Qc)) λx m=>h x (Qb _ m)
theorem HI:∀ {l:List Nat} {a x:Nat},a<n->x<n->(∀ x∈l,x<n)->f x a=a->f x (l.foldl f a)=l.foldl f a
 | [],a,x,_,_,_,e=>e
 | y::l,a,x,ha,hx,h,e=>by have hy:=h y Qc;refine HI (l:=l) (L.cl a y ha hy) hx (λx m=>h x (Qb _ m)) ?_;rw[<- L.assoc x a y hx ha hy,e]
theorem jq:∀ {l:List Nat} {a x:Nat},a<n->(∀ x∈l,x<n)->x∈l->f x (l.foldl f a)=l.foldl f a
 | y::l,a,x,ha,h,m=>by
  have hy:=h y Qc;have hl:∀ x∈l,x<n:=λx m=>h x (Qb _ m);rcases Qr.mp m with rfl|m
  .refine HI L (l:=l) (L.cl a x ha hy) hy hl ?_;rw[L.comm a x ha hy,<- L.assoc x x a hy hy ha,L.idem x hy]
  .exact jq (l:=l) (L.cl a y ha hy) hl m
theorem gB(hz:z<n)(bz:∀ j,j<n->f z j=j):∀ {l:List Nat} {a:Nat},a<n->(∀ x∈l,x<n)->l.foldl f a=f a (l.foldl f z)
 | [],a,ha,_=>by show a=f a z;rw[L.comm a z ha hz,bz a ha]
 | y::l,a,ha,h=>by have hy:=h y Qc;have hl:∀ x∈l,x<n:=λx m=>h x (Qb _ m);show l.foldl f (f a y)=f a (l.foldl f (f z y));rw[bz y hy,gB hz bz (L.cl a y ha hy) hl,gB hz bz hy hl,L.assoc a y _ ha hy (L.fold_lt hz hl)]
end bF
theorem UQ{l:List Nat}{i:Nat}(h:i<(ak l).length):(ak l)[i]=(iD (l.getD i 0)):=by
 have h':i<l.length:=by rw[iz]at h;exact h
 simp[ak,h']
theorem HJ{l:List Nat}{i:Nat}(h:i<l.length):l.getD i 0∈l:=by rw[Qh,Qi h];exact QS h
theorem UR{i:Nat}{te:aJ}{ρ:aW}{deep:Bool}(l:List Nat)(hi:ρ.length=i)(v:Nat->D)(q:Nat->Nat)
  (he:∀ x,x∈l->te (ρ++[i9 x])=some (v x,q x,ρ++[i9 x])) (hd:deep=true->∀ j,(v j).cO=true->q j=1:=by intro h;cases h) :
  jI 1 (aH i) dC te deep (ak l) ρ=some (l.map v,ρ):=by
 have h:=sN (k:=1) (pt:=aH i) (tt:=dC) (te:=te) (deep:=deep) (ak l) (λ_=>ρ) (λ_=>true) (λj=>v (l.getD j 0)) (λj hj=>?_)
 .rw[iz,show(range l.length).filter (λ_=>true)=range l.length by simp]at h;rw[h];have e:(range l.length).map (λj=>v (l.getD j 0))=l.map v:=by
   apply Zi;intro k;by_cases hk:k<l.length
   .simp[hk]
   .rw[QO (by simp;omega),QO (by simp;omega)]
  rw[e]
 .have iR:j<l.length:=by rw[iz]at hj;exact hj
  refine⟨ρ++[i9 (l.getD j 0)],_,?_,rfl,?_⟩
  .rw[UQ hj];unfold aH;rw[Ql (by simp[hi])];subst hi;simp[YK]
  .rw[Ql rfl];exact⟨q _,_,he _ (HJ iR),λ⟨h1,h2,h3⟩=>h3 (hd h1 _ h2),by simp⟩
theorem cm{g:D->D->Option D}{fa fb:aJ}{ρ ac am:aW}{x y d:D}{q q':Nat}(ha:fa ρ=some (x,q,ac))(hb:fb ac=some (y,q',am))(hg:g x y=some d):e2 g fa fb ρ=some (d,9,am):=by unfold e2;rw[ha];simp only[hb,hg]
theorem fu{f:aJ}{ρ ac:aW}{b:Bool}{q:Nat}(h:f ρ=some (.bl b,q,ac)):bf f ρ=some (b,ac):=by unfold bf;rw[h]
theorem qD{i:Nat}{g:bP}{ρ ac am:aW}{ds:List D}{d:D}(hl:sf ρ[i]? = true)(hg:g ρ=some ([d],ac))(h1:ac[i]? = some (some (.lst ds,1)))(hn:ds.length<=1000)(e:ac.set i (some (.lst (ds++[d]),1))=am):dB (jn i g) ρ=some (.nx am):=by unfold dB jn;rw[Ql hl,hg];simp only[h1,Ql hn,e]
theorem US{b:List D->Option D}{g:bP}{ρ ac:aW}{ds:List D}{d:D}(h:g ρ=some (ds,ac))(hd:b ds=some d):eB b g ρ=some (d,9,ac):=by unfold eB;rw[h];simp only[hd]
def iA (n:Nat)(r:Nat->Nat):D:=.tup (ak ((range n).map r))
abbrev r9 (n:Nat)(r:Nat->Nat):OD:=some (iA n r,9)
@[simp] theorem j3p{n:Nat}{r:Nat->Nat}:(iA n r).cO=false:=rfl
theorem zm{n i:Nat}{r:Nat->Nat}(h:i<n):cS (iA n r) (Int.ofNat i)=some (iD (r i)):=uw h
theorem zo(l l':List Nat):cD (.tup (ak l)) (.tup (ak l'))=some (.bl (!decide (l=l'))):=by unfold cD;rw[Ql ⟨(pz l).ok,(pz l').ok⟩,zk]
namespace bF
variable {b x y z:Nat}
variable {n:Nat}{f:Nat->Nat->Nat}(L:bF n f)
include L
theorem le_trans(hx:x<n)(hy:y<n)(hz:z<n)(h1:f x y=y)(h2:f y z=z):f x z=z:=by rw[<- h2,<- L.assoc x y z hx hy hz,h1]
theorem iS(hx:x<n)(hy:y<n)(h1:f x y=y)(h2:f y x=x):x=y:=by rw[L.comm y x hy hx,h1]at h2;exact h2.symm
theorem sP(hx:x<n)(hy:y<n):f x (f x y)=f x y:=by rw[<- L.assoc x x y hx hx hy,L.idem x hx]
theorem CV(hx:x<n)(hy:y<n):f y (f x y)=f x y:=by rw[L.comm x y hx hy];exact L.sP hy hx
theorem lub(hx:x<n)(hy:y<n)(hz:z<n)(h1:f x z=z)(h2:f y z=z):f (f x y) z=z:=by rw[L.assoc x y z hx hy hz,h2,h1]
theorem iB(hz:z<n)(bz:∀ j,j<n->f z j=j)(hb:b<n):∀ {l:List Nat},(∀ x∈l,x<n)->(∀ x∈l,f x b=b)->f (l.foldl f z) b=b
 | [],_,_=>bz b hb
 | y::l,h,k=>by
  have hy:=h y Qc;have hl:∀ x∈l,x<n:=λx m=>h x (Qb _ m);have e:(y::l).foldl f z=f y (l.foldl f z):=by show l.foldl f (f z y)=_;rw[bz y hy,L.gB hz bz hy hl]
  rw[e];exact L.lub hy (L.fold_lt hz hl) hb (k y Qc) (iB hz bz hb hl λx m=>k x (Qb _ m))
omit L
def low (n:Nat)(f:Nat->Nat->Nat)(x:Nat):List Nat:=(range n).filter λy=>decide (f y x=x)
theorem e8:y∈low n f x ↔ y<n/\f y x=x:=by simp[low]
def lr (n:Nat)(f:Nat->Nat->Nat)(z:Nat)(r:Nat->Nat)(x:Nat):Nat:=((low n f x).map r).foldl f z
include L
variable {z:Nat}(hz:z<n)(bz:∀ j,j<n->f z j=j){r s:Nat->Nat}(hr:∀ i,i<n->r i<n)
include hz bz hr
theorem iT:∀ y∈(low n f x).map r,y<n:=λy m=>by obtain⟨k,hk,rfl⟩:=Qu.mp m;exact hr k (e8.mp hk).1
theorem qE(x:Nat):lr n f z r x<n:=L.fold_lt hz (iT L hz bz hr)
theorem wJ(hy:y<n)(h:f y x=x):f (r y) (lr n f z r x)=lr n f z r x:=L.jq hz (iT L hz bz hr) (Qu.mpr ⟨y,e8.mpr ⟨hy,h⟩,rfl⟩)
theorem mZ(hb:b<n)(h:∀ y,y<n->f y x=x->f (r y) b=b):f (lr n f z r x) b=b:=L.iB hz bz hb (iT L hz bz hr) λy m=>by obtain⟨k,hk,rfl⟩:=Qu.mp m;exact h k (e8.mp hk).1 (e8.mp hk).2
theorem m7(hx:x<n)(hy:y<n)(h:f x y=y):f (lr n f z r x) (lr n f z r y)=lr n f z r y:=
 L.mZ hz bz hr (L.qE hz bz hr y) λk hk e=>L.wJ hz bz hr hk (L.le_trans hk hx hy e h)
end bF
theorem nY{α:Type}{us:List α}(h:us.length=1):∃ a,us=[a]:=match us,h with|[a],_=>⟨a,rfl⟩
theorem gk{α:Type}{us:List α}(h:us.length=2):∃ a b,us=[a,b]:=by
 cases us with
 | nil=>cases h
 | cons a us=>
  obtain⟨b,hh⟩:=nY (JS h);exact⟨a,b,by rw[hh]⟩
theorem lG{α:Type}{us:List α}(h:us.length=3):∃ a b c,us=[a,b,c]:=by
 cases us with
 | nil=>cases h
 | cons a us=>
  obtain⟨b,c,hh⟩:=gk (JS h);exact⟨a,b,c,by rw[hh]⟩
theorem uy{α:Type}{us:List α}(h:us.length=4):∃ a b c d,us=[a,b,c,d]:=by
 cases us with
 | nil=>cases h
 | cons a us=>
  obtain⟨b,c,d,hh⟩:=lG (JS h);exact⟨a,b,c,d,by rw[hh]⟩
theorem UT{α:Type}{us:List α}(h:us.length=5):∃ a b c d e,us=[a,b,c,d,e]:=by
 cases us with
 | nil=>cases h
 | cons a us=>
  obtain⟨b,c,d,e,hh⟩:=uy (JS h);exact⟨a,b,c,d,e,by rw[hh]⟩
theorem wK{pt:fE}{body:aI}{d:D}{ds:List D}{ρ ac am:aW}(h1:pt d ρ=some ac)(h2:body ac=some (.nx am)):fZ pt body (d::ds) ρ=fZ pt body ds am:=by show(match pt d ρ with|none=>none|some ac=>_)=_;simp only[h1,h2]
theorem CY{α J σ:Type}{pt:fE}{body:aI}(enc:α->D)(S:σ->J->aW)(g:σ->α->σ)(I:σ->Prop):∀ (l:List α) (s:σ) (j:J),I s->
  (∀ x∈l,∀ s j,I s->I (g s x)/\∃ ac j',pt (enc x) (S s j)=some ac/\body ac=some (.nx (S (g s x) j')))->∃ j',fZ pt body (l.map enc) (S s j)=some (.nx (S (l.foldl g s) j'))/\I (l.foldl g s)
 | [],s,j,i,_=>⟨j,rfl,i⟩
 | x::l,s,j,i,h=>by obtain⟨i1,ac,j1,h1,h2⟩:=h x Qc s j i;obtain⟨j2,e,i2⟩:=CY enc S g I l (g s x) j1 i1 λy m=>h y (Qb _ m);exact⟨j2,(wK h1 h2).trans e,i2⟩
theorem HK{c:cI}{b:aI}{Q:aW->Prop}(I:Nat->aW->Prop)
  (h:∀ k ρ,I k ρ->(∃ ac,c ρ=some (false,ac)/\Q ac)\/(∃ ac am k',c ρ=some (true,ac)/\b ac=some (.nx am)/\k'<k/\I k' am)):∀ m k ρ,k<m->I k ρ->∃ ad,mW c b m ρ=some (.nx ad)/\Q ad
 | 0,k,_,hk,_=>absurd hk (YH k)
 | m+1,k,ρ,hk,i=>by
  rcases h k ρ i with⟨ac,h1,h2⟩|⟨ac,am,k',h1,h2,h3,h4⟩
  .exact⟨ac,by unfold mW;simp[h1],h2⟩
  .obtain⟨ad,e,q⟩:=HK I h m k' am (by omega) h4;refine⟨ad,?_,q⟩;unfold mW;simp[h1,h2,e]
theorem wL{c:cI}{b:aI}{Q:aW->Prop}(I:Nat->aW->Prop){k:Nat}{ρ:aW}(hk:k<1000)(i:I k ρ)
  (h:∀ k ρ,I k ρ->(∃ ac,c ρ=some (false,ac)/\Q ac)\/(∃ ac am k',c ρ=some (true,ac)/\b ac=some (.nx am)/\k'<k/\I k' am)):∃ ad,ud c b ρ=some (.nx ad)/\Q ad:=HK I h 1000 k ρ hk i
def gv (v:List Nat)(i:Nat):Nat:=v.getD i 0
theorem zp{v:List Nat}{i:Nat}(h:i<v.length):v[i]? = some (gv v i):=by unfold gv;simp[h]
theorem CZ{v:List Nat}{i:Nat}(h:i<v.length):gv v i∈v:=HJ h
theorem zq{v:List Nat}{i:Nat}(h:i<v.length):cS (.lst (ak v)) (Int.ofNat i)=some (iD (gv v i)):=CL (zp h)
theorem C0{v:List Nat}{i:Nat}(h:i<v.length):cS (.tup (ak v)) (Int.ofNat i)=some (iD (gv v i)):=CL (zp h)
theorem HL(v:List Nat)(i x:Nat):(ak v).set i (.int (Int.ofNat x))=ak (v.set i x):=by simp[ak,List.map_set]
theorem UU{v:List Nat}{i:Nat}(h:i<v.length)(x j:Nat):gv (v.set i x) j=if j=i then x else gv v j:=by
 unfold gv;rw[Qh,Qh];by_cases e:j=i
 .subst e;rw[Ql rfl,Qz h];rfl
 .rw[Qt e,Qy (λz=>e z.symm)]
theorem C1{u v:List Nat}(h:u.length=v.length)(k:∀ i,i<u.length->gv u i=gv v i):u=v:=by
 apply Zi;intro i;by_cases hi:i<u.length
 .rw[zp hi,zp (by omega),k i hi]
 .rw[QO (by omega),QO (by omega)]
theorem C2{p i:Nat}(g:Nat->Nat)(h:i<p):gv ((range p).map g) i=g i:=by unfold gv;simp[h]
theorem UW(v:List Nat):v=(range v.length).map (gv v):=C1 (by simp) λi hi=>(C2 _ hi).symm
structure Vn (n p:Nat) (v:List Nat):Prop where
 len:v.length=p
 lt:∀ x∈v,x<n
theorem Vn.gv{n p:Nat}{v:List Nat}(h:Vn n p v){i:Nat}(hi:i<p):gv v i<n:=h.lt _ (CZ (by rw[h.len];exact hi))
theorem Vn.set{n p:Nat}{v:List Nat}(h:Vn n p v){i x:Nat}(hx:x<n):Vn n p (v.set i x):=⟨by rw[QA];exact h.len,λy hy=>by
 rcases List.mem_or_eq_of_mem_set hy with h' | h'
 .exact h.lt y h'
 .rw[h'];exact hx⟩
def eG (f:Nat->Nat->Nat)(p:Nat)(u v:List Nat):Prop:=∀ i,i<p->f (gv u i) (gv v i)=gv v i
abbrev lH:=Nat×(List Nat->Nat)
def cn (f:Nat->Nat->Nat)(v:List Nat)(s:lH):List Nat:=v.set s.1 (f (gv v s.1) (s.2 v))
structure kP (n p:Nat) (f:Nat->Nat->Nat) (s:lH):Prop where
 pl:s.1<p
 lt:∀ v,Vn n p v->s.2 v<n
 mono:∀ u v,Vn n p u->Vn n p v->eG f p u v->f (s.2 u) (s.2 v)=s.2 v
def mf (f:Nat->Nat->Nat)(l:List lH)(v:List Nat):Prop:=∀ s∈l,f (s.2 v) (gv v s.1)=gv v s.1
namespace bF
variable {s:lH}{u v:List Nat}
variable {n:Nat}{f:Nat->Nat->Nat}(L:bF n f){p:Nat}
include L
theorem gC(h:Vn n p v):eG f p v v:=λi hi=>L.idem _ (h.gv hi)
theorem fJ{w:List Nat}(hu:Vn n p u)(hv:Vn n p v)(hw:Vn n p w)(a:eG f p u v)(b:eG f p v w):eG f p u w:=λi hi=>L.le_trans (hu.gv hi) (hv.gv hi) (hw.gv hi) (a i hi) (b i hi)
theorem jr(hu:Vn n p u)(hv:Vn n p v)(a:eG f p u v)(b:eG f p v u):u=v:=
 C1 (hu.len.trans hv.len.symm) λi hi=>by rw[hu.len]at hi;exact L.iS (hu.gv hi) (hv.gv hi) (a i hi) (b i hi)
theorem gD(hs:kP n p f s)(h:Vn n p v):Vn n p (cn f v s):=h.set (L.cl _ _ (h.gv hs.pl) (hs.lt v h))
theorem gE(hs:kP n p f s)(h:Vn n p v)(i:Nat):gv (cn f v s) i=if i=s.1 then f (gv v s.1) (s.2 v)else gv v i:=UU (by rw[h.len];exact hs.pl) _ _
theorem ke(hs:kP n p f s)(h:Vn n p v):eG f p v (cn f v s):=λi hi=>by
 rw[L.gE hs h];by_cases e:i=s.1
 .subst e;rw[Ql rfl];exact L.sP (h.gv hi) (hs.lt v h)
 .rw[Qt e];exact L.idem _ (h.gv hi)
theorem m8(hs:kP n p f s)(hu:Vn n p u)(hv:Vn n p v)(a:eG f p u v):eG f p (cn f u s) (cn f v s):=λi hi=>by
 rw[L.gE hs hu,L.gE hs hv];by_cases e:i=s.1
 .subst e;rw[Ql rfl,Ql rfl];have h1:=hu.gv hs.pl;have h2:=hs.lt u hu;have h3:=hv.gv hs.pl;have h4:=hs.lt v hv;exact L.lub h1 h2 (L.cl _ _ h3 h4) (L.le_trans h1 h3 (L.cl _ _ h3 h4) (a _ hs.pl) (L.sP h3 h4)) (L.le_trans h2 h4 (L.cl _ _ h3 h4) (hs.mono u v hu hv a) (L.CV h3 h4))
 .rw[Qt e,Qt e];exact a i hi
theorem iU(hs:kP n p f s)(h:Vn n p v):cn f v s=v ↔ f (s.2 v) (gv v s.1)=gv v s.1:=by
 constructor
 .intro e;have:=ZR (λu=>gv u s.1) e;rw[L.gE hs h,Ql rfl]at this;rw[L.comm _ _ (hs.lt v h) (h.gv hs.pl)];exact this
 .intro e;refine C1 (by unfold cn;rw[QA]) λi hi=>?_;rw[L.gE hs h];by_cases e':i=s.1
  .subst e';rw[Ql rfl,L.comm _ _ (h.gv hs.pl) (hs.lt v h)];exact e
  .rw[Qt e']
theorem gm:∀ {l:List lH} {v:List Nat},(∀ s∈l,kP n p f s)->Vn n p v->Vn n p (l.foldl (cn f) v)
 | [],v,_,h=>h
 | s::l,v,hs,h=>gm (l:=l) (λt m=>hs t (Qb _ m)) (L.gD (hs s Qc) h)
theorem dM:∀ {l:List lH} {v:List Nat},(∀ s∈l,kP n p f s)->Vn n p v->eG f p v (l.foldl (cn f) v)
 | [],v,_,h=>L.gC h
 | s::l,v,hs,h=>by have h1:=L.gD (hs s Qc) h;have hl:∀ t∈l,kP n p f t:=λt m=>hs t (Qb _ m);exact L.fJ h h1 (L.gm (l:=l) hl h1) (L.ke (hs s Qc) h) (dM (l:=l) hl h1)
theorem dN{a:List Nat}(ha:Vn n p a):∀ {l:List lH} {v:List Nat},(∀ s∈l,kP n p f s)->Vn n p v->mf f l a->eG f p v a->eG f p (l.foldl (cn f) v) a
 | [],v,_,h,_,e=>e
 | s::l,v,hs,h,c,e=>by have s0:=hs s Qc;have h1:=L.gD s0 h;have hl:∀ t∈l,kP n p f t:=λt m=>hs t (Qb _ m);refine dN ha (l:=l) hl h1 (λt m=>c t (Qb _ m)) ?_;have:=L.m8 s0 h ha e;rw[(L.iU s0 ha).mpr (c s Qc)]at this;exact this
theorem dQ:∀ {l:List lH} {v:List Nat},(∀ s∈l,kP n p f s)->Vn n p v->(l.foldl (cn f) v=v ↔ mf f l v)
 | [],v,_,h=>⟨λ_ _ m=>(QK m).elim,λ_=>rfl⟩
 | s::l,v,hs,h=>by
  have s0:=hs s Qc;have h1:=L.gD s0 h;have hl:∀ t∈l,kP n p f t:=λt m=>hs t (Qb _ m);constructor
  .intro e;have e0:l.foldl (cn f) (cn f v s)=v:=e;have up:=L.dM hl h1;rw[e0]at up;have e1:cn f v s=v:=L.jr h1 h up (L.ke s0 h);rw[e1]at e0;have c:=(dQ (l:=l) hl h).mp e0;intro t m;rcases Qr.mp m with rfl|m
   .exact(L.iU s0 h).mp e1
   .exact c t m
  .intro c;show l.foldl (cn f) (cn f v s)=v;rw[(L.iU s0 h).mpr (c s Qc)];exact(dQ (l:=l) hl h).mpr λt m=>c t (Qb _ m)
def cnt (n:Nat)(f:Nat->Nat->Nat)(x:Nat):Nat:=((range n).filter λy=>decide (f x y=y)).length
def mu (n:Nat)(f:Nat->Nat->Nat)(v:List Nat):Nat:=(v.map (cnt n f)).sum
omit L in
theorem UX(x:Nat):cnt n f x<=n:=by have:=Zj (λy=>decide (f x y=y)) (range n);rw[QR]at this;exact this
omit L in
theorem m9(h:Vn n p v):mu n f v<=p*n:=by
 have key:∀ l:List Nat,(l.map (cnt n f)).sum<=l.length*n:=by
  intro l;induction l with
  | nil=>simp
  | cons x l ih=>
   have:=UX (n:=n) (f:=f) x;simp only[Zf,List.sum_cons,QN,JP];omega
 have:=key v;rw[h.len]at this;exact this
omit L in
theorem HM{q r:Nat->Bool}{a:Nat}:∀ {l:List Nat},(∀ x∈l,r x=true->q x=true)->a∈l->q a=true->r a=false->(l.filter r).length<(l.filter q).length
 | y::l,h,ha,hq,hr=>by
  have hl:∀ x∈l,r x=true->q x=true:=λx m=>h x (Qb _ m);have le:∀ l:List Nat,(∀ x∈l,r x=true->q x=true)->(l.filter r).length<=(l.filter q).length:=by
   intro l;induction l with
   | nil=>intro _;simp
   | cons z l ih=>
    intro h;have i:=ih λx m=>h x (Qb _ m);by_cases hz:r z=true
    .rw[Za hz,Za (h z Qc hz)];simp only[QN];omega
    .rw[Zr hz];by_cases wM:q z=true
     .rw[Za wM];simp only[QN];omega
     .rw[Zr wM];exact i
  by_cases e:y=a
  .subst e;rw[Zr (by rw[hr];simp),Za hq];have:=le l hl;simp only[QN];omega
  .have UY:a∈l:=by
    rcases Qr.mp ha with h' | h'
    .exact absurd h'.symm e
    .exact h'
   have i:=HM (l:=l) hl UY hq hr;by_cases hz:r y=true
   .rw[Za hz,Za (h y Qc hz)];simp only[QN];omega
   .rw[Zr hz];by_cases wM:q y=true
    .rw[Za wM];simp only[QN];omega
    .rw[Zr wM];exact i
theorem sQ{x y:Nat}(hx:x<n)(hy:y<n)(h:f x y=y)(ne:x≠y):cnt n f y<cnt n f x:=by refine HM (a:=x) (λk m hk=>?_) (Q0.mpr hx) (QC (L.idem x hx)) (QB λe=>ne (L.iS hx hy h e));exact QC (L.le_trans hx hy (Q0.mp m) h (Z4 hk))
theorem kQ(hu:Vn n p u)(hv:Vn n p v)(a:eG f p u v)(ne:u≠v):mu n f v<mu n f u:=by
 have key:∀ (u v:List Nat),u.length=v.length->(∀ x∈u,x<n)->(∀ x∈v,x<n)->(∀ i,i<u.length->f (gv u i) (gv v i)=gv v i)->((v.map (cnt n f)).sum<=(u.map (cnt n f)).sum)/\(u≠v->(v.map (cnt n f)).sum<(u.map (cnt n f)).sum):=by
  intro u;induction u with
  | nil=>
   intro v hl _ _ _;have:v=[]:=Zq.mp hl.symm;subst this;exact⟨Qf _,λh=>absurd rfl h⟩
  | cons x u ih=>
   intro v hl h1 h2 h3;cases v with
   | nil=>cases hl
   | cons y v=>
    have qY:u.length=v.length:=by simpa using hl
    obtain⟨i1,i2⟩:=ih v qY (λz m=>h1 z (Qb _ m)) (λz m=>h2 z (Qb _ m)) (λi hi=>h3 (i+1) (by simpa using hi));have e0:f x y=y:=h3 0 (by simp);have hx:=h1 x Qc;have hy:=h2 y Qc;simp only[Zf,List.sum_cons];by_cases e:x=y
    .subst e;exact⟨by omega,λh=>by have:=i2 (λz=>h (by rw[z]));omega⟩
    .have:=L.sQ hx hy e0 e;exact⟨by omega,λ_=>by omega⟩
 exact(key u v (hu.len.trans hv.len.symm) hu.lt hv.lt (λi hi=>a i (by rw[<- hu.len];exact hi))).2 ne
end bF
end L3
namespace My
open PySem PySem.Spec PyProof.Rows L2 L3
abbrev be:Str:="_law_ladder_here"
abbrev bi:Str:="_law_script"
abbrev bn:Str:="ladder"
abbrev bv:Str:="program"
abbrev ce:Str:="chart"
abbrev cr:Str:="_law_worth"
abbrev db:Str:="_law_program_here"
abbrev dl:Str:="_law_many"
abbrev dL:Str:="_law_number"
abbrev fv:Str:="_law_at"
abbrev ge:Str:="number"
abbrev ii:Str:="_law_worths"
abbrev im:Str:="NoHouse"
abbrev jp:Str:="_law_rule_here"
abbrev kw:Str:="_law_chart"
abbrev lc:Str:="_law_one"
abbrev li:Str:="_law_ways"
abbrev ln:Str:="_law_other"
abbrev lv:Str:="_law_made"
abbrev lw:Str:="rules"
abbrev ms:Str:="_law_deep"
abbrev on:Str:="_law_start"
abbrev pc:Str:="worth"
abbrev pi:Str:="thing"
abbrev pp:Str:="places"
abbrev pr:Str:="_law_house"
abbrev rc:Str:="_law_base_here"
abbrev re:Str:="_law_places"
abbrev sw:Str:="house"
abbrev sB:Str:="_law_goal"
abbrev sK:Str:="worths"
abbrev t3:Str:="_law_first"
abbrev ul:Str:="_law_k"
abbrev ut:Str:="_law_inner"
abbrev wf:Str:="_law_kept"
abbrev wn:Str:="place"
variable {R:DL}{a b d fr0 h i j m n p q q':Nat}{body:aI}{ds cJ ds0:List D}{f:Nat->Nat->Nat}{fa fb fe te:aJ}{g:cI}{l:List (Nat×Nat)}{ns:List Int}{r x:D}{s:Str}{st:Stmt}{u v:List Nat}{y:gA}{ρ ac am:aW}
def top (i:Nat):Stmt:=PySem.Challenge.pw_ladderhall_k83_whole_copies.main.body.getD i (.Pass ⟨0,0,0,0⟩)
structure Bt (mg:Str->Option Value):Prop where
 iV:mg "ValueError" = none
 wN:mg "all" = none
 sR:mg "bool" = none
 js:mg "enumerate" = none
 kR:mg "int" = none
 aB:mg "isinstance" = none
 aL:mg "len" = none
 gF:mg "list" = none
 qF:mg "max" = none
 wO:mg "min" = none
 aQ:mg "range" = none
 qG:mg "set" = none
 jt:mg "sorted" = none
 wQ:mg "str" = none
 aU:mg "tuple" = none
structure Xt (K:PySem.W.Frag) (mg:Str->Option Value):Prop where
 u:ph K mg "RiseError" [im]
 lI:∃ C,B0 K mg "NoHouse" C
 lJ:fI K mg [im] "NoHouse"
 pA:fI K mg [im] "NoMap"
 lK:fI K mg [im] "NoPlace"
 m_:fI K mg [im] "NoRule"
 nc:fI K mg [im] "NoStep"
 kg:fI K mg [im] "TooGreat"
section
variable {P:Program}{w:World}{K:PySem.W.Frag}{mg:Str->Option Value}{base:Heap}
def HN:aI:=az (dn (bf (e2 jk (aa 1) (bE 0))) (bG (aS 0 (aa 1))) d4)
 (az (dn (bf (e2 dE (aa 0) (cZ ai))) (bG (eC (.int 0))) d4)
 (bG (e2 cb (e2 ix (aS 0 (e2 lb (aa 1) (bE 0))) (eC (.int 31))) (aa 1))))
def wR:=bR 2 (HN)
theorem UZ:aj [bi,ul] [bi,ul] (aZ (top 46)):=cF (by decide +kernel)
theorem U0(B:Bt mg)(a:At K mg "_law_cell" (top 46) [bi,ul]):aw P w K mg base 1 "_law_cell" 2 (wR):=
 aw.cz a UZ λ_ _ _ _ _ _ _ hr=>
  aR (gy (yz (ax 1 rfl rfl) (dF B.aL (ql 0 rfl rfl))) (aX (bU (bV (ql 0 rfl rfl) (ax 1 rfl rfl)))) gO)
  (aR (gy (qh hr (ax 0 rfl rfl) (el aq)) (aX (bU aY)) gO)
  (aX (bU (dv (mG (bV (ql 0 rfl rfl) (oQ (ax 1 rfl rfl) (dF B.aL (ql 0 rfl rfl)))) aY) (ax 1 rfl rfl)))))
def HP:aI:=az (aV 3 (e2 lb (e2 ix (e2 cb (aE wR 2 (af (aa 0) (af (aa 1) ai))) (e2 ix (eC (.int 6151)) (e2 cb (aa 1) (eC (.int 1))))) (eC (.int 40692))) (eC (.int 2147483399))))
 (bG (e2 lb (e2 lb (e2 cb (e2 ix (aa 3) (aa 3)) (e2 yx (aa 3) (eC (.int 31)))) (eC (.int 2147483629))) (aa 2)))
def dG:=bR 4 (HP)
theorem HQ:aj [bi,ul,dl,"_law_drawn"] [bi,ul,dl] (aZ (top 47)):=cF (by decide +kernel)
theorem U1(B:Bt mg)(c8:aw P w K mg base 1 "_law_cell" 2 wR)(a:At K mg "_law_pick" (top 47) [bi,ul,dl]):aw P w K mg base 2 "_law_pick" 3 (dG):=
 aw.cz a HQ λ_ _ _ _ _ _ _ hr=>
  aR (br (i:=3) HQ.nd (oQ (mG (dv (bb c8 hr (ay 0 rfl rfl (ay 1 rfl rfl aq))) (mG aY (dv (ax 1 rfl rfl) aY))) aY) aY))
  (aX (bU (oQ (oQ (dv (mG (ax 3 rfl rfl) (ax 3 rfl rfl)) (Bj (ax 3 rfl rfl) aY)) aY) (ax 2 rfl rfl))))
def U2:aI:=bG (eO 1 (dW (af (aa 0) ai)) (aH 1) dC (eO 1 (dW (af (aa 0) ai)) (aH 2) dC (eB yK (af (aa 1) (af (aa 2) ai))) false) false)
def kh:=bR 1 (U2)
theorem U3:aj [dl] [dl] (aZ (top 48)):=cF (by decide +kernel)
abbrev HR:List Str:=[dl,lc,ln]
theorem U4:(HR).Nodup:=by decide +kernel
abbrev HS:List Str:=[dl,lc]
theorem U5:(HS).Nodup:=by decide +kernel
theorem U6(B:Bt mg)(a:At K mg "_law_chain" (top 48) [dl]):aw P w K mg base 1 "_law_chain" 1 (kh):=
 aw.cz a U3 λ_ _ _ _ _ _ _ hr=>
  aX (bU (kG (k:=1) (N':=HS) false rfl (i7 B.aQ (au (cV (qv 0)) aq eZ)) (λ_ _ _ _=>b7 (i:=1) (show 1<=1 by decide) U5 rfl (Or.inr rfl) (Or.inl rfl)) (λ_ _ _ _=>kF) (λ_ _ _ _=>kG (k:=1) (N':=HR) false rfl (i7 B.aQ (au (cV (qv 0)) aq eZ)) (λ_ _ _ _=>b7 (i:=2) (show 2<=2 by decide) U4 rfl (Or.inl rfl) (Or.inr rfl)) (λ_ _ _ _=>kF) (λ_ _ _ _=>F7 rfl B.qF YR (au (cV (qv 1)) (au (cV (qv 2)) aq eZ) eZ)))))
abbrev U7:aI:=az (aV 7 (cK (aS 0 (e2 yx (aa 4) (aa 2))) (e2 yx (aa 6) (aa 2))))
 (dB (jn 5 (af (e2 cb (e2 ix (aa 7) (aa 2)) (cK (aS 1 (e2 lb (aa 4) (aa 2))) (e2 lb (aa 6) (aa 2)))) ai)))
abbrev U8:aI:=az (aV 5 (cZ ai))
 (az (fN (dW (af (e2 ix (bE 0) (aa 2)) ai)) (aH 6) U7)
 (dB (jn 3 (af (aa 5) ai))))
def U9:aI:=az (aV 2 (bE 1))
 (az (aV 3 (cZ ai))
 (az (fN (dW (af (e2 ix (bE 0) (aa 2)) ai)) (aH 4) U8)
 (bG (aa 3))))
def nZ:=bR 8 (U9)
theorem sS:aj [lc,ln,dl,lv,"_law_here","_law_row","_law_there",t3] [lc,ln] (aZ (top 49)):=cF (by decide +kernel)
theorem U_(B:Bt mg)(a:At K mg "_law_couples" (top 49) [lc,ln]):aw P w K mg base 1 "_law_couples" 2 (nZ):=
 aw.cz a sS λ_ _ _ _ _ _ _ hr=>
  aR (br (i:=2) sS.nd (dF B.aL (ql 1 rfl rfl)))
  (aR (br (i:=3) sS.nd (el aq))
  (aR (iM QG rfl (i7 B.aQ (au (mG (dF B.aL (ql 0 rfl rfl)) (ax 2 rfl rfl)) aq dX)) (b7 (i:=4) (show 0<=4 by decide) sS.nd rfl (Or.inl rfl)) (aR (br (i:=5) sS.nd (el aq))
  (aR (iM QG rfl (i7 B.aQ (au (mG (dF B.aL (ql 0 rfl rfl)) (ax 2 rfl rfl)) aq dX)) (b7 (i:=6) (show 0<=6 by decide) sS.nd rfl (Or.inl rfl)) (aR (br (i:=7) sS.nd (gw (bV (ql 0 rfl rfl) (Bj (ax 4 rfl rfl) (ax 2 rfl rfl))) (Bj (ax 6 rfl rfl) (ax 2 rfl rfl))))
  (aX (hG (lZ (ql 5 rfl rfl) (au (dv (mG (ax 7 rfl rfl) (ax 2 rfl rfl)) (gw (bV (ql 1 rfl rfl) (oQ (ax 4 rfl rfl) (ax 2 rfl rfl))) (oQ (ax 6 rfl rfl) (ax 2 rfl rfl)))) aq dX))))))
  (aX (hG (lZ (ql 3 rfl rfl) (ay 5 rfl rfl aq)))))))
  (aX (bU (ax 3 rfl rfl)))))
abbrev Vb:aI:=dB (jn 3 (af (lV (t5 (bf (e2 nV (eC (.int 0)) (bS (af (aa 2) (af (aa 4) ai))))) (bf (e2 dE (aa 2) (aa 4)))) (eB yK (af (aa 2) (af (aa 4) ai))) (e2 cb (aa 0) (eC (.int 1)))) ai))
abbrev Vc:aI:=az (aV 3 (cZ ai))
 (az (fN (dW (af (e2 cb (aa 0) (eC (.int 2))) ai)) (aH 4) Vb)
 (dB (jn 1 (af (aa 3) ai))))
def Vd:aI:=az (aV 1 (cZ ai))
 (az (fN (dW (af (e2 cb (aa 0) (eC (.int 2))) ai)) (aH 2) Vc)
 (bG (aa 1)))
def pB:=bR 5 (Vd)
theorem wU:aj [dl,lv,lc,"_law_row",ln] [dl] (aZ (top 50)):=cF (by decide +kernel)
theorem Ve(B:Bt mg)(a:At K mg "_law_side_by_side" (top 50) [dl]):aw P w K mg base 1 "_law_side_by_side" 1 (pB):=
 aw.cz a wU λ_ _ _ _ _ _ _ hr=>
  aR (br (i:=1) wU.nd (el aq))
  (aR (iM QG rfl (i7 B.aQ (au (dv (ax 0 rfl rfl) aY) aq dX)) (b7 (i:=2) (show 0<=2 by decide) wU.nd rfl (Or.inl rfl)) (aR (br (i:=3) wU.nd (el aq))
  (aR (iM QG rfl (i7 B.aQ (au (dv (ax 0 rfl rfl) aY) aq dX)) (b7 (i:=4) (show 0<=4 by decide) wU.nd rfl (Or.inl rfl)) (aX (hG (lZ (ql 3 rfl rfl) (au (yB (wC (yA (F5 hr aY (d3 (ay 2 rfl rfl (ay 4 rfl rfl aq)))) (Bo (qh hr (ax 2 rfl rfl) (ax 4 rfl rfl))))) (F7 rfl B.qF YR (ay 2 rfl rfl (ay 4 rfl rfl aq))) (dv (ax 0 rfl rfl) aY)) aq yO)))))
  (aX (hG (lZ (ql 1 rfl rfl) (ay 3 rfl rfl aq)))))))
  (aX (bU (ax 1 rfl rfl))))
def HU:aI:=az (aV 2 (aE dG 3 (af (aa 0) (af (aa 1) (af (eC (.int 9)) ai)))))
 (az (dn (bf (e2 jk (aa 2) (eC (.int 3)))) (bG (aE kh 1 (af (e2 cb (eC (.int 1)) (aE dG 3 (af (aa 0) (af (e2 cb (aa 1) (eC (.int 1))) (af (eC (.int 5)) ai))))) ai))) d4)
 (az (dn (bf (e2 jk (aa 2) (eC (.int 5)))) (bG (aE nZ 2 (af (aE kh 1 (af (eC (.int 2)) ai)) (af (aE kh 1 (af (cK (cZ (af (eC (.int 2)) (af (eC (.int 3)) (af (eC (.int 4)) ai)))) (aE dG 3 (af (aa 0) (af (e2 cb (aa 1) (eC (.int 1))) (af (eC (.int 3)) ai))))) ai)) ai)))) d4)
 (az (dn (bf (e2 jk (aa 2) (eC (.int 7)))) (bG (aE pB 1 (af (aE dG 3 (af (aa 0) (af (e2 cb (aa 1) (eC (.int 1))) (af (eC (.int 5)) ai)))) ai))) d4)
 (az (dn (bf (e2 dE (aa 2) (eC (.int 7)))) (bG (aE nZ 2 (af (aE kh 1 (af (eC (.int 2)) ai)) (af (aE nZ 2 (af (aE kh 1 (af (eC (.int 2)) ai)) (af (aE kh 1 (af (eC (.int 2)) ai)) ai))) ai)))) d4)
 (az (aV 3 (cZ (af (cZ (af (eC (.int 0)) (af (eC (.int 1)) (af (eC (.int 2)) (af (eC (.int 3)) (af (eC (.int 4)) ai)))))) (af (cZ (af (eC (.int 1)) (af (eC (.int 1)) (af (eC (.int 2)) (af (eC (.int 4)) (af (eC (.int 4)) ai)))))) (af (cZ (af (eC (.int 2)) (af (eC (.int 2)) (af (eC (.int 2)) (af (eC (.int 4)) (af (eC (.int 4)) ai)))))) (af (cZ (af (eC (.int 3)) (af (eC (.int 4)) (af (eC (.int 4)) (af (eC (.int 3)) (af (eC (.int 4)) ai)))))) (af (cZ (af (eC (.int 4)) (af (eC (.int 4)) (af (eC (.int 4)) (af (eC (.int 4)) (af (eC (.int 4)) ai)))))) ai)))))))
 (bG (aa 3)))))))
def wV:=bR 4 (HU)
theorem C3:aj [bi,fv,"_law_kind","_law_rows"] [bi,fv] (aZ (top 51)):=cF (by decide +kernel)
theorem Vf(B:Bt mg)(hZ:aw P w K mg base 2 "_law_pick" 3 dG)(uz:aw P w K mg base 1 "_law_chain" 1 kh)(C5:aw P w K mg base 1 "_law_couples" 2 nZ)(Vg:aw P w K mg base 1 "_law_side_by_side" 1 pB)(a:At K mg "_law_base" (top 51) [bi,fv]):aw P w K mg base 3 "_law_base" 2 (wV):=
 aw.cz a C3 λ_ _ _ _ _ _ _ hr=>
  aR (br (i:=2) C3.nd (bb hZ hr (ay 0 rfl rfl (ay 1 rfl rfl (ck aq)))))
  (aR (gy (yz (ax 2 rfl rfl) aY) (aX (bU (bb uz hr (au (dv aY (bb hZ hr (ay 0 rfl rfl (au (dv (ax 1 rfl rfl) aY) (ck aq) dX)))) aq dX)))) gO)
  (aR (gy (yz (ax 2 rfl rfl) aY) (aX (bU (bb C5 hr (au (bb uz hr (ck aq)) (au (bb uz hr (au (gw (el (ck (ck (ck aq)))) (bb hZ hr (ay 0 rfl rfl (au (dv (ax 1 rfl rfl) aY) (ck aq) dX)))) aq ja)) aq bQ) bQ)))) gO)
  (aR (gy (yz (ax 2 rfl rfl) aY) (aX (bU (bb Vg hr (au (bb hZ hr (ay 0 rfl rfl (au (dv (ax 1 rfl rfl) aY) (ck aq) dX))) aq bQ)))) gO)
  (aR (gy (qh hr (ax 2 rfl rfl) aY) (aX (bU (bb C5 hr (au (bb uz hr (ck aq)) (au (bb C5 hr (au (bb uz hr (ck aq)) (au (bb uz hr (ck aq)) aq bQ) bQ)) aq bQ) bQ)))) gO)
  (aR (br (i:=3) C3.nd (el (au (el (ck (ck (ck (ck (ck aq)))))) (au (el (ck (ck (ck (ck (ck aq)))))) (au (el (ck (ck (ck (ck (ck aq)))))) (au (el (ck (ck (ck (ck (ck aq)))))) (au (el (ck (ck (ck (ck (ck aq)))))) aq ua) ua) ua) ua) ua)))
  (aX (bU (ax 3 rfl rfl))))))))
abbrev Vh:aI:=vP 5 (si 4 (o4 6)) (si 4 (o4 7)) (aS 4 (cK (aS 2 (aa 6)) (aa 7)))
abbrev Vi:aI:=fN (dW (af (bE 2) ai)) (aH 7) (Vh)
def HV:aI:=az (aV 2 (aE wV 2 (af (aa 0) (af (aa 1) ai))))
 (az (aV 3 (qo (af (bE 2) ai)))
 (az (aV 4 (eO 1 (dW (af (bE 2) ai)) (aH 8) dC (vN 3 (af (aE dG 3 (af (aa 0) (af (e2 cb (e2 cb (aa 1) (eC (.int 2))) (aa 8)) (af (bE 3) ai)))) ai)) false))
 (az (aV 5 (eO 1 (cL (aa 2)) (aH 8) dC (l7 (cZ (af (eC (.int 0)) ai)) (bE 2)) true))
 (az (fN (dW (af (bE 2) ai)) (aH 6) Vi)
 (bG (fF (af (eO 1 (cL (aa 5)) (aH 8) dC (fF (af (aa 8) ai)) false) ai)))))))
def uA:=bR 8 (HV)
theorem sT:aj [bi,fv,rc,"_law_left","_law_name",lv,lc,ln] [bi,fv] (aZ (top 52)):=cF (by decide +kernel)
abbrev HW:List Str:=[bi,fv,rc,"_law_left","_law_name",lv,lc,ln,ul]
theorem Vj:(HW).Nodup:=by decide +kernel
abbrev C6:List Str:=[bi,fv,rc,"_law_left","_law_name",lv,lc,ln,"_law_row"]
theorem HX:(C6).Nodup:=by decide +kernel
theorem Vk(B:Bt mg)(c7:aw P w K mg base 3 "_law_base" 2 wV)(hZ:aw P w K mg base 2 "_law_pick" 3 dG)(a:At K mg "_law_ladder" (top 52) [bi,fv]):aw P w K mg base 4 "_law_ladder" 2 (uA):=
 aw.cz a sT λ_ _ _ _ _ _ _ hr=>
  aR (br (i:=2) sT.nd (bb c7 hr (au (cV (qv 0)) (au (cV (qv 1)) aq eZ) eZ)))
  (aR (br (i:=3) sT.nd (BA rfl B.gF ZH B.aQ (au (dF B.aL (qv 2)) aq bQ)))
  (aR (yI (i:=4) (k:=1) (N':=HW) false sT.nd rfl rfl (i7 B.aQ (au (dF B.aL (qv 2)) aq bQ)) (λ_ _ _ _=>b7 (i:=8) (show 8<=8 by decide) Vj rfl (Or.inl rfl) (Or.inr rfl)) (λ_ _ _ _=>kF) (λ_ _ _ _=>Ra (qv 3) (au (bb hZ hr (au (cV (qv 0)) (au (dv (dv (cV (qv 1)) aY) (cV (qv 8))) (au (dF B.aL (qv 3)) aq bQ) dX) eZ)) aq bQ)))
  (aR (yI (i:=5) (k:=1) (N':=C6) true sT.nd rfl rfl (i8 (cV (qv 2))) (λ_ _ _ _=>b7 (i:=8) (show 8<=8 by decide) HX rfl (Or.inl rfl) (Or.inr rfl)) (λ_ _ _ _=>kF) (λ_ _ _ _=>yL (el (ck aq)) (dF B.aL (qv 2))))
  (aR (iM QG rfl (i7 B.aQ (au (dF B.aL (qv 2)) aq bQ)) (b7 (i:=6) (show 0<=6 by decide) sT.nd rfl (Or.inl rfl)) (aX (iM QG rfl (i7 B.aQ (au (dF B.aL (qv 2)) aq bQ)) (b7 (i:=7) (show 0<=7 by decide) sT.nd rfl (Or.inl rfl)) (aX (Rg (ql 5 rfl rfl) (Gi (ql 4 rfl rfl) (yM (ql 6 rfl rfl))) (Gi (ql 4 rfl rfl) (yM (ql 7 rfl rfl))) (bV (ql 4 rfl rfl) (gw (bV (qv 2) (ax 6 rfl rfl)) (ax 7 rfl rfl))))))))
  (aX (bU (iP B.aU Qp (au (kG (k:=1) (N':=C6) false rfl (i8 (ax 5 rfl rfl)) (λ_ _ _ _=>b7 (i:=8) (show 8<=8 by decide) HX rfl (Or.inl rfl) (Or.inr rfl)) (λ_ _ _ _=>kF) (λ_ _ _ _=>iP B.aU Qp (au (cV (qv 8)) aq eZ))) aq sr))))))))
abbrev zr (R:DL):aI:=dn (iy (eA (mQ .int (aa 10)))) (dB (sM 4 (af (bS (af (e2 cb (aa 3) (aa 8)) (af (e2 cb (aa 3) (aa 9)) (af (aa 10) ai)))) ai))) (dn (bf (e2 vH (aa 2) (eC (.int 0)))) (az (dB (sM 4 (af (bS (af (e2 cb (aa 3) (aa 8)) (af (aa 7) (af (eC (.str "in")) ai)))) ai)))
 (az (dB (sM 4 (af (bS (af (e2 la (e2 cb (aa 7) (cK (aS 0 (aa 10)) (eC (.int 0)))) (eC (.int 1))) (af (e2 cb (aa 3) (aa 9)) (af (eC (.str "in")) ai)))) ai)))
 (aV 7 (uo R 5 4 (af (aa 0) (af (aa 10) (af (e2 la (aa 2) (eC (.int 1))) (af (aa 7) ai)))))))) d4)
def HY (R:DL):aI:=az (vV (aS 0 (aa 1)) (eQ (bD (aH 5) (bD (aH 6) fG))))
 (az (aV 7 (e2 cb (aa 3) (aa 5))) (fN (cL (aa 6)) (eQ (bD (aH 8) (bD (aH 9) (bD (aH 10) fG)))) (zr R)))
def HZ:aI:=bG (aa 7)
def pC (R:DL):DL:=sL 11 (HY R) HZ
def uB:DL:=pC (pC (pC λ_ _ _=>none))
theorem qH:aj [db,dL,ms,t3,li,re,ut,"_law_following",on,sB,jp] [db,dL,ms,t3,li] (aZ (top 66)):=cF (by decide +kernel)
theorem C7(B:Bt mg){k:Nat}(cR:kM P w K mg base k "_law_copied" 5 R)(a:At K mg "_law_copied" (top 66) [db,dL,ms,t3,li]):kM P w K mg base (k+1) "_law_copied" 5 (pC R):=
 kM.cz (k:=k) a qH (by decide) rfl λ_ _ _ _ _ _ _ hr=>
  ⟨RN (bV (ql 0 rfl rfl) (ax 1 rfl rfl)) (mP (n:=2) rfl (e4 (b7 (i:=5) (show 0<=5 by decide) qH.nd rfl (Or.inl rfl)) (e4 (b7 (i:=6) (show 0<=6 by decide) qH.nd rfl (Or.inl rfl)) mO)) yP),br (i:=7) qH.nd (dv (ax 3 rfl rfl) (ax 5 rfl rfl)),iM QG rfl (i8 (ax 6 rfl rfl)) (mP (n:=3) rfl (e4 (b7 (i:=8) (show 0<=8 by decide) qH.nd rfl (Or.inl rfl)) (e4 (b7 (i:=9) (show 0<=9 by decide) qH.nd rfl (Or.inl rfl)) (e4 (b7 (i:=10) (show 0<=10 by decide) qH.nd rfl (Or.inl rfl)) mO))) sC) (aX (gy (nS (kD (sv .int B.aB B.kR Z3 (ax 10 rfl rfl)))) (aX (hG (CI (ql 4 rfl rfl) (au (d3 (au (dv (ax 3 rfl rfl) (ax 8 rfl rfl)) (au (dv (ax 3 rfl rfl) (ax 9 rfl rfl)) (ay 10 rfl rfl aq) dX) dX)) aq j_)))) (aX (gy (FG (ax 2 rfl rfl) aY) (aR (hG (CI (ql 4 rfl rfl) (au (d3 (au (dv (ax 3 rfl rfl) (ax 8 rfl rfl)) (ay 7 rfl rfl (au kC aq kK)) dX)) aq j_)))
  (aR (hG (CI (ql 4 rfl rfl) (au (d3 (au (t4 (dv (ax 7 rfl rfl) (gw (bV (ql 0 rfl rfl) (ax 10 rfl rfl)) aY)) aY) (au (dv (ax 3 rfl rfl) (ax 9 rfl rfl)) (au kC aq kK) dX) dX)) aq j_)))
  (aX (br (i:=7) qH.nd (Hk cR hr (Qf _) (ax 0 rfl rfl) (ax 10 rfl rfl) (t4 (ax 2 rfl rfl) aY) (ax 7 rfl rfl) (ql 4 rfl rfl)))))) gO)))),
  aX (bU (ax 7 rfl rfl))⟩
def H9:aI:=bG (fF (af (l7 (cZ (af (aa 1) ai)) (bE 0)) ai))
def qI:=bR 2 (H9)
theorem Vm:aj [bn,pc] [bn,pc] (aZ (top 16)):=cF (by decide +kernel)
theorem Vo(B:Bt mg)(a:At K mg "steady" (top 16) [bn,pc]):aw P w K mg base 1 "steady" 2 (qI):=
 aw.cz a Vm λ_ _ _ _ _ _ _ hr=>
  aX (bU (iP B.aU Qp (au (yL (el (ay 1 rfl rfl aq)) (dF B.aL (ql 0 rfl rfl))) aq dX)))
def H_:aI:=bG (Gd (af (aa 0) ai))
def wW:=bR 1 (H_)
theorem Vp:aj ["many"] ["many"] (aZ (top 13)):=cF (by decide +kernel)
theorem Vq(B:Bt mg)(a:At K mg "row_of_least" (top 13) ["many"]):aw P w K mg base 1 "row_of_least" 1 (wW):=
 aw.cz a Vp λ_ _ _ _ _ _ _ hr=>
  aX (bU (P4 rfl B.aU Qp B.aQ (ay 0 rfl rfl aq)))
def Ie:aI:=bG (BJ (aa 0) (af (aE wW 1 (af (bE 0) ai)) ai))
def n4:=bR 1 (Ie)
theorem Vr:aj [bn] [bn] (aZ (top 14)):=cF (by decide +kernel)
theorem Vs(B:Bt mg)(Vt:aw P w K mg base 1 "row_of_least" 1 wW)(a:At K mg "least_of" (top 14) [bn]):aw P w K mg base 2 "least_of" 1 (n4):=
 aw.cz a Vr λ_ _ _ _ _ _ _ hr=>
  aX (bU (Q_ hr (ax 0 rfl rfl) (au (bb Vt hr (au (dF B.aL (ql 0 rfl rfl)) aq bQ)) aq bQ)))
def Ig:aI:=bG (fF (af (l7 (cZ (af (aE qI 2 (af (aa 0) (af (aE n4 1 (af (aa 0) ai)) ai))) ai)) (bE 1)) ai))
def wX:=bR 2 (Ig)
theorem Vu:aj [bn,bv] [bn,bv] (aZ (top 38)):=cF (by decide +kernel)
theorem Vv(B:Bt mg)(Vw:aw P w K mg base 1 "steady" 2 qI)(C8:aw P w K mg base 2 "least_of" 1 n4)(a:At K mg "least_rules" (top 38) [bn,bv]):aw P w K mg base 3 "least_rules" 2 (wX):=
 aw.cz a Vu λ_ _ _ _ _ _ _ hr=>
  aX (bU (iP B.aU Qp (au (yL (el (au (bb Vw hr (ay 0 rfl rfl (au (bb C8 hr (ay 0 rfl rfl aq)) aq bQ))) aq bQ)) (dF B.aL (ql 1 rfl rfl))) aq dX)))
def Ih:aI:=bG (yN (mQ .int (aa 0)) (BN (mQ .bool (aa 0))))
def kS:=bR 1 (Ih)
theorem Vx:aj [pi] [pi] (aZ (top 9)):=cF (by decide +kernel)
theorem Vy(B:Bt mg)(a:At K mg "is_whole" (top 9) [pi]):aw P w K mg base 1 "is_whole" 1 (kS):=
 aw.cz a Vx λ_ _ _ _ _ _ _ hr=>
  aX (bU (Gk (sv .int B.aB B.kR Z3 (ax 0 rfl rfl)) (Gj (Rh (sv .bool B.aB B.sR PyProof.Rows.boot_bool (ax 0 rfl rfl))))))
def Ii:aI:=bG (yN (aE kS 1 (af (aa 0) ai)) (l8 qd jk (eC (.int 0)) (aa 0) (aa 1)))
def lL:=bR 2 (Ii)
theorem Vz:aj [pi,"many"] [pi,"many"] (aZ (top 10)):=cF (by decide +kernel)
theorem VA(B:Bt mg)(wY:aw P w K mg base 1 "is_whole" 1 kS)(a:At K mg "is_number_of" (top 10) [pi,"many"]):aw P w K mg base 2 "is_number_of" 2 (lL):=
 aw.cz a Vz λ_ _ _ _ _ _ _ hr=>
  aX (bU (Gk (bb wY hr (ay 0 rfl rfl aq)) (Gj (RC aY (ax 0 rfl rfl) (ax 1 rfl rfl)))))
def Ij:aI:=az (dn (t5 (iy (eA (mQ .tuple (aa 0)))) (t5 (bf (e2 cD (bE 0) (eC (.int 2)))) (iy (eA (mQ .str (aS 0 (eC (.int 0)))))))) (bG (eC (.bl false))) d4)
 (bG (aE lL 2 (af (aS 0 (eC (.int 1))) (af (BS (aa 1) (aS 0 (eC (.int 0))) (eC (.int 0))) ai))))
def wZ:=bR 2 (Ij)
theorem VB:aj [pi,"many_by_name"] [pi,"many_by_name"] (aZ (top 11)):=cF (by decide +kernel)
theorem VC(B:Bt mg)(sU:aw P w K mg base 2 "is_number_of" 2 lL)(a:At K mg "is_named_number" (top 11) [pi,"many_by_name"]):aw P w K mg base 3 "is_named_number" 2 (wZ):=
 aw.cz a VB λ_ _ _ _ _ _ _ hr=>
  aR (gy (wC (yA (nS (kD (sv .tuple B.aB B.aU Qp (ax 0 rfl rfl)))) (yA (oY hr (dF B.aL (ql 0 rfl rfl)) aY) (Bo (nS (kD (sv .str B.aB B.wQ PyProof.Rows.boot_str (bV (ql 0 rfl rfl) aY)))))))) (aX (bU tW)) gO)
  (aX (bU (bb sU hr (au (bV (ql 0 rfl rfl) aY) (au (R6 hr (ax 1 rfl rfl) (bV (ql 0 rfl rfl) aY) aY) aq bQ) ja))))
def Ik:aI:=bG (aE wZ 2 (af (aa 1) (af (vX "begin" "way" (qu 0 2) (qu 0 1)) ai)))
def qJ:=bR 2 (Ik)
theorem VD:aj [ce,pi] [ce,pi] (aZ (top 27)):=cF (by decide +kernel)
theorem VE(B:Bt mg)(VF:aw P w K mg base 3 "is_named_number" 2 wZ)(a:At K mg "is_step" (top 27) [ce,pi]):aw P w K mg base 4 "is_step" 2 (qJ):=
 aw.cz a VD λ_ _ _ _ _ _ _ hr=>
  aX (bU (bb VF hr (ay 1 rfl rfl (au (R3 (by decide) (Gz B.aL (ql 0 rfl rfl)) (Gz B.aL (ql 0 rfl rfl))) aq Sa))))
def Il:aI:=dn (iy (eA (eB ub (af (eO 1 (cL (aa 1)) (aH 2) dC (aE qJ 2 (af (aa 0) (af (aa 2) ai))) false) ai)))) vW (d4)
def uC:=bR 2 (Il)
theorem VG:aj [ce,"steps"] [ce,"steps"] (aZ (top 28)):=cF (by decide +kernel)
abbrev Im:List Str:=[ce,"steps","step"]
theorem VH:(Im).Nodup:=by decide +kernel
theorem VI(B:Bt mg)(VJ:aw P w K mg base 4 "is_step" 2 qJ)(a:At K mg "refuse_no_step" (top 28) [ce,"steps"]):aw P w K mg base 5 "refuse_no_step" 2 (uC):=
 aw.cz a VG λ_ _ _ _ _ _ _ hr=>
  aX (gy (nS (kD (Rq rfl B.wN (au (kG (k:=1) (N':=Im) false rfl (i8 (ax 1 rfl rfl)) (λ_ _ _ _=>b7 (i:=2) (show 2<=2 by decide) VH rfl (Or.inl rfl) (Or.inr rfl)) (λ_ _ _ _=>kF) (λ_ _ _ _=>bb VJ hr (au (cV (qv 0)) (au (cV (qv 2)) aq eZ) eZ))) aq sr)))) (aX BQ) gO)
def Io:aI:=az (dn (bf (e2 dE (aS 2 (eC (.int 0))) (eC (.str "begin")))) (bG (cK (aS 0 (eC (.int 2))) (aS 2 (eC (.int 1))))) d4)
 (az (aV 3 (cK (aS 0 (eC (.int 1))) (aS 2 (eC (.int 1)))))
 (bG (bS (af (aS 3 (eC (.int 1))) (af (cK (aS 3 (eC (.int 2))) (aS 1 (aS 3 (eC (.int 0))))) ai)))))
def w9:=bR 4 (Io)
theorem Ip:aj [ce,sK,"step","way"] [ce,sK,"step"] (aZ (top 29)):=cF (by decide +kernel)
theorem VL(B:Bt mg)(a:At K mg "place_and_worth" (top 29) [ce,sK,"step"]):aw P w K mg base 1 "place_and_worth" 3 (w9):=
 aw.cz a Ip λ_ _ _ _ _ _ _ hr=>
  aR (gy (qh hr (bV (ql 2 rfl rfl) aY) kC) (aX (bU (gw (bV (ql 0 rfl rfl) aY) (bV (ql 2 rfl rfl) aY)))) gO)
  (aR (br (i:=3) Ip.nd (gw (bV (ql 0 rfl rfl) aY) (bV (ql 2 rfl rfl) aY)))
  (aX (bU (d3 (au (bV (ql 3 rfl rfl) aY) (au (gw (bV (ql 3 rfl rfl) aY) (bV (ql 1 rfl rfl) (bV (ql 3 rfl rfl) aY))) aq ja) ja)))))
def Iq:aI:=az (aV 4 (aE w9 3 (af (aa 1) (af (aa 2) (af (aa 3) ai)))))
 (az (aV 5 (aS 4 (eC (.int 0))))
 (az (aV 6 (cK (aS 0 (aS 2 (aa 5))) (aS 4 (eC (.int 1)))))
 (bG (yQ (yQ (lz (aa 2) mU (l9 (aa 5))) (bS (af (aa 6) ai))) (lz (aa 2) (l9 (e2 cb (aa 5) (eC (.int 1)))) mU)))))
def w_:=bR 7 (Iq)
theorem zt:aj [bn,ce,sK,"step","coming",wn,"joined"] [bn,ce,sK,"step"] (aZ (top 30)):=cF (by decide +kernel)
theorem VM(B:Bt mg)(VN:aw P w K mg base 1 "place_and_worth" 3 w9)(a:At K mg "worths_behind" (top 30) [bn,ce,sK,"step"]):aw P w K mg base 2 "worths_behind" 4 (w_):=
 aw.cz a zt λ_ _ _ _ _ _ _ hr=>
  aR (br (i:=4) zt.nd (bb VN hr (ay 1 rfl rfl (ay 2 rfl rfl (ay 3 rfl rfl aq)))))
  (aR (br (i:=5) zt.nd (bV (ql 4 rfl rfl) aY))
  (aR (br (i:=6) zt.nd (gw (bV (ql 0 rfl rfl) (bV (ql 2 rfl rfl) (ax 5 rfl rfl))) (bV (ql 4 rfl rfl) aY)))
  (aX (bU (Gr (Gr (yW (ax 2 rfl rfl) yU (yV (ax 5 rfl rfl))) (d3 (ay 6 rfl rfl aq))) (yW (ax 2 rfl rfl) (yV (dv (ax 5 rfl rfl) aY)) yU))))))
abbrev C9:aI:=az (aV 7 (aE w_ 4 (af (aa 0) (af (aa 1) (af (aa 3) (af (aa 6) ai))))))
 (az (dn (bf (e2 cD (aa 7) (aa 3))) (dB (jn 4 (af (aa 6) ai))) d4)
 (aV 3 (aa 7)))
abbrev C_:aI:=az (aV 5 (aa 3))
 (fN (cL (aa 2)) (aH 6) C9)
def Ir:aI:=az (aV 4 (cZ ai))
 (az (aV 5 (eC .aF))
 (az (ud (bf (e2 cD (aa 3) (aa 5))) C_)
 (bG (bS (af (aa 3) (af (aa 4) ai))))))
def xa:=bR 8 (Ir)
theorem sV:aj [bn,ce,"order",sK,"raising","ahead","step","behind"] [bn,ce,"order",sK] (aZ (top 31)):=cF (by decide +kernel)
theorem VO(B:Bt mg)(VP:aw P w K mg base 2 "worths_behind" 4 w_)(a:At K mg "risen" (top 31) [bn,ce,"order",sK]):aw P w K mg base 3 "risen" 4 (xa):=
 aw.cz a sV λ_ _ _ _ _ _ _ hr=>
  aR (br (i:=4) sV.nd (el aq))
  (aR (br (i:=5) sV.nd rM)
  (aR (yX QG (oY hr (ax 3 rfl rfl) (ax 5 rfl rfl)) (aR (br (i:=5) sV.nd (ax 3 rfl rfl))
  (aX (iM QG rfl (i8 (ax 2 rfl rfl)) (b7 (i:=6) (show 0<=6 by decide) sV.nd rfl (Or.inl rfl)) (aR (br (i:=7) sV.nd (bb VP hr (ay 0 rfl rfl (ay 1 rfl rfl (ay 3 rfl rfl (ay 6 rfl rfl aq))))))
  (aR (gy (oY hr (ax 7 rfl rfl) (ax 3 rfl rfl)) (aX (hG (lZ (ql 4 rfl rfl) (ay 6 rfl rfl aq)))) gO)
  (aX (br (i:=3) sV.nd (ax 7 rfl rfl)))))))))
  (aX (bU (d3 (ay 3 rfl rfl (ay 4 rfl rfl aq)))))))
def Iu:aI:=bG (fF (af (l7 (cZ (af (aE n4 1 (af (aa 0) ai)) ai)) (aS 1 (eC (.int 0)))) ai))
def xf:=bR 2 (Iu)
theorem VQ:aj [bn,ce] [bn,ce] (aZ (top 24)):=cF (by decide +kernel)
theorem VR(B:Bt mg)(C8:aw P w K mg base 2 "least_of" 1 n4)(a:At K mg "lowest" (top 24) [bn,ce]):aw P w K mg base 3 "lowest" 2 (xf):=
 aw.cz a VQ λ_ _ _ _ _ _ _ hr=>
  aX (bU (iP B.aU Qp (au (yL (el (au (bb C8 hr (ay 0 rfl rfl aq)) aq bQ)) (bV (ql 1 rfl rfl) aY)) aq dX)))
def Iv:aI:=az (dB (aE uC 2 (af (aa 1) (af (aa 2) ai))))
 (az (aV 3 (aE xa 4 (af (aa 0) (af (aa 1) (af (aa 2) (af (aE xf 2 (af (aa 0) (af (aa 1) ai))) ai))))))
 (bG (bS (af (aS 3 (eC (.int 0))) (af (eB qk (af (aS 3 (eC (.int 1))) ai)) ai)))))
def xg:=bR 4 (Iv)
theorem Iw:aj [bn,ce,"order","ended"] [bn,ce,"order"] (aZ (top 32)):=cF (by decide +kernel)
theorem VS(B:Bt mg)(VT:aw P w K mg base 5 "refuse_no_step" 2 uC)(VU:aw P w K mg base 3 "risen" 4 xa)(VW:aw P w K mg base 3 "lowest" 2 xf)(a:At K mg "least_by" (top 32) [bn,ce,"order"]):aw P w K mg base 6 "least_by" 3 (xg):=
 aw.cz a Iw λ_ _ _ _ _ _ _ hr=>
  aR (hG (bb VT hr (ay 1 rfl rfl (ay 2 rfl rfl aq))))
  (aR (br (i:=3) Iw.nd (bb VU hr (ay 0 rfl rfl (ay 1 rfl rfl (ay 2 rfl rfl (au (bb VW hr (ay 0 rfl rfl (ay 1 rfl rfl aq))) aq bQ))))))
  (aX (bU (d3 (au (bV (ql 3 rfl rfl) aY) (au (Bw B.aL (au (bV (ql 3 rfl rfl) aY) aq ja)) aq bQ) ja)))))
def Iy:aI:=az (aV 1 (eO 1 (dW (af (eB qk (af (aS 0 (eC (.int 2))) ai)) ai)) (aH 2) dC (bS (af (eC (.str "begin")) (af (aa 2) ai))) false))
 (bG (o_ (aa 1) (eO 1 (dW (af (eB qk (af (aS 0 (eC (.int 1))) ai)) ai)) (aH 2) dC (bS (af (eC (.str "way")) (af (aa 2) ai))) false)))
def xh:=bR 2 (Iy)
theorem Iz:aj [ce,"begins"] [ce] (aZ (top 26)):=cF (by decide +kernel)
abbrev Dc:List Str:=[ce,"begins",ge]
theorem IA:(Dc).Nodup:=by decide +kernel
theorem VX(B:Bt mg)(a:At K mg "all_steps" (top 26) [ce]):aw P w K mg base 1 "all_steps" 1 (xh):=
 aw.cz a Iz λ_ _ _ _ _ _ _ hr=>
  aR (yI (i:=1) (k:=1) (N':=Dc) false Iz.nd rfl rfl (i7 B.aQ (au (Bw B.aL (au (bV (ql 0 rfl rfl) aY) aq ja)) aq bQ)) (λ_ _ _ _=>b7 (i:=2) (show 2<=2 by decide) IA rfl (Or.inl rfl) (Or.inr rfl)) (λ_ _ _ _=>kF) (λ_ _ _ _=>d3 (au kC (au (cV (qv 2)) aq eZ) kK)))
  (aX (bU (Gy (ax 1 rfl rfl) (kG (k:=1) (N':=Dc) false rfl (i7 B.aQ (au (Bw B.aL (au (bV (ql 0 rfl rfl) aY) aq ja)) aq bQ)) (λ_ _ _ _=>b7 (i:=2) (show 2<=2 by decide) IA rfl (Or.inl rfl) (Or.inr rfl)) (λ_ _ _ _=>kF) (λ_ _ _ _=>d3 (au kC (au (cV (qv 2)) aq eZ) kK))))))
def IB:aI:=bG (cK (aE xg 3 (af (aa 0) (af (aa 1) (af (aE xh 1 (af (aa 1) ai)) ai)))) (eC (.int 0)))
def ng:=bR 2 (IB)
theorem VY:aj [bn,ce] [bn,ce] (aZ (top 25)):=cF (by decide +kernel)
theorem VZ(B:Bt mg)(V0:aw P w K mg base 6 "least_by" 3 xg)(V1:aw P w K mg base 1 "all_steps" 1 xh)(a:At K mg "least" (top 25) [bn,ce]):aw P w K mg base 7 "least" 2 (ng):=
 aw.cz a VY λ_ _ _ _ _ _ _ hr=>
  aX (bU (gw (bb V0 hr (ay 0 rfl rfl (ay 1 rfl rfl (au (bb V1 hr (ay 1 rfl rfl aq)) aq bQ)))) aY))
def IC:aI:=az (aV 3 (eO 3 (cL (aS 0 (eC (.int 1)))) (eQ (bD (aH 4) (bD (aH 5) (bD (aH 6) fG)))) dC (bS (af (aa 4) (af (aa 5) (af (lV (eA (aE kS 1 (af (aa 6) ai))) (aS 1 (aa 6)) (aa 6)) ai)))) false))
 (bG (bS (af (aS 0 (eC (.int 0))) (af (fF (af (aa 3) ai)) (af (bS (af (bS (af (eC (.int 0)) (af (aa 2) ai))) ai)) ai)))))
def qK:=bR 4 (IC)
theorem ID:aj [sw,lw,pc,"ways"] [sw,lw,pc] (aZ (top 35)):=cF (by decide +kernel)
abbrev IE:List Str:=[sw,lw,pc,"ways","start","goal","led"]
theorem Dd:(IE).Nodup:=by decide +kernel
theorem V2(B:Bt mg)(wY:aw P w K mg base 1 "is_whole" 1 kS)(a:At K mg "called_chart" (top 35) [sw,lw,pc]):aw P w K mg base 2 "called_chart" 3 (qK):=
 aw.cz a ID λ_ _ _ _ _ _ _ hr=>
  aR (yI (i:=3) (k:=3) (N':=IE) false ID.nd rfl rfl (i8 (bV (ql 0 rfl rfl) aY)) (λ_ _ _ _=>mP (n:=3) rfl (e4 (b7 (i:=4) (show 4<=4 by decide) Dd rfl (Or.inl rfl) (Or.inr rfl)) (e4 (b7 (i:=5) (show 4<=5 by decide) Dd rfl (Or.inl rfl) (Or.inr rfl)) (e4 (b7 (i:=6) (show 4<=6 by decide) Dd rfl (Or.inl rfl) (Or.inr rfl)) mO))) sC) (λ_ _ _ _=>kF) (λ_ _ _ _=>d3 (au (cV (qv 4)) (au (cV (qv 5)) (au (yB (kD (bb wY hr (au (cV (qv 6)) aq eZ))) (bV (qv 1) (cV (qv 6))) (cV (qv 6))) aq yO) eZ) eZ)))
  (aX (bU (d3 (au (bV (ql 0 rfl rfl) aY) (au (iP B.aU Qp (ay 3 rfl rfl aq)) (au (d3 (au (d3 (ck (ay 2 rfl rfl aq))) aq j_)) aq j_) bQ) ja))))
def IF:aI:=bG (fF (af (eO 1 (dW (af (bE 0) ai)) (aH 3) dC (cK (aE ng 2 (af (aa 0) (af (aE qK 3 (af (aa 1) (af (aa 2) (af (aa 3) ai)))) ai))) (vT (eC (.int 1)))) false) ai))
def uD:=bR 3 (IF)
theorem V3:aj [bn,sw,lw] [bn,sw,lw] (aZ (top 36)):=cF (by decide +kernel)
abbrev IG:List Str:=[bn,sw,lw,pc]
theorem V4:(IG).Nodup:=by decide +kernel
theorem V5(B:Bt mg)(De:aw P w K mg base 7 "least" 2 ng)(Df:aw P w K mg base 2 "called_chart" 3 qK)(a:At K mg "house_rule" (top 36) [bn,sw,lw]):aw P w K mg base 8 "house_rule" 3 (uD):=
 aw.cz a V3 λ_ _ _ _ _ _ _ hr=>
  aX (bU (iP B.aU Qp (au (kG (k:=1) (N':=IG) false rfl (i7 B.aQ (au (dF B.aL (qv 0)) aq bQ)) (λ_ _ _ _=>b7 (i:=3) (show 3<=3 by decide) V4 rfl (Or.inl rfl) (Or.inr rfl)) (λ_ _ _ _=>kF) (λ_ _ _ _=>gw (bb De hr (au (cV (qv 0)) (au (bb Df hr (au (cV (qv 1)) (au (cV (qv 2)) (au (cV (qv 3)) aq eZ) eZ) eZ)) aq bQ) eZ)) (RD aY))) aq sr)))
def IH:aI:=bG (fF (af (eO 1 (cL (aa 1)) (aH 3) dC (aE uD 3 (af (aa 0) (af (aa 3) (af (aa 2) ai)))) false) ai))
def xi:=bR 3 (IH)
theorem V6:aj [bn,bv,lw] [bn,bv,lw] (aZ (top 37)):=cF (by decide +kernel)
abbrev II:List Str:=[bn,bv,lw,sw]
theorem V7:(II).Nodup:=by decide +kernel
theorem V8(B:Bt mg)(V9:aw P w K mg base 8 "house_rule" 3 uD)(a:At K mg "one_call_deeper" (top 37) [bn,bv,lw]):aw P w K mg base 9 "one_call_deeper" 3 (xi):=
 aw.cz a V6 λ_ _ _ _ _ _ _ hr=>
  aX (bU (iP B.aU Qp (au (kG (k:=1) (N':=II) false rfl (i8 (ax 1 rfl rfl)) (λ_ _ _ _=>b7 (i:=3) (show 3<=3 by decide) V7 rfl (Or.inl rfl) (Or.inr rfl)) (λ_ _ _ _=>kF) (λ_ _ _ _=>bb V9 hr (au (cV (qv 0)) (au (cV (qv 3)) (au (cV (qv 2)) aq eZ) eZ) eZ))) aq sr)))
abbrev sW:aI:=az (aV 4 (aa 3))
 (az (aV 3 (aE xi 3 (af (aa 0) (af (aa 1) (af (aa 4) ai)))))
 (aV 5 (e2 la (aa 5) (eC (.int 1)))))
def Dg:aI:=az (aV 3 (aE wX 2 (af (aa 0) (af (aa 1) ai))))
 (az (aV 4 (eC .aF))
 (az (aV 5 (aa 2))
 (az (ud (iL (bf (e2 kE (aa 5) (eC (.int 0)))) (bf (e2 cD (aa 3) (aa 4)))) sW)
 (bG (aa 3)))))
def nh:=bR 6 (Dg)
theorem sX:aj [bn,bv,"deep",lw,"ahead","left"] [bn,bv,"deep"] (aZ (top 40)):=cF (by decide +kernel)
theorem V_(B:Bt mg)(Wa:aw P w K mg base 3 "least_rules" 2 wX)(Wb:aw P w K mg base 9 "one_call_deeper" 3 xi)(a:At K mg "summaries_by" (top 40) [bn,bv,"deep"]):aw P w K mg base 10 "summaries_by" 3 (nh):=
 aw.cz a sX λ_ _ _ _ _ _ _ hr=>
  aR (br (i:=3) sX.nd (bb Wa hr (ay 0 rfl rfl (ay 1 rfl rfl aq))))
  (aR (br (i:=4) sX.nd rM)
  (aR (br (i:=5) sX.nd (ax 2 rfl rfl))
  (aR (yX QG (wC (Bp (FH (ax 5 rfl rfl) aY) (FI (oY hr (ax 3 rfl rfl) (ax 4 rfl rfl))))) (aR (br (i:=4) sX.nd (ax 3 rfl rfl))
  (aR (br (i:=3) sX.nd (bb Wb hr (ay 0 rfl rfl (ay 1 rfl rfl (ay 4 rfl rfl aq)))))
  (aX (br (i:=5) sX.nd (t4 (ax 5 rfl rfl) aY))))))
  (aX (bU (ax 3 rfl rfl))))))
def IJ:aI:=bG (aE nh 3 (af (aa 0) (af (aa 1) (af (e2 ix (e2 ix (bE 1) (bE 0)) (bE 0)) ai))))
def pD:=bR 2 (IJ)
theorem Wc:aj [bn,bv] [bn,bv] (aZ (top 39)):=cF (by decide +kernel)
theorem Wd(B:Bt mg)(Dh:aw P w K mg base 10 "summaries_by" 3 nh)(a:At K mg "summaries" (top 39) [bn,bv]):aw P w K mg base 11 "summaries" 2 (pD):=
 aw.cz a Wc λ_ _ _ _ _ _ _ hr=>
  aX (bU (bb Dh hr (ay 0 rfl rfl (ay 1 rfl rfl (au (mG (mG (dF B.aL (ql 1 rfl rfl)) (dF B.aL (ql 0 rfl rfl))) (dF B.aL (ql 0 rfl rfl))) aq dX)))))
abbrev Di:aI:=az (aV 8 (aS 7 (aS 2 (aa 5))))
 (yY 2 (o4 6) (cK (aS 0 (aS 2 (aa 6))) (aa 8)))
abbrev Dj:aI:=yY 2 (o4 3) (cK (aS 0 (aS 2 (aa 3))) (aa 4))
def IK:aI:=az (aV 2 (Ck 2))
 (az (fN (cL (aS 1 (eC (.int 2)))) (eQ (bD (aH 3) (bD (aH 4) fG))) Dj)
 (az (fN (cL (aS 1 (eC (.int 1)))) (eQ (bD (aH 5) (bD (aH 6) (bD (aH 7) fG)))) Di)
 (bG (fF (af (aa 2) ai)))))
def uE:=bR 9 (IK)
theorem qL:aj [be,kw,ii,"_law_place",cr,on,sB,jp,"_law_comes"] [be,kw,ii] (aZ (top 60)):=cF (by decide +kernel)
theorem We(B:Bt mg)(a:At K mg "_law_raised" (top 60) [be,kw,ii]):aw P w K mg base 1 "_law_raised" 3 (uE):=
 aw.cz a qL λ_ _ _ _ _ _ _ hr=>
  aR (br (i:=2) qL.nd (Tg B.gF ZH (ql 2 rfl rfl)))
  (aR (iM QG rfl (i8 (bV (ql 1 rfl rfl) aY)) (mP (n:=2) rfl (e4 (b7 (i:=3) (show 0<=3 by decide) qL.nd rfl (Or.inl rfl)) (e4 (b7 (i:=4) (show 0<=4 by decide) qL.nd rfl (Or.inl rfl)) mO)) yP) (aX (Gx (ql 2 rfl rfl) (yM (ql 3 rfl rfl)) (gw (bV (ql 0 rfl rfl) (bV (ql 2 rfl rfl) (ax 3 rfl rfl))) (ax 4 rfl rfl)))))
  (aR (iM QG rfl (i8 (bV (ql 1 rfl rfl) aY)) (mP (n:=3) rfl (e4 (b7 (i:=5) (show 0<=5 by decide) qL.nd rfl (Or.inl rfl)) (e4 (b7 (i:=6) (show 0<=6 by decide) qL.nd rfl (Or.inl rfl)) (e4 (b7 (i:=7) (show 0<=7 by decide) qL.nd rfl (Or.inl rfl)) mO))) sC) (aR (br (i:=8) qL.nd (bV (ql 7 rfl rfl) (bV (ql 2 rfl rfl) (ax 5 rfl rfl))))
  (aX (Gx (ql 2 rfl rfl) (yM (ql 6 rfl rfl)) (gw (bV (ql 0 rfl rfl) (bV (ql 2 rfl rfl) (ax 6 rfl rfl))) (ax 8 rfl rfl))))))
  (aX (bU (iP B.aU Qp (ay 2 rfl rfl aq))))))
abbrev Dk:aI:=az (aV 2 (aa 3))
 (aV 3 (aE uE 3 (af (aa 0) (af (aa 1) (af (aa 2) ai)))))
def IL:aI:=az (aV 3 (aE uE 3 (af (aa 0) (af (aa 1) (af (aa 2) ai)))))
 (az (ud (bf (e2 cD (aa 3) (aa 2))) Dk)
 (bG (aa 2)))
def n6:=bR 4 (IL)
theorem zu:aj [be,kw,ii,"_law_more"] [be,kw,ii] (aZ (top 61)):=cF (by decide +kernel)
theorem Wf(B:Bt mg)(IM:aw P w K mg base 1 "_law_raised" 3 uE)(a:At K mg "_law_lowest" (top 61) [be,kw,ii]):aw P w K mg base 2 "_law_lowest" 3 (n6):=
 aw.cz a zu λ_ _ _ _ _ _ _ hr=>
  aR (br (i:=3) zu.nd (bb IM hr (ay 0 rfl rfl (ay 1 rfl rfl (ay 2 rfl rfl aq)))))
  (aR (yX QG (oY hr (ax 3 rfl rfl) (ax 2 rfl rfl)) (aR (br (i:=2) zu.nd (ax 3 rfl rfl))
  (aX (br (i:=3) zu.nd (bb IM hr (ay 0 rfl rfl (ay 1 rfl rfl (ay 2 rfl rfl aq))))))))
  (aX (bU (ax 2 rfl rfl))))
def Wg:aI:=az (aV 1 (cZ (af (qz [im] "NoHouse" (aa 0)) (af (qz [im] "NoMap" (aa 0)) (af (qz [im] "NoPlace" (aa 0)) (af (qz [im] "NoRule" (aa 0)) ai))))))
 (az (dB (qt 1 (cZ (af (qz [im] "NoStep" (aa 0)) (af (qz [im] "TooGreat" (aa 0)) ai)))))
 (az (dn (t5 (bf (e2 cD (Cd (aa 1) (af (eC (.bl true)) ai)) (eC (.int 1)))) (iy (eA (Cb (aa 0))))) (bG (eC (.str "wrong"))) d4)
 (bG (cK (cZ (af (eC (.str "no house")) (af (eC (.str "no map")) (af (eC (.str "no place")) (af (eC (.str "no rule")) (af (eC (.str "no step")) (af (eC (.str "too great")) ai))))))) (Ce (aa 1) (af (eC (.bl true)) ai))))))
def zw:=bR 2 (Wg)
theorem IP:aj [wf,"_law_kinds"] [wf] (aZ (top 65)):=cF (by decide +kernel)
theorem Wh(B:Bt mg)(T:Xt K mg)(a:At K mg "_law_word" (top 65) [wf]):aw P w K mg base 1 "_law_word" 1 (zw):=
 aw.cz a IP λ_ _ _ _ _ _ _ hr=>
  aR (br (i:=1) IP.nd (el (au (uf T.lJ B.aB (ax 0 rfl rfl)) (au (uf T.pA B.aB (ax 0 rfl rfl)) (au (uf T.lK B.aB (ax 0 rfl rfl)) (au (uf T.m_ B.aB (ax 0 rfl rfl)) aq bQ) bQ) bQ) bQ)))
  (aR (hG (Gv (ql 1 rfl rfl) (el (au (uf T.nc B.aB (ax 0 rfl rfl)) (au (uf T.kg B.aB (ax 0 rfl rfl)) aq bQ) bQ))))
  (aR (gy (wC (yA (oY hr (SW hr (ax 1 rfl rfl) (au tW aq kK)) aY) (Bo (nS (kD (SN B.aB B.iV (ax 0 rfl rfl))))))) (aX (bU kC)) gO)
  (aX (bU (gw (el (au kC (au kC (au kC (au kC (au kC (au kC aq kK) kK) kK) kK) kK) kK)) (SX hr (ax 1 rfl rfl) (au tW aq kK)))))))
def IQ:aI:=dn (iy (eA (aE lL 2 (af (aa 1) (af (bE 0) ai))))) vW (d4)
def sY:=bR 2 (IQ)
theorem IS:aj [bv,ge] [bv,ge] (aZ (top 34)):=cF (by decide +kernel)
theorem Wi(B:Bt mg)(sU:aw P w K mg base 2 "is_number_of" 2 lL)(a:At K mg "refuse_no_house" (top 34) [bv,ge]):aw P w K mg base 3 "refuse_no_house" 2 (sY):=
 aw.cz a IS λ_ _ _ _ _ _ _ hr=>
  aX (gy (nS (kD (bb sU hr (ay 1 rfl rfl (au (dF B.aL (ql 0 rfl rfl)) aq bQ))))) (aX BQ) gO)
def Wj:gA:=sG (iy (eA (aE lL 2 (af (aa 1) (af (bE 0) ai))))) (GO "NoHouse") (GN)
def xj:List D->Option Str:=fnX 2 Wj
theorem Wk(B:Bt mg)(T:Xt K mg)(sU:aw P w K mg base 2 "is_number_of" 2 lL)(a:At K mg "refuse_no_house" (top 34) [bv,ge]):lA P w K mg base 3 "refuse_no_house" 2 xj:=
 lA.cz (k:=2) a IS λ_ _ _ _ _ _ _ hr=>
  Cf (S3 (nS (kD (bb sU hr (ay 1 rfl rfl (au (dF B.aL (ql 0 rfl rfl)) aq bQ))))) (Cf (S5 hr T.lI)) S2)
def IU:aI:=az (dB (aE sY 2 (af (aa 1) (af (aa 2) ai))))
 (bG (aE ng 2 (af (aa 0) (af (aE qK 3 (af (aS 1 (aa 2)) (af (aE pD 2 (af (aa 0) (af (aa 1) ai))) (af (aa 3) ai)))) ai))))
def uF:=bR 4 (IU)
theorem IV:aj [bn,bv,ge,pc] [bn,bv,ge,pc] (aZ (top 41)):=cF (by decide +kernel)
theorem Wl(B:Bt mg)(Dl:aw P w K mg base 3 "refuse_no_house" 2 sY)(De:aw P w K mg base 7 "least" 2 ng)(Df:aw P w K mg base 2 "called_chart" 3 qK)(Dm:aw P w K mg base 11 "summaries" 2 pD)(a:At K mg "answer_in" (top 41) [bn,bv,ge,pc]):aw P w K mg base 12 "answer_in" 4 (uF):=
 aw.cz a IV λ_ _ _ _ _ _ _ hr=>
  aR (hG (bb Dl hr (ay 1 rfl rfl (ay 2 rfl rfl aq))))
  (aX (bU (bb De hr (ay 0 rfl rfl (au (bb Df hr (au (bV (ql 1 rfl rfl) (ax 2 rfl rfl)) (au (bb Dm hr (ay 0 rfl rfl (ay 1 rfl rfl aq))) (ay 3 rfl rfl aq) bQ) ja)) aq bQ)))))
def Wm:gA:=B3 xj 2 (af (aa 1) (af (aa 2) ai))
def pE:List D->Option Str:=fnX 4 Wm
theorem Wo(B:Bt mg)(T:Xt K mg)(Wp:lA P w K mg base 3 "refuse_no_house" 2 xj)(a:At K mg "answer_in" (top 41) [bn,bv,ge,pc]):lA P w K mg base 12 "answer_in" 4 pE:=
 lA.cz (k:=11) a IV λ_ _ _ _ _ _ _ hr=>
  Cf (S4 (S6 Wp hr (by decide) (ay 1 rfl rfl (ay 2 rfl rfl aq))))
def Dp:aI:=az (aV 4 (eC .aF))
 (az (aV 5 (eC .aF))
 (az (wm [im] (aV 5 (aE uF 4 (af (aa 0) (af (aa 1) (af (aa 2) (af (aa 3) ai)))))) (wj pE 4 (af (aa 0) (af (aa 1) (af (aa 2) (af (aa 3) ai))))) 6 4)
 (az (dn (bf (e2 y8 (aa 4) (eC .aF))) (bG (aa 5)) d4)
 (bG (aE zw 1 (af (aa 4) ai))))))
def qM:=bR 7 (Dp)
theorem xk:aj [be,db,dL,cr,wf,"_law_answer_here","e"] [be,db,dL,cr] (aZ (top 67)):=cF (by decide +kernel)
theorem Wq(B:Bt mg)(T:Xt K mg)(Wr:aw P w K mg base 12 "answer_in" 4 uF)(Ws:aw P w K mg base 1 "_law_word" 1 zw)(Wt:lA P w K mg base 12 "answer_in" 4 pE)(a:At K mg "_law_answer" (top 67) [be,db,dL,cr]):aw P w K mg base 13 "_law_answer" 4 (qM):=
 aw.cz a xk λ_ _ _ _ _ _ _ hr=>
  aR (br (i:=4) xk.nd rM)
  (aR (br (i:=5) xk.nd rM)
  (aR (Te (ie:=6) (ik:=4) T.u (aX (br (i:=5) xk.nd (bb Wr hr (ay 0 rfl rfl (ay 1 rfl rfl (ay 2 rfl rfl (ay 3 rfl rfl aq))))))) (Ta (Tb Wt hr (by decide) (ay 0 rfl rfl (ay 1 rfl rfl (ay 2 rfl rfl (ay 3 rfl rfl aq)))))) xk.nd rfl rfl)
  (aR (gy (SQ (ax 4 rfl rfl) rM) (aX (bU (ax 5 rfl rfl))) gO)
  (aX (bU (bb Ws hr (ay 4 rfl rfl aq)))))))
abbrev Wu:aI:=dB (qt 1 (eO 1 (cL (aS 3 (eC (.int 1)))) (aH 4) (eA (aE kS 1 (af (aS 4 (eC (.int 2))) ai))) (bS (af (aa 2) (af (aS 4 (eC (.int 2))) (af (eC .aF) ai)))) false))
def IW:aI:=az (aV 1 (cZ ai))
 (az (fN (v5 (af (aa 0) ai)) (eQ (bD (aH 2) (bD (aH 3) fG))) Wu)
 (bG (bS (af (bE 0) (af (fF (af (aa 1) ai)) (af (bS ai) ai))))))
def xl:=bR 4 (IW)
theorem zx:aj [bv,"calls",ge,sw] [bv] (aZ (top 43)):=cF (by decide +kernel)
abbrev IX:List Str:=[bv,"calls",ge,sw,"way"]
theorem Wv:(IX).Nodup:=by decide +kernel
theorem Ww(B:Bt mg)(wY:aw P w K mg base 1 "is_whole" 1 kS)(a:At K mg "chart_of_calls" (top 43) [bv]):aw P w K mg base 2 "chart_of_calls" 1 (xl):=
 aw.cz a zx λ_ _ _ _ _ _ _ hr=>
  aR (br (i:=1) zx.nd (el aq))
  (aR (iM QG rfl (So B.js (ay 0 rfl rfl aq)) (mP (n:=2) rfl (e4 (b7 (i:=2) (show 0<=2 by decide) zx.nd rfl (Or.inr rfl)) (e4 (b7 (i:=3) (show 0<=3 by decide) zx.nd rfl (Or.inl rfl)) mO)) yP) (aX (hG (Gv (ql 1 rfl rfl) (kG (k:=1) (N':=IX) false rfl (i8 (bV (ql 3 rfl rfl) aY)) (λ_ _ _ _=>b7 (i:=4) (show 4<=4 by decide) Wv rfl (Or.inl rfl) (Or.inr rfl)) (λ_ _ _ _=>yH (kD (bb wY hr (au (bV (qv 4) aY) aq ja)))) (λ_ _ _ _=>d3 (au (cV (qv 2)) (au (bV (qv 4) aY) (au rM aq kK) ja) eZ)))))))
  (aX (bU (d3 (au (dF B.aL (ql 0 rfl rfl)) (au (iP B.aU Qp (ay 1 rfl rfl aq)) (au (d3 aq) aq j_) bQ) bQ)))))
def IY:aI:=bG (eO 3 (cL (aS 0 (eC (.int 1)))) (eQ (bD (aH 2) (bD (aH 3) (bD (aH 4) fG)))) (bf (e2 nV (aa 2) (aa 1))) (aa 3) false)
def ni:=bR 2 (IY)
theorem Wx:aj [ce,pp] [ce,pp] (aZ (top 21)):=cF (by decide +kernel)
abbrev IZ:List Str:=[ce,pp,"start","goal","rule"]
theorem Dq:(IZ).Nodup:=by decide +kernel
theorem Wy(B:Bt mg)(a:At K mg "goals_from" (top 21) [ce,pp]):aw P w K mg base 1 "goals_from" 2 (ni):=
 aw.cz a Wx λ_ _ _ _ _ _ _ hr=>
  aX (bU (kG (k:=3) (N':=IZ) false rfl (i8 (bV (ql 0 rfl rfl) aY)) (λ_ _ _ _=>mP (n:=3) rfl (e4 (b7 (i:=2) (show 2<=2 by decide) Dq rfl (Or.inl rfl) (Or.inr rfl)) (e4 (b7 (i:=3) (show 2<=3 by decide) Dq rfl (Or.inl rfl) (Or.inr rfl)) (e4 (b7 (i:=4) (show 2<=4 by decide) Dq rfl (Or.inl rfl) (Or.inr rfl)) mO))) sC) (λ_ _ _ _=>yH (F5 hr (cV (qv 2)) (cV (qv 1)))) (λ_ _ _ _=>cV (qv 3))))
abbrev Wz:aI:=az (aV 3 (aa 2))
 (aV 2 (qB (o_ (aa 3) (aE ni 2 (af (aa 0) (af (aa 3) ai))))))
def I0:aI:=az (aV 2 (aa 1))
 (az (aV 3 (eC .aF))
 (az (ud (bf (e2 cD (aa 2) (aa 3))) Wz)
 (bG (aa 2))))
def xm:=bR 4 (I0)
theorem xn:aj [ce,pp,"reached","ahead"] [ce,pp] (aZ (top 22)):=cF (by decide +kernel)
theorem WA(B:Bt mg)(Dr:aw P w K mg base 1 "goals_from" 2 ni)(a:At K mg "all_reached" (top 22) [ce,pp]):aw P w K mg base 2 "all_reached" 2 (xm):=
 aw.cz a xn λ_ _ _ _ _ _ _ hr=>
  aR (br (i:=2) xn.nd (ax 1 rfl rfl))
  (aR (br (i:=3) xn.nd rM)
  (aR (yX QG (oY hr (ax 2 rfl rfl) (ax 3 rfl rfl)) (aR (br (i:=3) xn.nd (ax 2 rfl rfl))
  (aX (br (i:=2) xn.nd (Hc rfl B.jt B.qG (Gy (ax 3 rfl rfl) (bb Dr hr (ay 0 rfl rfl (ay 3 rfl rfl aq)))))))))
  (aX (bU (ax 2 rfl rfl)))))
def I_:aI:=dn (iy (eA (aE lL 2 (af (aa 1) (af (aa 0) ai))))) vW (d4)
def xo:=bR 2 (I_)
theorem WB:aj [pp,wn] [pp,wn] (aZ (top 18)):=cF (by decide +kernel)
theorem WC(B:Bt mg)(sU:aw P w K mg base 2 "is_number_of" 2 lL)(a:At K mg "refuse_no_place" (top 18) [pp,wn]):aw P w K mg base 3 "refuse_no_place" 2 (xo):=
 aw.cz a WB λ_ _ _ _ _ _ _ hr=>
  aX (gy (nS (kD (bb sU hr (ay 1 rfl rfl (ay 0 rfl rfl aq))))) (aX BQ) gO)
def J_:aI:=az (dB (aE xo 2 (af (aS 0 (eC (.int 0))) (af (aa 1) ai))))
 (bG (qB (aE ni 2 (af (aa 0) (af (cZ (af (aa 1) ai)) ai)))))
def xp:=bR 2 (J_)
theorem WD:aj [ce,wn] [ce,wn] (aZ (top 20)):=cF (by decide +kernel)
theorem WE(B:Bt mg)(WG:aw P w K mg base 3 "refuse_no_place" 2 xo)(Dr:aw P w K mg base 1 "goals_from" 2 ni)(a:At K mg "goals_of" (top 20) [ce,wn]):aw P w K mg base 4 "goals_of" 2 (xp):=
 aw.cz a WD λ_ _ _ _ _ _ _ hr=>
  aR (hG (bb WG hr (au (bV (ql 0 rfl rfl) aY) (ay 1 rfl rfl aq) ja)))
  (aX (bU (Hc rfl B.jt B.qG (bb Dr hr (ay 0 rfl rfl (au (el (ay 1 rfl rfl aq)) aq ua))))))
def Ka:aI:=az (dB (aE sY 2 (af (aa 0) (af (aa 1) ai))))
 (az (aV 2 (aE xl 1 (af (aa 0) ai)))
 (bG (aE xm 2 (af (aa 2) (af (aE xp 2 (af (aa 2) (af (aa 1) ai))) ai)))))
def xq:=bR 3 (Ka)
theorem Kb:aj [bv,ge,ce] [bv,ge] (aZ (top 42)):=cF (by decide +kernel)
theorem WH(B:Bt mg)(Dl:aw P w K mg base 3 "refuse_no_house" 2 sY)(WI:aw P w K mg base 2 "chart_of_calls" 1 xl)(WJ:aw P w K mg base 2 "all_reached" 2 xm)(WK:aw P w K mg base 4 "goals_of" 2 xp)(a:At K mg "called_by" (top 42) [bv,ge]):aw P w K mg base 5 "called_by" 2 (xq):=
 aw.cz a Kb λ_ _ _ _ _ _ _ hr=>
  aR (hG (bb Dl hr (ay 0 rfl rfl (ay 1 rfl rfl aq))))
  (aR (br (i:=2) Kb.nd (bb WI hr (ay 0 rfl rfl aq)))
  (aX (bU (bb WJ hr (ay 2 rfl rfl (au (bb WK hr (ay 2 rfl rfl (ay 1 rfl rfl aq))) aq bQ))))))
def Kc:aI:=bG (e2 nV (aa 1) (aE xq 2 (af (aa 0) (af (aa 1) ai))))
def mh:=bR 2 (Kc)
theorem WM:aj [bv,ge] [bv,ge] (aZ (top 44)):=cF (by decide +kernel)
theorem WN(B:Bt mg)(WO:aw P w K mg base 5 "called_by" 2 xq)(a:At K mg "calls_itself" (top 44) [bv,ge]):aw P w K mg base 6 "calls_itself" 2 (mh):=
 aw.cz a WM λ_ _ _ _ _ _ _ hr=>
  aX (bU (PU hr (ax 1 rfl rfl) (bb WO hr (ay 0 rfl rfl (ay 1 rfl rfl aq)))))
abbrev Ds:aI:=dB (jn 3 (af (bS (af (aa 4) (af (aa 5) (af (lV (eA (mQ .int (aa 6))) (aS 1 (aa 6)) (aa 6)) ai)))) ai))
def Kd:aI:=az (aV 3 (cZ ai))
 (az (fN (cL (aS 0 (eC (.int 1)))) (eQ (bD (aH 4) (bD (aH 5) (bD (aH 6) fG)))) Ds)
 (bG (bS (af (aS 0 (eC (.int 0))) (af (fF (af (aa 3) ai)) (af (bS (af (bS (af (eC (.int 0)) (af (aa 2) ai))) ai)) ai))))))
def sZ:=bR 7 (Kd)
theorem xt:aj [pr,"_law_rules",cr,li,on,sB,jp] [pr,"_law_rules",cr] (aZ (top 63)):=cF (by decide +kernel)
theorem WQ(B:Bt mg)(a:At K mg "_law_house_chart" (top 63) [pr,"_law_rules",cr]):aw P w K mg base 1 "_law_house_chart" 3 (sZ):=
 aw.cz a xt λ_ _ _ _ _ _ _ hr=>
  aR (br (i:=3) xt.nd (el aq))
  (aR (iM QG rfl (i8 (bV (ql 0 rfl rfl) aY)) (mP (n:=3) rfl (e4 (b7 (i:=4) (show 0<=4 by decide) xt.nd rfl (Or.inl rfl)) (e4 (b7 (i:=5) (show 0<=5 by decide) xt.nd rfl (Or.inl rfl)) (e4 (b7 (i:=6) (show 0<=6 by decide) xt.nd rfl (Or.inl rfl)) mO))) sC) (aX (hG (lZ (ql 3 rfl rfl) (au (d3 (ay 4 rfl rfl (ay 5 rfl rfl (au (yB (kD (sv .int B.aB B.kR Z3 (ax 6 rfl rfl))) (bV (ql 1 rfl rfl) (ax 6 rfl rfl)) (ax 6 rfl rfl)) aq yO)))) aq j_)))))
  (aX (bU (d3 (au (bV (ql 0 rfl rfl) aY) (au (iP B.aU Qp (ay 3 rfl rfl aq)) (au (d3 (au (d3 (ck (ay 2 rfl rfl aq))) aq j_)) aq j_) bQ) ja)))))
def Ke:aI:=bG (cK (eO 1 (dW (af (bE 0) ai)) (aH 1) (bf (e2 dE (vK (af (aS 0 (aa 1)) ai)) (qo (af (bE 0) ai)))) (aa 1) false) (eC (.int 0)))
def ki:=bR 1 (Ke)
theorem WR:aj [be] [be] (aZ (top 53)):=cF (by decide +kernel)
abbrev Kf:List Str:=[be,cr]
theorem WS:(Kf).Nodup:=by decide +kernel
theorem WT(B:Bt mg)(a:At K mg "_law_low" (top 53) [be]):aw P w K mg base 1 "_law_low" 1 (ki):=
 aw.cz a WR λ_ _ _ _ _ _ _ hr=>
  aX (bU (gw (kG (k:=1) (N':=Kf) false rfl (i7 B.aQ (au (dF B.aL (qv 0)) aq bQ)) (λ_ _ _ _=>b7 (i:=1) (show 1<=1 by decide) WS rfl (Or.inl rfl) (Or.inr rfl)) (λ_ _ _ _=>yH (qh hr (PV B.gF ZH (au (bV (qv 0) (cV (qv 1))) aq ja)) (BA rfl B.gF ZH B.aQ (au (dF B.aL (qv 0)) aq bQ)))) (λ_ _ _ _=>cV (qv 1))) aY))
abbrev WU:aI:=aV 2 (cK (aS 0 (aa 2)) (aa 3))
def Kg:aI:=az (aV 2 (aE ki 1 (af (aa 0) ai)))
 (az (fN (cL (aa 1)) (aH 3) WU)
 (bG (aa 2)))
def uG:=bR 4 (Kg)
theorem zy:aj [be,ii,"_law_here",cr] [be,ii] (aZ (top 54)):=cF (by decide +kernel)
theorem WV(B:Bt mg)(uH:aw P w K mg base 1 "_law_low" 1 ki)(a:At K mg "_law_join" (top 54) [be,ii]):aw P w K mg base 2 "_law_join" 2 (uG):=
 aw.cz a zy λ_ _ _ _ _ _ _ hr=>
  aR (br (i:=2) zy.nd (bb uH hr (ay 0 rfl rfl aq)))
  (aR (iM QG rfl (i8 (ax 1 rfl rfl)) (b7 (i:=3) (show 0<=3 by decide) zy.nd rfl (Or.inl rfl)) (aX (br (i:=2) zy.nd (gw (bV (ql 0 rfl rfl) (ax 2 rfl rfl)) (ax 3 rfl rfl)))))
  (aX (bU (ax 2 rfl rfl))))
def Kh:aI:=bG (eO 1 (dW (af (bE 0) ai)) (aH 2) (bf (e2 dE (cK (aS 0 (aa 2)) (aa 1)) (aa 1))) (aa 2) false)
def s_:=bR 2 (Kh)
theorem WW:aj [be,cr] [be,cr] (aZ (top 55)):=cF (by decide +kernel)
abbrev Ki:List Str:=[be,cr,lc]
theorem WX:(Ki).Nodup:=by decide +kernel
theorem WY(B:Bt mg)(a:At K mg "_law_under" (top 55) [be,cr]):aw P w K mg base 1 "_law_under" 2 (s_):=
 aw.cz a WW λ_ _ _ _ _ _ _ hr=>
  aX (bU (kG (k:=1) (N':=Ki) false rfl (i7 B.aQ (au (dF B.aL (qv 0)) aq bQ)) (λ_ _ _ _=>b7 (i:=2) (show 2<=2 by decide) WX rfl (Or.inl rfl) (Or.inr rfl)) (λ_ _ _ _=>yH (qh hr (gw (bV (qv 0) (cV (qv 2))) (cV (qv 1))) (cV (qv 1)))) (λ_ _ _ _=>cV (qv 2))))
abbrev Kj:aI:=dB (jn 6 (af (aE uG 2 (af (aa 2) (af (eO 1 (cL (aE s_ 2 (af (aa 2) (af (aa 5) ai)))) (aH 7) dC (aS 4 (aa 7)) false) ai))) ai))
abbrev Kk:aI:=dB (jn 4 (af (cK (cZ (af (aa 3) (af (aa 5) (af (aE dG 3 (af (aa 0) (af (e2 cb (aa 1) (aa 5)) (af (bE 2) ai)))) ai)))) (aE dG 3 (af (aa 0) (af (e2 cb (e2 cb (aa 1) (eC (.int 8))) (aa 5)) (af (eC (.int 3)) ai))))) ai))
def Kl:aI:=az (aV 3 (aE ki 1 (af (aa 2) ai)))
 (az (aV 4 (cZ ai))
 (az (fN (dW (af (bE 2) ai)) (aH 5) Kk)
 (az (aV 6 (cZ ai))
 (az (fN (dW (af (bE 2) ai)) (aH 5) Kj)
 (bG (fF (af (aa 6) ai)))))))
def uI:=bR 7 (Kl)
theorem uJ:aj [bi,fv,be,"_law_low_here","_law_drawn",cr,lv] [bi,fv,be] (aZ (top 56)):=cF (by decide +kernel)
abbrev Km:List Str:=[bi,fv,be,"_law_low_here","_law_drawn",cr,lv,lc]
theorem WZ:(Km).Nodup:=by decide +kernel
theorem W0(B:Bt mg)(uH:aw P w K mg base 1 "_law_low" 1 ki)(hZ:aw P w K mg base 2 "_law_pick" 3 dG)(W1:aw P w K mg base 2 "_law_join" 2 uG)(W2:aw P w K mg base 1 "_law_under" 2 s_)(a:At K mg "_law_rule" (top 56) [bi,fv,be]):aw P w K mg base 3 "_law_rule" 3 (uI):=
 aw.cz a uJ λ_ _ _ _ _ _ _ hr=>
  aR (br (i:=3) uJ.nd (bb uH hr (ay 2 rfl rfl aq)))
  (aR (br (i:=4) uJ.nd (el aq))
  (aR (iM QG rfl (i7 B.aQ (au (dF B.aL (ql 2 rfl rfl)) aq bQ)) (b7 (i:=5) (show 0<=5 by decide) uJ.nd rfl (Or.inl rfl)) (aX (hG (lZ (qv 4) (au (gw (el (ay 3 rfl rfl (ay 5 rfl rfl (au (bb hZ hr (ay 0 rfl rfl (au (dv (ax 1 rfl rfl) (ax 5 rfl rfl)) (au (dF B.aL (ql 2 rfl rfl)) aq bQ) dX))) aq bQ)))) (bb hZ hr (ay 0 rfl rfl (au (dv (dv (ax 1 rfl rfl) aY) (ax 5 rfl rfl)) (ck aq) dX)))) aq ja)))))
  (aR (br (i:=6) uJ.nd (el aq))
  (aR (iM QG rfl (i7 B.aQ (au (dF B.aL (ql 2 rfl rfl)) aq bQ)) (b7 (i:=5) (show 0<=5 by decide) uJ.nd rfl (Or.inl rfl)) (aX (hG (lZ (ql 6 rfl rfl) (au (bb W1 hr (ay 2 rfl rfl (au (kG (k:=1) (N':=Km) false rfl (i8 (bb W2 hr (ay 2 rfl rfl (ay 5 rfl rfl aq)))) (λ_ _ _ _=>b7 (i:=7) (show 7<=7 by decide) WZ rfl (Or.inl rfl) (Or.inr rfl)) (λ_ _ _ _=>kF) (λ_ _ _ _=>bV (qv 4) (cV (qv 7)))) aq sr))) aq bQ)))))
  (aX (bU (iP B.aU Qp (ay 6 rfl rfl aq))))))))
abbrev zz:aI:=az (aV 9 (e2 cb (e2 cb (e2 cb (aa 1) (eC (.int 10))) (e2 ix (eC (.int 120)) (aa 5))) (e2 ix (eC (.int 23)) (aa 8))))
 (az (aV 10 (aE uI 3 (af (aa 0) (af (e2 cb (aa 9) (eC (.int 4))) (af (aa 2) ai)))))
 (az (dn (bf (e2 dE (aE dG 3 (af (aa 0) (af (e2 cb (aa 9) (eC (.int 2))) (af (eC (.int 3)) ai)))) (eC (.int 0)))) (aV 10 (aE dG 3 (af (aa 0) (af (e2 cb (aa 9) (eC (.int 3))) (af (aa 3) ai))))) d4)
 (dB (jn 7 (af (bS (af (aE dG 3 (af (aa 0) (af (aa 9) (af (aa 6) ai)))) (af (aE dG 3 (af (aa 0) (af (e2 cb (aa 9) (eC (.int 1))) (af (aa 6) ai)))) (af (aa 10) ai)))) ai)))))
abbrev Dt:aI:=az (aV 6 (e2 cb (eC (.int 1)) (aE dG 3 (af (aa 0) (af (e2 cb (e2 cb (aa 1) (eC (.int 1))) (aa 5)) (af (eC (.int 4)) ai))))))
 (az (aV 7 (cZ ai))
 (az (fN (dW (af (aE dG 3 (af (aa 0) (af (e2 cb (e2 cb (aa 1) (eC (.int 4))) (aa 5)) (af (eC (.int 6)) ai)))) ai)) (aH 8) zz)
 (dB (jn 4 (af (bS (af (aa 6) (af (fF (af (aa 7) ai)) ai))) ai)))))
def Kn:aI:=az (aV 3 (e2 cb (eC (.int 1)) (aE dG 3 (af (aa 0) (af (aa 1) (af (eC (.int 3)) ai))))))
 (az (aV 4 (cZ ai))
 (az (fN (dW (af (aa 3) ai)) (aH 5) Dt)
 (bG (fF (af (aa 4) ai)))))
def n8:=bR 11 (Kn)
theorem n9:aj [bi,fv,be,"_law_houses",lv,"_law_j",re,li,ul,rc,jp] [bi,fv,be] (aZ (top 59)):=cF (by decide +kernel)
theorem W3(B:Bt mg)(hZ:aw P w K mg base 2 "_law_pick" 3 dG)(W4:aw P w K mg base 3 "_law_rule" 3 uI)(a:At K mg "_law_program" (top 59) [bi,fv,be]):aw P w K mg base 4 "_law_program" 3 (n8):=
 aw.cz a n9 λ_ _ _ _ _ _ _ hr=>
  aR (br (i:=3) n9.nd (dv aY (bb hZ hr (ay 0 rfl rfl (ay 1 rfl rfl (ck aq))))))
  (aR (br (i:=4) n9.nd (el aq))
  (aR (iM QG rfl (i7 B.aQ (ay 3 rfl rfl aq)) (b7 (i:=5) (show 0<=5 by decide) n9.nd rfl (Or.inl rfl)) (aR (br (i:=6) n9.nd (dv aY (bb hZ hr (ay 0 rfl rfl (au (dv (dv (ax 1 rfl rfl) aY) (ax 5 rfl rfl)) (ck aq) dX)))))
  (aR (br (i:=7) n9.nd (el aq))
  (aR (iM QG rfl (i7 B.aQ (au (bb hZ hr (ay 0 rfl rfl (au (dv (dv (ax 1 rfl rfl) aY) (ax 5 rfl rfl)) (ck aq) dX))) aq bQ)) (b7 (i:=8) (show 0<=8 by decide) n9.nd rfl (Or.inl rfl)) (aR (br (i:=9) n9.nd (dv (dv (dv (ax 1 rfl rfl) aY) (mG aY (ax 5 rfl rfl))) (mG aY (ax 8 rfl rfl))))
  (aR (br (i:=10) n9.nd (bb W4 hr (ay 0 rfl rfl (au (dv (ax 9 rfl rfl) aY) (ay 2 rfl rfl aq) dX))))
  (aR (gy (qh hr (bb hZ hr (ay 0 rfl rfl (au (dv (ax 9 rfl rfl) aY) (ck aq) dX))) aY) (aX (br (i:=10) n9.nd (bb hZ hr (ay 0 rfl rfl (au (dv (ax 9 rfl rfl) aY) (ay 3 rfl rfl aq) dX))))) gO)
  (aX (hG (lZ (ql 7 rfl rfl) (au (d3 (au (bb hZ hr (ay 0 rfl rfl (ay 9 rfl rfl (ay 6 rfl rfl aq)))) (au (bb hZ hr (ay 0 rfl rfl (au (dv (ax 9 rfl rfl) aY) (ay 6 rfl rfl aq) dX))) (ay 10 rfl rfl aq) bQ) bQ)) aq j_))))))))
  (aX (hG (lZ (ql 4 rfl rfl) (au (d3 (ay 6 rfl rfl (au (iP B.aU Qp (ay 7 rfl rfl aq)) aq bQ))) aq j_))))))))
  (aX (bU (iP B.aU Qp (ay 4 rfl rfl aq))))))
abbrev Ko:aI:=az (dn (eA (mQ .int (aa 9))) (aV 9 (e2 lb (aa 9) (bE 2))) d4)
 (dB (jn 6 (af (bS (af (e2 lb (aa 7) (aa 4)) (af (e2 lb (aa 8) (aa 4)) (af (aa 9) ai)))) ai)))
abbrev Du:aI:=az (aV 6 (cZ ai))
 (az (fN (cL (aa 5)) (eQ (bD (aH 7) (bD (aH 8) (bD (aH 9) fG)))) Ko)
 (dB (jn 3 (af (bS (af (aa 4) (af (fF (af (aa 6) ai)) ai))) ai))))
def Kp:aI:=az (aV 1 (aE uA 2 (af (aa 0) (af (eC (.int 0)) ai))))
 (az (dn (bf (e2 vH (bE 1) (eC (.int 5)))) (bG (eC (.bl true))) d4)
 (az (aV 2 (fF (af (eO 1 (cL (lz (aE n8 3 (af (aa 0) (af (eC (.int 20)) (af (aa 1) ai)))) mU (l9 (eC (.int 2))))) (aH 20) dC (bS (af (eB uj (af (aS 20 (eC (.int 0))) (af (eC (.int 3)) ai))) (af (lz (aS 20 (eC (.int 1))) mU (l9 (eC (.int 3)))) ai))) false) ai)))
 (az (aV 3 (cZ ai))
 (az (fN (cL (aa 2)) (eQ (bD (aH 4) (bD (aH 5) fG))) Du)
 (az (aV 2 (fF (af (aa 3) ai)))
 (az (aV 10 (aE dG 3 (af (aa 0) (af (eC (.int 500)) (af (eC (.int 3)) ai)))))
 (az (aV 11 (aE dG 3 (af (aa 0) (af (eC (.int 501)) (af (bE 1) ai)))))
 (az (aV 5 (cZ ai))
 (az (aV 12 (uo uB 5 5 (af (aa 2) (af (eC (.int 0)) (af (aa 10) (af (eC (.int 0)) ai))))))
 (az (aV 13 (fF (af (qo (af (bE 1) ai)) ai)))
 (az (aV 14 (bS (af (aa 12) (af (fF (af (eO 3 (cL (aa 5)) (eQ (bD (aH 20) (bD (aH 21) (bD (aH 22) fG)))) dC (bS (af (aa 20) (af (aa 21) (af (lV (bf (e2 dE (aa 22) (eC (.str "in")))) (aa 13) (aa 22)) ai)))) false) ai)) (af (bS (af (bS (af (eC (.int 0)) (af (aa 11) ai))) ai)) ai)))))
 (az (aV 15 (cK (aE n6 3 (af (aa 1) (af (aa 14) (af (nW (bS (af (aE ki 1 (af (aa 1) ai)) ai)) (aa 12)) ai)))) (e2 la (cK (aS 2 (eC (.int 0))) (eC (.int 0))) (eC (.int 1)))))
 (az (dn (bf (e2 cD (cK (cK (aE nh 3 (af (aa 1) (af (aa 2) (af (aa 10) ai)))) (eC (.int 0))) (aa 11)) (aa 15))) (bG (eC (.bl false))) d4)
 (az (aV 16 (aE pD 2 (af (aa 1) (af (aa 2) ai))))
 (az (dn (iL (bf (e2 kE (aa 10) (bE 2))) (iL (iy (eA (aE mh 2 (af (aa 2) (af (eC (.int 0)) ai))))) (iy (eA (aE mh 2 (af (aa 2) (af (e2 la (bE 2) (eC (.int 1))) ai))))))) (dn (bf (e2 cD (cK (aS 16 (eC (.int 0))) (aa 11)) (aa 15))) (bG (eC (.bl false))) d4) d4)
 (az (aV 17 (e2 la (aE dG 3 (af (aa 0) (af (eC (.int 502)) (af (e2 cb (bE 2) (eC (.int 2))) ai)))) (eC (.int 1))))
 (az (aV 18 (eC (.str "no house")))
 (az (dn (bf (l8 qd jk (eC (.int 0)) (aa 17) (bE 2))) (az (aV 19 (aS 2 (aa 17)))
 (aV 18 (aE n6 3 (af (aa 1) (af (aE sZ 3 (af (aa 19) (af (aa 16) (af (aa 11) ai)))) (af (nW (bS (af (aE ki 1 (af (aa 1) ai)) ai)) (aS 19 (eC (.int 0)))) ai)))))) d4)
 (bG (e2 dE (aE qM 4 (af (aa 1) (af (aa 2) (af (aa 17) (af (aa 11) ai))))) (aa 18)))))))))))))))))))))
def uK:=bR 20 (Kp)
theorem gp:aj [bi,be,db,"_law_fit",re,li,ut,on,sB,jp,ms,cr,dl,"_law_plain",kw,"_law_last","_law_whole",dL,"_law_due",pr] [bi] (aZ (top 68)):=cF (by decide +kernel)
abbrev Kq:List Str:=[bi,be,db,"_law_fit",re,li,ut,on,sB,jp,ms,cr,dl,"_law_plain",kw,"_law_last","_law_whole",dL,"_law_due","#19",pr]
theorem W5:(Kq).Nodup:=by decide +kernel
abbrev Kr:List Str:=[bi,be,db,"_law_fit",re,li,ut,"#7","#8","#9",ms,cr,dl,"_law_plain",kw,"_law_last","_law_whole",dL,"_law_due",pr,on,sB,jp]
theorem Dv:(Kr).Nodup:=by decide +kernel
theorem W6(B:Bt mg)(W7:aw P w K mg base 4 "_law_ladder" 2 uA)(W8:aw P w K mg base 4 "_law_program" 3 n8)(hZ:aw P w K mg base 2 "_law_pick" 3 dG)(W9:kM P w K mg base 3 "_law_copied" 5 uB)(Ks:aw P w K mg base 2 "_law_lowest" 3 n6)(uH:aw P w K mg base 1 "_law_low" 1 ki)(Dh:aw P w K mg base 10 "summaries_by" 3 nh)(Dm:aw P w K mg base 11 "summaries" 2 pD)(Kt:aw P w K mg base 6 "calls_itself" 2 mh)(W_:aw P w K mg base 1 "_law_house_chart" 3 sZ)(c0:aw P w K mg base 13 "_law_answer" 4 qM){f:Addr}{fd:FuncData}(F:mE K "law" "law" (top 68) f fd):dS P w K mg base fX 14 f fd [bi] (lg K 1 uK):=
 Uz (k:=13) F gp λ_ _ _ _ _ _ _ hr=>
  aR (br (i:=1) gp.nd (bb W7 hr (ay 0 rfl rfl (ck aq))))
  (aR (gy (FG (dF B.aL (ql 1 rfl rfl)) aY) (aX (bU tW)) gO)
  (aR (br (i:=2) gp.nd (iP B.aU Qp (au (kG (k:=1) (N':=Kq) false rfl (i8 (yW (bb W8 hr (ay 0 rfl rfl (ck (ay 1 rfl rfl aq)))) yU (yV aY))) (λ_ _ _ _=>b7 (i:=20) (show 20<=20 by decide) W5 rfl (Or.inl rfl) (Or.inr rfl)) (λ_ _ _ _=>kF) (λ_ _ _ _=>d3 (au (Uk rfl B.wO (au (bV (qv 20) aY) (ck aq) ja)) (au (yW (bV (qv 20) aY) yU (yV aY)) aq ja) bQ))) aq sr)))
  (aR (br (i:=3) gp.nd (el aq))
  (aR (iM QG rfl (i8 (ax 2 rfl rfl)) (mP (n:=2) rfl (e4 (b7 (i:=4) (show 0<=4 by decide) gp.nd rfl (Or.inl rfl)) (e4 (b7 (i:=5) (show 0<=5 by decide) gp.nd rfl (Or.inl rfl)) mO)) yP) (aR (br (i:=6) gp.nd (el aq))
  (aR (iM QG rfl (i8 (ax 5 rfl rfl)) (mP (n:=3) rfl (e4 (b7 (i:=7) (show 0<=7 by decide) gp.nd rfl (Or.inl rfl)) (e4 (b7 (i:=8) (show 0<=8 by decide) gp.nd rfl (Or.inl rfl)) (e4 (b7 (i:=9) (show 0<=9 by decide) gp.nd rfl (Or.inl rfl)) mO))) sC) (aR (gy (kD (sv .int B.aB B.kR Z3 (ax 9 rfl rfl))) (aX (br (i:=9) gp.nd (oQ (ax 9 rfl rfl) (dF B.aL (ql 2 rfl rfl))))) gO)
  (aX (hG (lZ (ql 6 rfl rfl) (au (d3 (au (oQ (ax 7 rfl rfl) (ax 4 rfl rfl)) (au (oQ (ax 8 rfl rfl) (ax 4 rfl rfl)) (ay 9 rfl rfl aq) dX) dX)) aq j_))))))
  (aX (hG (lZ (ql 3 rfl rfl) (au (d3 (ay 4 rfl rfl (au (iP B.aU Qp (ay 6 rfl rfl aq)) aq bQ))) aq j_)))))))
  (aR (br (i:=2) gp.nd (iP B.aU Qp (ay 3 rfl rfl aq)))
  (aR (br (i:=10) gp.nd (bb hZ hr (ay 0 rfl rfl (ck (ck aq)))))
  (aR (br (i:=11) gp.nd (bb hZ hr (ay 0 rfl rfl (ck (au (dF B.aL (ql 1 rfl rfl)) aq bQ)))))
  (aR (br (i:=5) gp.nd (el aq))
  (aR (br (i:=12) gp.nd (Hk W9 hr (by decide) (ax 2 rfl rfl) aY (ax 10 rfl rfl) aY (ql 5 rfl rfl)))
  (aR (br (i:=13) gp.nd (iP B.aU Qp (au (BA rfl B.gF ZH B.aQ (au (dF B.aL (ql 1 rfl rfl)) aq bQ)) aq bQ)))
  (aR (br (i:=14) gp.nd (d3 (ay 12 rfl rfl (au (iP B.aU Qp (au (kG (k:=3) (N':=Kr) false rfl (i8 (ax 5 rfl rfl)) (λ_ _ _ _=>mP (n:=3) rfl (e4 (b7 (i:=20) (show 20<=20 by decide) Dv rfl (Or.inl rfl) (Or.inr rfl)) (e4 (b7 (i:=21) (show 20<=21 by decide) Dv rfl (Or.inl rfl) (Or.inr rfl)) (e4 (b7 (i:=22) (show 20<=22 by decide) Dv rfl (Or.inl rfl) (Or.inr rfl)) mO))) sC) (λ_ _ _ _=>kF) (λ_ _ _ _=>d3 (au (cV (qv 20)) (au (cV (qv 21)) (au (yB (qh hr (cV (qv 22)) kC) (cV (qv 13)) (cV (qv 22))) aq yO) eZ) eZ))) aq sr)) (au (d3 (au (d3 (ck (ay 11 rfl rfl aq))) aq j_)) aq j_) bQ))))
  (aR (br (i:=15) gp.nd (gw (bb Ks hr (ay 1 rfl rfl (ay 14 rfl rfl (au (Gu (d3 (au (bb uH hr (ay 1 rfl rfl aq)) aq bQ)) (ax 12 rfl rfl)) aq dX)))) (t4 (gw (bV (ql 2 rfl rfl) aY) aY) aY)))
  (aR (gy (oY hr (gw (gw (bb Dh hr (ay 1 rfl rfl (ay 2 rfl rfl (ay 10 rfl rfl aq)))) aY) (ax 11 rfl rfl)) (ax 15 rfl rfl)) (aX (bU tW)) gO)
  (aR (br (i:=16) gp.nd (bb Dm hr (ay 1 rfl rfl (ay 2 rfl rfl aq))))
  (aR (gy (wC (Bp (FH (ax 10 rfl rfl) (dF B.aL (ql 2 rfl rfl))) (Bp (nS (kD (bb Kt hr (ay 2 rfl rfl (ck aq))))) (FI (nS (kD (bb Kt hr (ay 2 rfl rfl (au (t4 (dF B.aL (ql 2 rfl rfl)) aY) aq dX))))))))) (aX (gy (oY hr (gw (bV (ql 16 rfl rfl) aY) (ax 11 rfl rfl)) (ax 15 rfl rfl)) (aX (bU tW)) gO)) gO)
  (aR (br (i:=17) gp.nd (t4 (bb hZ hr (ay 0 rfl rfl (ck (au (dv (dF B.aL (ql 2 rfl rfl)) aY) aq dX)))) aY))
  (aR (br (i:=18) gp.nd kC)
  (aR (gy (RW aY (ax 17 rfl rfl) (dF B.aL (ql 2 rfl rfl))) (aR (br (i:=19) gp.nd (bV (ql 2 rfl rfl) (ax 17 rfl rfl)))
  (aX (br (i:=18) gp.nd (bb Ks hr (ay 1 rfl rfl (au (bb W_ hr (ay 19 rfl rfl (ay 16 rfl rfl (ay 11 rfl rfl aq)))) (au (Gu (d3 (au (bb uH hr (ay 1 rfl rfl aq)) aq bQ)) (bV (ql 19 rfl rfl) aY)) aq dX) bQ)))))) gO)
  (aX (bU (PR hr (bb c0 hr (ay 1 rfl rfl (ay 2 rfl rfl (ay 17 rfl rfl (ay 11 rfl rfl aq))))) (ax 18 rfl rfl))))))))))))))))))))))
end
abbrev d7 (ns:List Int):D:=.lst (ns.map D.int)
abbrev n0 (l:List Int):OD:=some (d7 l,0)
def zA (ns:List Int)(k:Int):Int:=if k<ns.length then ns.getD k.toNat 0 else if ns=[]then 0 else ns.getD (k % ns.length).toNat 0*31+k
theorem Ku{k:Int}(h0:0<=k)(h:k<ns.length):L2.dz (ns.map D.int) k=some (.int (ns.getD k.toNat 0)):=by
 obtain⟨m,rfl⟩:∃ m:Nat,k=Int.ofNat m:=⟨k.toNat,by show k=(k.toNat:Int);omega⟩;have hk:m<ns.length:=by have:(m:Int)<ns.length:=h;omega
 apply wD;rw[Qw,Qi hk];simp[hk]
theorem Xa(ns:List Int):Sh 1 (d7 ns):=.lst λd m=>by obtain⟨x,_,rfl⟩:=Qu.mp m;exact .int _
theorem Kv(ns:List Int):dE (d7 ns) (.lst [])=some (.bl (decide (ns=[]))):=by unfold dE;rw[Ql ⟨(Xa ns).ok,(sO []).ok⟩];cases ns<;>rfl
theorem Xb(ns:List Int)(k:Int)(h0:0<=k):wR [d7 ns,.int k]=some (.int (zA ns k),9):=by
 unfold wR HN zA;by_cases h:k<ns.length
 .simp[h,Ku h0 h,gQ,cS]
 .by_cases hn:ns=[]
  .subst hn;have h':¬ k<0:=by omega
   simp[h',gQ,Kv]
  .have hp:(0:Int)<ns.length:=by have:=JN.mpr hn;omega
   have h1:=YL k (Int.ne_of_gt hp);have h2:=J1 k hp;have h3:=Ku h1 h2;have oK:=JN.mpr hn;simp[h,gQ,cS,Kv,hn,oK,h3]
def qN (ns:List Int)(k:Int):Int:=(zA ns k+6151*(k+1))*40692 % 2147483399
def n_ (ns:List Int)(k m:Int):Int:=(qN ns k*qN ns k+qN ns k / 31) % 2147483629 % m
theorem xu(ns:List Int)(k m:Int)(h0:0<=k)(hm:0<m):dG [d7 ns,.int k,.int m]=some (.int (n_ ns k m),9):=by
 have d0:0<=qN ns k:=YL _ (by decide);have d1:qN ns k<2147483399:=J1 _ (by decide);have g1:-18446744073709551616<qN ns k:=by omega
 have g2:qN ns k<18446744073709551616:=by omega
 have hd:(zA ns k+6151*(k+1))*40692 % 2147483399=qN ns k:=rfl;unfold dG HP n_;simp[Xb ns k h0,hm,hd,g1,g2]
theorem uM(ns:List Int)(k:Int){m:Int}(hm:0<m):0<=n_ ns k m:=YL _ (Int.ne_of_gt hm)
theorem xv(ns:List Int)(k:Int){m:Int}(hm:0<m):n_ ns k m<m:=J1 _ hm
def tf (rows:List (List Nat))(i j:Nat):Nat:=(rows.getD i []).getD j 0
def eR (rows:List (List Nat)):D:=b6 rows.length (tf rows)
def ch (n:Nat):List (List Nat):=(range n).map λi=>(range n).map λj=>max i j
def cp (a b:List (List Nat)):List (List Nat):=(range (a.length*b.length)).map λi=>(range (a.length*b.length)).map λj=>tf a (i / b.length) (j / b.length)*b.length+tf b (i % b.length) (j % b.length)
def sb (n:Nat):List (List Nat):=(range (n+2)).map λi=>(range (n+2)).map λj=>if i=0\/j=0\/i=j then max i j else n+1
def n5:List (List Nat):=[[0,1,2,3,4],[1,1,2,4,4],[2,2,2,4,4],[3,4,4,3,4],[4,4,4,4,4]]
def pF:List (List (List Nat)):=[ch 1,ch 2,ch 3,ch 4,ch 5,cp (ch 2) (ch 2),cp (ch 2) (ch 3),cp (ch 2) (ch 4),sb 0,sb 1,sb 2,sb 3,sb 4,cp (ch 2) (cp (ch 2) (ch 2)),n5]
theorem Xc:kh [.int 1]=some (eR (ch 1),1):=by rfl
theorem uO:kh [.int 2]=some (eR (ch 2),1):=by rfl
theorem Kw:kh [.int 3]=some (eR (ch 3),1):=by rfl
theorem Kx:kh [.int 4]=some (eR (ch 4),1):=by rfl
theorem Xd:kh [.int 5]=some (eR (ch 5),1):=by rfl
theorem Xe:pB [.int 0]=some (eR (sb 0),0):=by rfl
theorem Xf:pB [.int 1]=some (eR (sb 1),0):=by rfl
theorem Xg:pB [.int 2]=some (eR (sb 2),0):=by rfl
theorem Xh:pB [.int 3]=some (eR (sb 3),0):=by rfl
theorem Xi:pB [.int 4]=some (eR (sb 4),0):=by rfl
theorem Ky:nZ [eR (ch 2),eR (ch 2)]=some (eR (cp (ch 2) (ch 2)),0):=by rfl
theorem Xj:nZ [eR (ch 2),eR (ch 3)]=some (eR (cp (ch 2) (ch 3)),0):=by rfl
theorem Xk:nZ [eR (ch 2),eR (ch 4)]=some (eR (cp (ch 2) (ch 4)),0):=by rfl
theorem Xl:nZ [eR (ch 2),eR (cp (ch 2) (ch 2))]=some (eR (cp (ch 2) (cp (ch 2) (ch 2))),0):=by rfl
theorem Xm(ns:List Int)(t:Int)(h0:0<=t):∃ rows∈pF,∃ q,wV [d7 ns,.int t]=some (eR rows,q):=by
 have k0:=uM ns t (m:=9) (by decide);have k1:=xv ns t (m:=9) (by decide);have p0:=uM ns (t+1) (m:=5) (by decide);have p1:=xv ns (t+1) (m:=5) (by decide);have r0:=uM ns (t+1) (m:=3) (by decide);have r1:=xv ns (t+1) (m:=3) (by decide);have e9:=xu ns t 9 h0 (by decide);have e5:=xu ns (t+1) 5 (by omega) (by decide);have e3:=xu ns (t+1) 3 (by omega) (by decide);have mem:∀ i:Nat,i<15->pF.getD i []∈pF:=λi hi=>by rw[Qh,Qi (show i<pF.length from hi)];exact QS _
 have hc:∀ p:Int,0<=p->p<5->∃ rows∈pF,kh [.int (1+p)]=some (eR rows,1):=λp a b=>by
  have:p=0\/p=1\/p=2\/p=3\/p=4:=by omega
  rcases this with rfl|rfl|rfl|rfl|rfl
  .exact⟨_,mem 0 (by decide),Xc⟩
  .exact⟨_,mem 1 (by decide),uO⟩
  .exact⟨_,mem 2 (by decide),Kw⟩
  .exact⟨_,mem 3 (by decide),Kx⟩
  .exact⟨_,mem 4 (by decide),Xd⟩
 have hs:∀ p:Int,0<=p->p<5->∃ rows∈pF,pB [.int p]=some (eR rows,0):=λp a b=>by
  have:p=0\/p=1\/p=2\/p=3\/p=4:=by omega
  rcases this with rfl|rfl|rfl|rfl|rfl
  .exact⟨_,mem 8 (by decide),Xe⟩
  .exact⟨_,mem 9 (by decide),Xf⟩
  .exact⟨_,mem 10 (by decide),Xg⟩
  .exact⟨_,mem 11 (by decide),Xh⟩
  .exact⟨_,mem 12 (by decide),Xi⟩
 have hp:∀ r:Int,0<=r->r<3->∃ x nj rows,cS (.lst [.int 2,.int 3,.int 4]) r=some (.int x)/\kh [.int x]=some (eR nj,1)/\rows∈pF/\nZ [eR (ch 2),eR nj]=some (eR rows,0):=λr a b=>by
  have:r=0\/r=1\/r=2:=by omega
  rcases this with rfl|rfl|rfl
  .exact⟨2,_,_,rfl,uO,mem 5 (by decide),Ky⟩
  .exact⟨3,_,_,rfl,Kw,mem 6 (by decide),Xj⟩
  .exact⟨4,_,_,rfl,Kx,mem 7 (by decide),Xk⟩
 unfold wV HU;generalize n_ ns t 9=k at *
 generalize n_ ns (t+1) 5=p at *
 generalize n_ ns (t+1) 3=r at *
 have lt:∀ c:Int,bf (e2 jk (aa 2) (eC (.int c))) [n0 ns,some (.int t,9),some (.int k,9),none]=some (decide (k<c),[n0 ns,some (.int t,9),some (.int k,9),none]):=λc=>fu (cm (q:=9) (q':=9) rfl rfl rfl);have f:∀ {c:Int} {x:aI},¬ k<c->dn (bf (e2 jk (aa 2) (eC (.int c)))) x d4 [n0 ns,some (.int t,9),some (.int k,9),none]=some (.nx [n0 ns,some (.int t,9),some (.int k,9),none]):=λ{c x} h=>(jo ((lt c).trans (by rw[QB h]))).trans rfl;have s2:∀ {k:Int},dG [d7 ns,.int t,.int 9]=some (.int k,9)->aV 2 (aE dG 3 (af (aa 0) (af (aa 1) (af (eC (.int 9)) ai)))) [n0 ns,some (.int t,9),none,none]=some (.nx [n0 ns,some (.int t,9),some (.int k,9),none]):=λe=>cW (bh (ds:=[d7 ns,.int t,.int 9]) rfl rfl e) rfl;have tt:∀ {c:Int},k<c->bf (e2 jk (aa 2) (eC (.int c))) [n0 ns,some (.int t,9),some (.int k,9),none]=some (true,[n0 ns,some (.int t,9),some (.int k,9),none]):=λ{c} h=>(lt c).trans (by rw[QC h]);by_cases h3:k<3
 .obtain⟨rows,hm,e⟩:=hc p p0 p1;exact⟨rows,hm,1,dw ((aO (s2 e9)).trans (uu ((lC (tt h3)).trans (eF (bh (ds:=[.int (1+p)]) (bp (cm (q:=9) rfl (bh (ds:=[d7 ns,.int (t+1),.int 5]) rfl rfl e5) rfl)) rfl e)))))⟩
 by_cases h5:k<5
 .obtain⟨x,nj,rows,ea,e1,hm,mR⟩:=hp r r0 r1;have ei:cK (cZ (af (eC (.int 2)) (af (eC (.int 3)) (af (eC (.int 4)) ai)))) (aE dG 3 (af (aa 0) (af (e2 cb (aa 1) (eC (.int 1))) (af (eC (.int 3)) ai)))) [n0 ns,some (.int t,9),some (.int k,9),none]=some (.int x,9,[n0 ns,some (.int t,9),some (.int k,9),none]):=by have ek:=bh (F:=dG) (n:=3) (g:=af (aa 0) (af (e2 cb (aa 1) (eC (.int 1))) (af (eC (.int 3)) ai))) (ρ:=[n0 ns,some (.int t,9),some (.int k,9),none]) (ds:=[d7 ns,.int (t+1),.int 3]) rfl rfl e3;unfold cK;rw[show cZ (af (eC (.int 2)) (af (eC (.int 3)) (af (eC (.int 4)) ai))) [n0 ns,some (.int t,9),some (.int k,9),none]=some (.lst [.int 2,.int 3,.int 4],1,[n0 ns,some (.int t,9),some (.int k,9),none])from rfl];simp only[ek,ea];rfl
  exact⟨rows,hm,0,dw ((aO (s2 e9)).trans ((aO (f h3)).trans (uu ((lC (tt h5)).trans (eF (bh (bK (bh (ds:=[.int 2]) rfl rfl uO) (bp (bh (bp ei) rfl e1))) rfl mR))))))⟩
 by_cases h7:k<7
 .obtain⟨rows,hm,e⟩:=hs p p0 p1;exact⟨rows,hm,0,dw ((aO (s2 e9)).trans ((aO (f h3)).trans ((aO (f h5)).trans (uu ((lC (tt h7)).trans (eF (bh (bp (bh (ds:=[d7 ns,.int (t+1),.int 5]) rfl rfl e5)) rfl e)))))))⟩
 have:k=7\/k=8:=by omega
 rcases this with rfl|rfl
 .exact⟨_,mem 13 (by decide),0,dw ((aO (s2 e9)).trans ((aO (f h3)).trans ((aO (f h5)).trans ((aO (f h7)).trans (uu ((lC ((fu (cm (q:=9) (q':=9) rfl rfl (Hw 7 7))).trans rfl)).trans (eF (bh (bK (bh (ds:=[.int 2]) rfl rfl uO) (bp (bh (bK (bh (ds:=[.int 2]) rfl rfl uO) (bp (bh (ds:=[.int 2]) rfl rfl uO))) rfl Ky))) rfl Xl))))))))⟩
 .exact⟨_,mem 14 (by decide),0,dw ((aO (s2 e9)).trans ((aO (f h3)).trans ((aO (f h5)).trans ((aO (f h7)).trans ((aO ((jo ((fu (cm (q:=9) (q':=9) rfl rfl (Hw 8 7))).trans rfl)).trans rfl)).trans rfl)))))⟩
theorem Xn:∀ rows∈pF,CU rows.length (tf rows)=true:=by decide +kernel
def pk (ns:List Int)(t:Int)(k m:Nat):Nat:=(n_ ns (t+2+Int.ofNat k) (Int.ofNat m)).toNat
theorem Dw(ns:List Int)(t:Int)(k m:Nat)(h:0<m):pk ns t k m<m:=by have h1:=uM ns (t+2+Int.ofNat k) (m:=Int.ofNat m) (by show(0:Int)<m;omega);have h2:=xv ns (t+2+Int.ofNat k) (m:=Int.ofNat m) (by show(0:Int)<m;omega);have h3:(Int.ofNat m)=(m:Int):=rfl;unfold pk;omega
theorem Xo(ns:List Int)(t:Int)(k m:Nat)(h:0<m):n_ ns (t+2+Int.ofNat k) (Int.ofNat m)=Int.ofNat (pk ns t k m):=by have h1:=uM ns (t+2+Int.ofNat k) (m:=Int.ofNat m) (by show(0:Int)<m;omega);unfold pk;show _=((n_ ns (t+2+Int.ofNat k) (Int.ofNat m)).toNat:Int);omega
section
variable (ns:List Int)(t:Int)(n:Nat)(B:Nat->Nat->Nat)(q:Nat)
theorem Xp(h0:0<=t)(hn:n<=16):jI 1 (aH 8) dC (vN 3 (af (aE dG 3 (af (aa 0) (af (e2 cb (e2 cb (aa 1) (eC (.int 2))) (aa 8)) (af (bE 3) ai)))) ai)) false (eE n)
  [n0 ns,some (.int t,9),some (b6 n B,q),some (.lst (eE n),1),none,none,none,none] =
  some (ak ((range n).map (drawn (pk ns t) n)),[n0 ns,some (.int t,9),some (b6 n B,q),some (.lst [],1),none,none,none,none]):=by
 have hp:=Dw ns t;have h:=sN (k:=1) (pt:=aH 8) (tt:=dC) (te:=vN 3 (af (aE dG 3 (af (aa 0) (af (e2 cb (e2 cb (aa 1) (eC (.int 2))) (aa 8)) (af (bE 3) ai)))) ai)) (deep:=false) (eE n)
  (λk=>[n0 ns,some (.int t,9),some (b6 n B,q),uL (bX (pk ns t) n k),none,none,none,none]) (λ_=>true) (λk=>(iD (drawn (pk ns t) n k))) (λk hk=>?_)
 .rw[jm]at h;have hl:bX (pk ns t) n n=[]:=Zq.mp (by rw[wH hp n (Qf n)];omega);rw[hl]at h;have e1:(range n).filter (λ_=>true)=range n:=by simp
  rw[e1]at h;simp only[ak,QU,Jt];exact h
 .rw[jm]at hk;have hl:=wH hp k (ZF hk);have Kz:0<(bX (pk ns t) n k).length:=by rw[hl];omega
  have e:=Xo ns t k _ Kz;have hj:=Dw ns t k _ Kz;have KA:=xu ns (t+2+Int.ofNat k) (Int.ofNat (bX (pk ns t) n k).length) (by show 0<=t+2+(k:Int);omega) (by show(0:Int)<((bX (pk ns t) n k).length:Int);omega);have hs:seqIndex? (Int.ofNat (pk ns t k (bX (pk ns t) n k).length)) (ak (bX (pk ns t) n k)).length=some (pk ns t k (bX (pk ns t) n k).length):=(Ap (uv (by rw[iz];exact hj))).1;have hg:(ak (bX (pk ns t) n k))[pk ns t k (bX (pk ns t) n k).length]? = some (iD (drawn (pk ns t) n k)):=by rw[Hm];unfold drawn;rw[Qh,Qi hj];rfl
  have hb:pk ns t k (bX (pk ns t) n k).length<=16:=by omega
  have he:(ak (bX (pk ns t) n k)).eraseIdx (pk ns t k (bX (pk ns t) n k).length)=ak (bX (pk ns t) n (k+1)):=by rw[bX,HA]
  refine⟨[n0 ns,some (.int t,9),some (b6 n B,q),uL (bX (pk ns t) n k),none,none,none,none,i9 k],_,by simp[eE],rfl,?_⟩;rw[Ql rfl];refine⟨9,[n0 ns,some (.int t,9),some (b6 n B,q),uL (bX (pk ns t) n (k+1)),none,none,none,none,i9 k],?_,by simp,by simp⟩;have b1:(-1000:Int)<=Int.ofNat (pk ns t k (bX (pk ns t) n k).length):=by show(-1000:Int)<=(pk ns t k (bX (pk ns t) n k).length:Int);omega
  have b2:Int.ofNat (pk ns t k (bX (pk ns t) n k).length)<=1000:=by show(pk ns t k (bX (pk ns t) n k).length:Int)<=1000;omega
  have qY:gQ (.lst (ak (bX (pk ns t) n k)))=some (bX (pk ns t) n k).length:=by simp[gQ,iz]
  rw[e]at KA;simp[-ofNat_eq_natCast,qY,KA,hs,hg,he,b1,b2]
theorem Xq(hn:n<=16)(x:OD):jI 1 (aH 8) dC (l7 (cZ (af (eC (.int 0)) ai)) (bE 2)) true ((range n).map λi=>e7 n B i)
  [n0 ns,some (.int t,9),some (b6 n B,0),some (.lst [],1),x,none,none,none] =
  some ((range n).map λi=>e7 n (λ_ _=>0) i,[n0 ns,some (.int t,9),some (b6 n B,0),some (.lst [],1),x,none,none,none]):=by
 have h:=sN (k:=1) (pt:=aH 8) (tt:=dC) (te:=l7 (cZ (af (eC (.int 0)) ai)) (bE 2)) (deep:=true) ((range n).map λi=>e7 n B i)
  (λ_=>[n0 ns,some (.int t,9),some (b6 n B,0),some (.lst [],1),x,none,none,none]) (λ_=>true) (λi=>e7 n (λ_ _=>0) i) (λk hk=>?_)
 .rw[Qg,QR,show(range n).filter (λ_=>true)=range n by simp]at h;exact h
 .refine⟨[n0 ns,some (.int t,9),some (b6 n B,0),some (.lst [],1),x,none,none,none,some (e7 n B k,0)],_,by simp[e7],rfl,?_⟩;rw[Ql rfl];refine⟨1,[n0 ns,some (.int t,9),some (b6 n B,0),some (.lst [],1),x,none,none,none,some (e7 n B k,0)],?_,by simp,by simp⟩;have z:e7 n (λ_ _=>0) k=D.lst (replicate n [D.int 0]).flatten:=(UI n).symm;have b1:(-1000:Int)<=n:=by omega
  have b2:(n:Int)<=1000:=by omega
  have b3:n<=1000:=by omega
  rw[z];simp[wG,b1,b2,b3]
def gR (π ι:Nat->Nat)(i j a b:Nat):Nat:=if ι a<i\/(ι a=i/\ι b<j)then π (B (ι a) (ι b))else 0
abbrev tj:aI:=vP 5 (si 4 (o4 6)) (si 4 (o4 7)) (aS 4 (cK (aS 2 (aa 6)) (aa 7)))
section
variable {n B}{π ι:Nat->Nat}(cl:∀ i j,i<n->j<n->B i j<n)(h1:∀ i,i<n->π i<n)(h2:∀ i,i<n->ι i<n)(h3:∀ i,i<n->ι (π i)=i)(h4:∀ i,i<n->π (ι i)=i)
include cl h1 h2 h3 h4
theorem Xr(hi:i<n)(hj:j<n){y:OD} :
  tj [n0 ns,some (.int t,9),some (b6 n B,0),some (.lst [],1),uL ((range n).map π),some (b6 n f,2),i9 i,i9 j] =
  some (.nx [n0 ns,some (.int t,9),some (b6 n B,0),some (.lst [],1),uL ((range n).map π),some (b6 n (λa b=>if a=π i/\b=π j then π (B i j)else f a b),2),i9 i,i9 j]):=by
 have a1:=UE (f:=B) hi;have a2:=UG (f:=B) (i:=i) hj;have a3:cS (.lst (ak ((range n).map π))) (Int.ofNat (B i j))=some (iD (π (B i j))):=uw (cl i j hi hj);have a4:cS (.lst (ak ((range n).map π))) (Int.ofNat i)=some (iD (π i)):=uw hi;have a5:cS (.lst (ak ((range n).map π))) (Int.ofNat j)=some (iD (π j)):=uw hj;have a6:g8 ((range n).map λa=>e7 n f a).length (Int.ofNat (π i))=some (π i):=uv (by simpa using h1 i hi);have a7:((range n).map λa=>e7 n f a)[π i]? = some (.lst (ak ((range n).map λb=>f (π i) b))):=by rw[Qw,Zw (h1 i hi)];rfl
 have a8:g8 (ak ((range n).map λb=>f (π i) b)).length (Int.ofNat (π j))=some (π j):=uv (by simpa [iz]using h1 j hj);have a9:=UH (n:=n) (f:=f) (a:=π i) (b:=π j) (v:=π (B i j));rw[<- a9];show tj [n0 ns,some (.int t,9),some (b6 n B,0),some (.lst [],1),uL ((range n).map π),some (.lst ((range n).map λa=>e7 n f a),2),i9 i,i9 j]=_;unfold tj;simp only[vP,aS,cK,aa,si,o4,Yt,List.getElem?_cons_zero,D.cO,Z7,a1,a2,a3,a4,a5,a6,a7,a8,ne_eq,not_true_eq_false,false_and,and_false,JV,Ze,reduceCtorEq,YH,QT,gj,List.set_cons_succ,List.set_cons_zero]
abbrev kT (f:Nat->Nat->Nat)(x y:OD):aW:=[n0 ns,some (.int t,9),some (b6 n B,0),some (.lst [],1),uL ((range n).map π),some (b6 n f,2),x,y]
omit cl h1 h2 h3 h4
theorem zB(h:i<(eE n).length):(eE n)[i]=(iD i):=by simp[eE]
include cl h1 h2 h3 h4
theorem Xs(hi:i<n)(hj:j<n):b6 n (λa b=>if a=π i/\b=π j then π (B i j)else gR B π ι i j a b)=b6 n (gR B π ι i (j+1)):=by
 refine zj λa b ha hb=>?_;unfold gR;by_cases h:a=π i/\b=π j
 .obtain⟨rfl,rfl⟩:=h;rw[Ql ⟨rfl,rfl⟩,h3 i hi,h3 j hj,Ql (.inr ⟨rfl,Zg _⟩)]
 .rw[Qt h];have:¬ (ι a=i/\ι b=j):=λ⟨e1,e2⟩=>h ⟨by rw[<- e1,h4 a ha],by rw[<- e2,h4 b hb]⟩;by_cases c:ι a<i\/ι a=i/\ι b<j
  .rw[Ql c,Ql (by omega)]
  .rw[Qt c,Qt (by omega)]
theorem Xu:b6 n (gR B π ι i n)=b6 n (gR B π ι (i+1) 0):=by
 refine zj λa b ha hb=>?_;have:=h2 b hb;unfold gR;by_cases c:ι a<i\/ι a=i/\ι b<n
 .rw[Ql c,Ql (by omega)]
 .rw[Qt c,Qt (by omega)]
theorem Xv(hn:n<=16)(hi:i<n)(y:OD):∃ y',fZ (aH 7) tj (eE n) (kT ns t (n:=n) (B:=B) (π:=π) (gR B π ι i 0) ((i9 i)) y) =
  some (.nx (kT ns t (n:=n) (B:=B) (π:=π) (gR B π ι (i+1) 0) ((i9 i)) y')):=by
 obtain⟨ad,e,y',rfl⟩:=ur (pt:=aH 7) (body:=tj) (eE n) (λj ρ=>∃ y,ρ=kT ns t (n:=n) (B:=B) (π:=π) (gR B π ι i j) ((i9 i)) y) (kT ns t (n:=n) (B:=B) (π:=π) (gR B π ι i 0) ((i9 i)) y) (λj hj ρ ao=>by obtain⟨y,hy⟩:=ao;subst hy;rw[jm]at hj;refine⟨kT ns t (n:=n) (B:=B) (π:=π) (gR B π ι i j) ((i9 i)) ((i9 j)),_,by rw[zB];simp,.inl (Xr ns t cl h1 h2 h3 h4 hi hj (y:=none)),?_⟩;rw[Xs cl h1 h2 h3 h4 hi hj];exact⟨_,rfl⟩) ⟨y,rfl⟩
 refine⟨y',?_⟩;rw[e,jm];show some (Out.nx [_,_,_,_,_,some (b6 n (gR B π ι i n),2),_,_])=_;rw[Xu cl h1 h2 h3 h4]
theorem Xw(hn:n<=16)(x y:OD):∃ x' y',fZ (aH 6) (fN (dW (af (bE 2) ai)) (aH 7) tj) (eE n) (kT ns t (n:=n) (B:=B) (π:=π) (λ_ _=>0) x y) =
  some (.nx (kT ns t (n:=n) (B:=B) (π:=π) (λa b=>π (B (ι a) (ι b))) x' y')):=by
 have z:b6 n (λ_ _=>0)=b6 n (gR B π ι 0 0):=zj λa b _ _=>by unfold gR;rw[Qt (by omega)]
 have z':b6 n (gR B π ι n 0)=b6 n (λa b=>π (B (ι a) (ι b))):=zj λa b ha _=>by unfold gR;rw[Ql (.inl (h2 a ha))]
 obtain⟨ad,e,x',y',rfl⟩:=ur (pt:=aH 6) (body:=fN (dW (af (bE 2) ai)) (aH 7) tj) (eE n) (λi ρ=>∃ x y,ρ=kT ns t (n:=n) (B:=B) (π:=π) (gR B π ι i 0) x y) (kT ns t (n:=n) (B:=B) (π:=π) (gR B π ι 0 0) x y) (λi hi ρ ao=>by
  obtain⟨x,y,hy⟩:=ao;subst hy;rw[jm]at hi;obtain⟨y',Xx⟩:=Xv ns t cl h1 h2 h3 h4 hn hi y;refine⟨kT ns t (n:=n) (B:=B) (π:=π) (gR B π ι i 0) ((i9 i)) y,_,by rw[zB];simp,.inl (show _=some (Out.nx (kT ns t (n:=n) (B:=B) (π:=π) (gR B π ι (i+1) 0) ((i9 i)) y'))from ?_),⟨_,_,rfl⟩⟩;have b1:(-1000:Int)<=Int.ofNat n:=by show(-1000:Int)<=n;omega
  have b2:Int.ofNat n<=1000:=by show(n:Int)<=1000;omega
  have e:dW (af (bE 2) ai) (kT ns t (n:=n) (B:=B) (π:=π) (gR B π ι i 0) ((i9 i)) y)=some (eE n,kT ns t (n:=n) (B:=B) (π:=π) (gR B π ι i 0) ((i9 i)) y):=by simp[-ofNat_eq_natCast,wG,b1,b2];rfl
  unfold fN;rw[e];exact Xx) ⟨x,y,rfl⟩
 refine⟨x',y',?_⟩;show fZ _ _ _ [_,_,_,_,_,some (b6 n (λ_ _=>0),2),_,_]=some (.nx [_,_,_,_,_,some (b6 n (λa b=>π (B (ι a) (ι b))),2),_,_]);rw[z,<- z'];rw[jm]at e;exact e
end
end
theorem Xy{a b c d e:OD}{x y:OD}:jI 1 (aH 8) dC (fF (af (aa 8) ai)) false ((range n).map λi=>e7 n f i) [a,b,c,d,e,some (b6 n f,0),x,y] =
  some ((range n).map λi=>lE n f i,[a,b,c,d,e,some (b6 n f,0),x,y]):=by
 have h:=sN (k:=1) (pt:=aH 8) (tt:=dC) (te:=fF (af (aa 8) ai)) (deep:=false) ((range n).map λi=>e7 n f i)
  (λ_=>[a,b,c,d,e,some (b6 n f,0),x,y]) (λ_=>true) (λi=>lE n f i) (λk hk=>?_)
 .rw[Qg,QR,show(range n).filter (λ_=>true)=range n by simp]at h;exact h
 .refine⟨[a,b,c,d,e,some (b6 n f,0),x,y,some (e7 n f k,0)],_,by simp[e7],rfl,?_⟩;rw[Ql rfl];exact⟨9,[a,b,c,d,e,some (b6 n f,0),x,y,some (e7 n f k,0)],by simp[e7,lE],by simp,by simp⟩
theorem og(hn:n<=1000){d:D}(h:ρ[i]? = some (some (d,q)))(hl:gQ d=some n):dW (af (bE i) ai) ρ=some (eE n,ρ):=by
 have b1:(-1000:Int)<=Int.ofNat n:=by show(-1000:Int)<=n;omega
 have b2:Int.ofNat n<=1000:=by show(n:Int)<=1000;omega
 simp only[dW,af,bE,ai,h,hl];rw[Ql ⟨b1,b2⟩];rfl
theorem Xz:∀ rows∈pF,rows.length<=8:=by decide +kernel
theorem XA(ns:List Int)(t:Int)(h0:0<=t):∃ n f,bF n f/\n<=8/\uA [d7 ns,.int t]=(t9 n f):=by
 obtain⟨rows,hm,q,hb⟩:=Xm ns t h0;have L:=UN (Xn rows hm);have h8:=Xz rows hm;unfold eR at hb;revert hb L h8;generalize rows.length=n;generalize tf rows=B;intro hb L h8;have hp:=Dw ns t;have hn:n<=1000:=QF L.hi (by decide);refine⟨n,λa b=>drawn (pk ns t) n (B (kO (pk ns t) n a) (kO (pk ns t) n b)),L.UO (λi hi=>HD hp hi) (λi hi=>HE hp hi) (λi hi=>HG hp hi) (λi hi=>HF hp hi),h8,?_⟩;unfold uA HV;refine dw ?_;have s0:oT 8 [d7 ns,.int t]=[n0 ns,some (.int t,9),none,none,none,none,none,none]:=rfl;rw[s0];refine(aO (ac:=[n0 ns,some (.int t,9),some (b6 n B,q),none,none,none,none,none]) ?_).trans ?_
 .simp[hb]
 refine(aO (ac:=[n0 ns,some (.int t,9),some (b6 n B,q),some (.lst (eE n),1),none,none,none,none]) ?_).trans ?_
 .exact cW (CK (og hn rfl wG)) rfl
 refine(aO (ac:=[n0 ns,some (.int t,9),some (b6 n B,q),some (.lst [],1),uL ((range n).map (drawn (pk ns t) n)),none,none,none]) ?_).trans ?_
 .exact cW (jM (og hn rfl wG) (Xp ns t n B q h0 L.hi)) rfl
 refine(aO (ac:=[n0 ns,some (.int t,9),some (b6 n B,0),some (.lst [],1),uL ((range n).map (drawn (pk ns t) n)),some (b6 n (λ_ _=>0),2),none,none]) ?_).trans ?_
 .have e:cL (aa 2) [n0 ns,some (.int t,9),some (b6 n B,q),some (.lst [],1),uL ((range n).map (drawn (pk ns t) n)),none,none,none]=some ((range n).map λi=>e7 n B i,[n0 ns,some (.int t,9),some (b6 n B,0),some (.lst [],1),uL ((range n).map (drawn (pk ns t) n)),none,none,none]):=by
   by_cases hq:q=0
   .subst hq;simp[b6,hn]
   .simp[b6,hn,hq]
  exact cW (jM e (Xq ns t n B L.hi _)) rfl
 obtain⟨x',y',hf⟩:=Xw ns t (n:=n) (B:=B) (π:=drawn (pk ns t) n) (ι:=kO (pk ns t) n) L.cl (λi hi=>HD hp hi) (λi hi=>HE hp hi) (λi hi=>HG hp hi) (λi hi=>HF hp hi) L.hi none none;refine(aO ((kN (og hn rfl wG)).trans hf)).trans ?_;refine eF (ac:=[n0 ns,some (.int t,9),some (b6 n B,0),some (.lst [],1),uL ((range n).map (drawn (pk ns t) n)),some (b6 n (λa b=>drawn (pk ns t) n (B (kO (pk ns t) n a) (kO (pk ns t) n b))),0),x',y']) ?_;have e:cL (aa 5) (kT ns t (n:=n) (B:=B) (π:=drawn (pk ns t) n) (λa b=>drawn (pk ns t) n (B (kO (pk ns t) n a) (kO (pk ns t) n b))) x' y')=some ((range n).map λi=>e7 n (λa b=>drawn (pk ns t) n (B (kO (pk ns t) n a) (kO (pk ns t) n b))) i,[n0 ns,some (.int t,9),some (b6 n B,0),some (.lst [],1),uL ((range n).map (drawn (pk ns t) n)),some (b6 n (λa b=>drawn (pk ns t) n (B (kO (pk ns t) n a) (kO (pk ns t) n b))),0),x',y']):=by simp[b6,hn]
 have e2:=jM (k:=1) (pt:=aH 8) (tt:=dC) (te:=fF (af (aa 8) ai)) (deep:=false) e Xy;exact jN (bp e2)
theorem XB(ns:List Int)(t:Int)(h0:0<=t):∃ n f,bF n f/\uA [d7 ns,.int t]=(t9 n f):=by obtain⟨n,f,L,_,e⟩:=XA ns t h0;exact⟨n,f,L,e⟩
theorem XD(v:Nat)(l:List Nat):inD (iD v) (.lst (ak l))=some (decide (v∈l)):=by
 show some ((dg (ak l)).any λy=>PyData.eqv y (cP (iD v)))=_;congr 1;induction l with
 | nil=>rfl
 | cons a l ih=>
  have h1:(dg (ak (a::l)))=cP (iD a)::dg (ak l):=rfl;rw[h1,Y2,ih];have h2:PyData.eqv (cP (iD a)) (cP (iD v))=decide (a=v):=CT a v;rw[h2];by_cases h:a=v
  .simp[h]
  .have h':¬ v=a:=λq=>h q.symm;simp[h,h']
theorem KC(v:Nat)(l:List Nat):nV (iD v) (.lst (ak l))=some (.bl (decide (v∈l))):=by unfold nV;rw[Ql ⟨(Sh.int (k:=0) _).ok,(sO l).ok⟩,XD];rfl
theorem XE{x:D×Nat}(h:ρ[i]? = some (some x)):ρ.set i (some x)=ρ:=by
 apply Zi;intro k;by_cases hk:i=k
 .subst hk;rw[h,Qz (Qq.mp h).1]
 .rw[Qy hk]
theorem jO(h:ρ[i]? = some (some (.lst ds,q))):aa i ρ=some (.lst ds,0,ρ.set i (some (.lst ds,0))):=by
 unfold aa;rw[h];by_cases hq:q=0
 .subst hq;rw[XE h];rfl
 .simp[hq]
theorem uP{b:Bool}(e:g ρ=some (b,ac)):iy g ρ=some (!b,ac):=by unfold iy;rw[e]
theorem qO{f:aJ}{b:Bool}(h:f ρ=some (.bl b,q,ac)):eA f ρ=some (b,ac):=by unfold eA;rw[h];cases b<;>rfl
theorem mi{d:D}(h:ρ[i]? = some (some (d,q)))(hl:gQ d=some n):bE i ρ=some ((iD n),9,ρ):=by unfold bE;rw[h];simp only[hl]
theorem uQ{d:D}(h:ρ[i]? = some (some (d,q)))(hd:d.cO=false):aa i ρ=some (d,9,ρ):=by unfold aa;rw[h];simp[hd]
theorem qP{d:D}{b:aJ}{k:Int}(hb:b ρ=some (.int k,q',ρ))(h:ρ[i]? = some (some (x,q)))(ha:cS x k=some d)(hd:d.cO=false):aS i b ρ=some (d,9,ρ):=by unfold aS;rw[h];simp only[hb,h,ha,hd,gj];simp
theorem qQ{d:D}{a b:aJ}{k:Int}(h:a ρ=some (x,q,ac))(hb:b ac=some (.int k,q',am))(ha:cS x k=some d)(hx:x.cO=false)(hd:d.cO=false):cK a b ρ=some (d,9,am):=by unfold cK;rw[h];simp only[hb,ha,hd,hx,gj];simp
theorem XF{f:aJ}{y:D}(h:f ρ=some (.tup [x,y],q,ac))(e:(ac.set i (some (x,gj x))).set j (some (y,gj y))=am)(hi:i<ac.length)(hj:j<ac.length):vV f (eQ (bD (aH i) (bD (aH j) fG))) ρ=some (.nx am):=by subst e;unfold vV;rw[h];simp[hi,hj]
theorem mj(ns:List Int){c:Int}(hc:0<=c)(hn:0<n):∃ v,v<n/\dG [d7 ns,.int c,iD n]=(i9 v):=by
 have Dx:(0:Int)<Int.ofNat n:=by show(0:Int)<(n:Int);omega
 have h1:=uM ns c Dx;have h2:=xv ns c Dx;have h3:Int.ofNat n=(n:Int):=rfl;obtain⟨v,hv⟩:=Yu h1;refine⟨v,by rw[hv,h3]at h2;omega,?_⟩;rw[xu ns c _ hc Dx,hv];rfl
section
variable {n:Nat}{f:Nat->Nat->Nat}
theorem XG(hn:n<=1000){w:Nat}(hw:w<n):s_ [bH n f,iD w]=(uL ((range n).filter λx=>decide (f x w=w))):=by
 unfold s_ Kh;refine dw (eF (jM (deep:=false) (am:=[t9 n f,i9 w]) (og hn rfl lF) ?_));refine wI (i:=2) (ρ:=[t9 n f,i9 w]) (deep:=false) rfl (λx=>decide (f x w=w)) (λx=>(iD x)) (λ_=>9) (λj hj=>?_) (λj hj _=>?_)
 .simp[-ofNat_eq_natCast,ux hj,wF hw,Hx]
 .simp[-ofNat_eq_natCast]
variable (L:bF n f){z:Nat}(hz:z<n)(bz:∀ j,j<n->f z j=j)
include L hz bz
theorem KD{w:Nat}(hw:w<n):decide ((range n).map (λj=>f w j)=range n)=decide (w=z):=by rw[decide_eq_decide,UP];exact⟨λh=>L.mY hz bz hw h,λh=>by subst h;exact bz⟩
theorem Dy(hn:n<=1000):ki [bH n f]=(i9 z):=by
 unfold ki Ke;refine dw (eF (ac:=[t9 n f]) ?_);have hc:eO 1 (dW (af (bE 0) ai)) (aH 1) (bf (e2 dE (vK (af (aS 0 (aa 1)) ai)) (qo (af (bE 0) ai)))) (aa 1) false (oT 1 [bH n f])=some (.lst (ak [z]),1,[t9 n f]):=by
  refine(jM (deep:=false) (am:=[t9 n f]) (og hn rfl lF) (wI rfl (λx=>decide (x=z)) (λx=>(iD x)) (λ_=>9) (λj hj=>?_) (λj hj _=>?_))).trans ?_
  .have e1:vK (af (aS 0 (aa 1)) ai) ([t9 n f]++[i9 j])=some (.lst (ak ((range n).map λk=>f j k)),1,[t9 n f,i9 j]):=by simp[-ofNat_eq_natCast,ux hj,lE]
   have mR:qo (af (bE 0) ai) [t9 n f,i9 j]=some (.lst (ak (range n)),1,[t9 n f,i9 j]):=CK (og hn rfl lF);unfold bf e2;rw[e1];simp only[mR,UK,KD L hz bz hj];rfl
  .simp[-ofNat_eq_natCast]
  .rw[HH,Ql hz];rfl
 unfold cK;rw[hc];simp[-ofNat_eq_natCast,cS,ak,L2.dz,g8]
theorem XH(hn:n<=1000){l:List Nat}(hl:l.length<=1000)(hm:∀ x∈l,x<n):uG [bH n f,.lst (ak l)]=(i9 (l.foldl f z)):=by
 unfold uG Kg;refine dw ?_;refine(aO (ac:=[t9 n f,some (.lst (ak l),0),i9 z,none]) ?_).trans ?_
 .simp[-ofNat_eq_natCast,Dy L hz bz hn]
 obtain⟨ad,e,y,rfl⟩:=ur (pt:=aH 3) (body:=aV 2 (cK (aS 0 (aa 2)) (aa 3))) (ak l) (λi ρ=>∃ y,ρ=[t9 n f,some (.lst (ak l),0),i9 ((l.take i).foldl f z),y]) [t9 n f,some (.lst (ak l),0),i9 z,none] (λi hi ρ ao=>by
  obtain⟨y,hy⟩:=ao;subst hy;have jX:i<l.length:=by rw[iz]at hi;exact hi
  have hg:(ak l)[i]=.int (Int.ofNat l[i]):=by simp[ak]
  have hx:l[i]<n:=hm _ (QS jX);have ha:(l.take i).foldl f z<n:=L.fold_lt hz λx m=>hm x (ZP m);refine⟨[t9 n f,some (.lst (ak l),0),i9 ((l.take i).foldl f z),some (.int (Int.ofNat l[i]),9)],[t9 n f,some (.lst (ak l),0),i9 ((l.take (i+1)).foldl f z),some (.int (Int.ofNat l[i]),9)],?_,.inl ?_,⟨_,rfl⟩⟩
  .rw[hg];simp
  .rw[List.take_succ_eq_append_getElem jX,Ju];simp[-ofNat_eq_natCast,ux ha,wF hx]) ⟨none,rfl⟩
 rw[iz,JA]at e;refine(aO ((kN (ds:=ak l) (ac:=[t9 n f,some (.lst (ak l),0),i9 z,none]) ?_).trans e)).trans ?_
 .simp[iz,hl]
 .simp[-ofNat_eq_natCast]
end
section
variable {n:Nat}{f:Nat->Nat->Nat}
variable (L:bF n f){z:Nat}(hz:z<n)(bz:∀ j,j<n->f z j=j)
include L hz bz
theorem KG(hn:n<=1000):n4 [bH n f]=(i9 z):=by
 have b1:(-1000:Int)<=Int.ofNat n:=by show(-1000:Int)<=n;omega
 have b2:Int.ofNat n<=1000:=by show(n:Int)<=1000;omega
 have hr:wW [iD n]=(v9 (range n)):=by unfold wW H_;simp[-ofNat_eq_natCast,b1,b2];rfl
 have hi:t8 (.tup (ak (range n))) ((range n).map λi=>lE n f i)=some z:=by
  unfold t8;rw[Hq,QU];have ev:∀ i,i<n->PyData.eqv (cP (lE n f i)) (cP (.tup (ak (range n))))=decide (i=z):=λi hi=>(zk _ _).trans (KD L hz bz hi);refine Hz (x:=cP (lE n f z)) ?_ ?_ ?_
  .rw[Qw,Zw hz];rfl
  .rw[ev z hz];simp
  .intro i y hi hy;have jX:i<n:=Yz hi hz;rw[Qw,Zw jX]at hy;cases hy;refine(ev i jX).trans ?_;simp;omega
 have h1:d5 (.tup ((range n).map λi=>lE n f i))=true:=(UJ n f).ok;have h2:d5 (.tup (ak (range n)))=true:=(pz _).ok;have hl:gQ (.tup ((range n).map λi=>lE n f i))=some n:=lF (f:=f);unfold n4 Ie bH;simp[-ofNat_eq_natCast,hr,hl,h1,h2,hi]
end
theorem XI{g:aJ}(h:g ρ=some (.lst ds,q,ac))(hl:ds.length<=1000):cL g ρ=some (ds,ac):=by unfold cL;rw[h];exact Ql hl
theorem XJ{a b:aJ}{k:Int}{d:D}(ha:a ρ=some (.lst ds,q,ac))(hb:b ac=some (.int k,q',am))(h:cS (.lst ds) k=some d):cK a b ρ=some (d,gj d,am):=by unfold cK;rw[ha];simp only[hb,h]
theorem KH(l:List Nat)(x:Nat):ak l++[iD x]=ak (l++[x]):=by unfold ak;rw[QZ];rfl
theorem KI{g:bP}(h:g ρ=some (ds,ac))(hl:ds.length<=1000):cZ g ρ=some (.lst ds,1,ac):=by unfold cZ;rw[h];exact Ql hl
abbrev R7 (ns:List Int)(t:Int)(n:Nat)(f:Nat->Nat->Nat)(z:Nat)(a b c:OD):aW:=[n0 ns,some (.int t,9),t9 n f,i9 z,a,b,c]
section
variable {n:Nat}{f:Nat->Nat->Nat}
variable (L:bF n f){z:Nat}(hz:z<n)(bz:∀ j,j<n->f z j=j)
include L hz bz
theorem XM(ns:List Int)(t:Int)(h0:0<=t):∃ d:Nat->Nat,(∀ i,i<n->d i<n)/\uI [d7 ns,.int t,bH n f]=some (iA n (bF.lr n f z d),9):=by
 have hn:n<=1000:=QF L.hi (by decide);have XN:0<n:=L.lo;obtain⟨ad,e,l,y,hl,hm,rfl⟩:=ur (pt:=aH 5) (body:=Kk) (eE n) (λi ρ=>∃ l y,l.length=i/\(∀ x∈l,x<n)/\ρ=R7 ns t n f z (some (.lst (ak l),1)) y none) (R7 ns t n f z (some (.lst [],1)) none none) (λi hi ρ ao=>by
  obtain⟨l,y,hl,hm,rfl⟩:=ao;have jX:i<n:=by rw[jm]at hi;exact hi
  have KJ:Int.ofNat i=(i:Int):=rfl;obtain⟨v,hv,ev⟩:=mj ns (show 0<=t+Int.ofNat i by omega) XN;obtain⟨k,hk,ek⟩:=mj ns (show 0<=t+8+Int.ofNat i by omega) (show 0<3 by decide);have hx:∃ x,x<n/\cS (.lst [.int (Int.ofNat z),.int (Int.ofNat i),.int (Int.ofNat v)]) (Int.ofNat k)=some (.int (Int.ofNat x)):=by
   match k,hk with
   | 0,_=>exact⟨z,hz,rfl⟩
   | 1,_=>exact⟨i,jX,rfl⟩
   | 2,_=>exact⟨v,hv,rfl⟩
  obtain⟨x,hx,ex⟩:=hx;refine⟨R7 ns t n f z (some (.lst (ak l),1)) (some (.int (Int.ofNat i),9)) none,R7 ns t n f z (some (.lst (ak (l++[x])),1)) (some (.int (Int.ofNat i),9)) none,by rw[zB];rfl,.inl ?_,l++[x],_,by rw[Qj,hl];rfl,λw hw=>?_,rfl⟩
  .rw[<- KH];exact qD rfl (bp (XJ (KI (bK (q:=9) rfl (bK (q:=9) rfl (bp (bh (ds:=[d7 ns,.int (t+Int.ofNat i),.int (Int.ofNat n)]) (bK (q:=0) rfl (bK (q:=9) rfl (bp (mi rfl lF)))) rfl ev)))) (by show 3<=1000;decide)) (bh (ds:=[d7 ns,.int (t+8+Int.ofNat i),.int (Int.ofNat 3)]) rfl rfl ek) ex)) rfl (by rw[iz];omega) rfl
  .rcases QI.mp hw with h|h
   .exact hm w h
   .rw[Qs.mp h];exact hx) ⟨[],none,rfl,(λ_ h=>nomatch h),rfl⟩
 rw[jm]at hl;have hg:∀ i,i<n->gv l i<n:=λi hi=>hm _ (CZ (by omega));refine⟨gv l,hg,?_⟩;obtain⟨ad,e2,y',rfl⟩:=ur (pt:=aH 5) (body:=Kj) (eE n) (λi ρ=>∃ y,ρ=R7 ns t n f z (some (.lst (ak l),1)) y (some (.lst (ak ((range i).map (bF.lr n f z (gv l)))),1))) (R7 ns t n f z (some (.lst (ak l),1)) y (some (.lst [],1))) (λi hi ρ ao=>by
  obtain⟨y,rfl⟩:=ao;have jX:i<n:=by rw[jm]at hi;exact hi
  have xw:(bF.low n f i).length<=1000:=by have:=Zj (λy=>decide (f y i=i)) (range n);rw[QR]at this;exact QF this hn
  have hb:s_ [bH n f,.int (Int.ofNat i)]=some (.lst (ak (bF.low n f i)),1):=XG hn jX;have hc:=jM (k:=1) (te:=aS 4 (aa 7)) (deep:=false) (ρ:=R7 ns t n f z (some (.lst (ak l),1)) (some (.int (Int.ofNat i),9)) (some (.lst (ak ((range i).map (bF.lr n f z (gv l)))),1))) (it:=cL (aE s_ 2 (af (aa 2) (af (aa 5) ai)))) (ds:=ak (bF.low n f i)) (ac:=R7 ns t n f z (some (.lst (ak l),1)) (some (.int (Int.ofNat i),9)) (some (.lst (ak ((range i).map (bF.lr n f z (gv l)))),1))) (XI (bh (ds:=[bH n f,.int (Int.ofNat i)]) rfl rfl hb) (by rw[iz];exact xw)) (UR (i:=7) (bF.low n f i) rfl (λy=>.int (Int.ofNat (gv l y))) (λ_=>9) (λy hy=>by have hyn:=(bF.e8.mp hy).1;have rZ:cS (.lst (ak l)) (Int.ofNat y)=some (.int (Int.ofNat (gv l y))):=zq (by omega);simp[-ofNat_eq_natCast,rZ]))
  rw[show((bF.low n f i).map λy=>D.int (Int.ofNat (gv l y)))=ak ((bF.low n f i).map (gv l))by simp[ak]]at hc;have hj:uG [bH n f,.lst (ak ((bF.low n f i).map (gv l)))]=some (.int (Int.ofNat (bF.lr n f z (gv l) i)),9):=XH L hz bz hn (by rw[Qg];exact xw) (bF.iT L hz bz hg);refine⟨R7 ns t n f z (some (.lst (ak l),1)) (some (.int (Int.ofNat i),9)) (some (.lst (ak ((range i).map (bF.lr n f z (gv l)))),1)),R7 ns t n f z (some (.lst (ak l),1)) (some (.int (Int.ofNat i),9)) (some (.lst (ak ((range (i+1)).map (bF.lr n f z (gv l)))),1)),by rw[zB];rfl,.inl ?_,_,rfl⟩;rw[YJ,QZ,List.map_singleton,<- KH];exact qD rfl (bp (bh (bK (q:=9) rfl (bp hc)) rfl hj)) rfl (by rw[iz,Qg,QR];omega) rfl) ⟨y,rfl⟩
 rw[jm]at e2;unfold uI Kl;refine dw ?_;show az _ _ [some (d7 ns,0),some (.int t,9),some (bH n f,9),none,none,none,none]=_;refine(aO (cW (bh (ds:=[bH n f]) rfl rfl (Dy L hz bz hn)) rfl)).trans ?_;refine(aO (ac:=R7 ns t n f z (some (.lst [],1)) none none) rfl).trans ?_;refine(aO ((kN (og hn (i:=2) rfl lF)).trans e)).trans ?_;refine(aO (ac:=R7 ns t n f z (some (.lst (ak l),1)) y (some (.lst [],1))) rfl).trans ?_;refine(aO ((kN (og hn (i:=2) rfl lF)).trans e2)).trans ?_;exact eF (jN (bp (q:=0) (ac:=R7 ns t n f z (some (.lst (ak l),1)) y' (some (.lst (ak ((range n).map (bF.lr n f z (gv l)))),0))) rfl))
end
def jb (n:Nat):D->Bool
 | .int i=>decide (0<=i)&&decide (i<(n:Int))
 | _=>false
theorem ml(d:D):kS [d]=(b9 (match d with|.int _=>true|_=>false)):=by unfold kS Ih;cases d<;>simp[o8]
theorem xx(n:Nat)(d:D):lL [d,iD n]=(b9 (jb n d)):=by
 unfold lL Ii;cases d with
 | int i=>
  have h:=ml (.int i);by_cases h0:0<=i
  .by_cases h1:i<(n:Int)
   .simp[h,jb,h0,h1]
   .simp[h,jb,h0,h1]
  .simp[h,jb,h0]
 | aF=>simp[ml,jb]
 | bl b=>simp[ml,jb]
 | str x=>simp[ml,jb]
 | tup ds=>simp[ml,jb]
 | lst ds=>simp[ml,jb]
 | gN ks ds=>simp[ml,jb]
 | exc nm=>simp[ml,jb]
 | ob f fo vs ds=>simp[ml,jb]
 | mp k ds=>simp[ml,jb]
section
variable {n:Nat}{f:Nat->Nat->Nat}
theorem XQ(hn:n<=1000)(v:Nat):qI [bH n f,.int (Int.ofNat v)]=some (iA n λ_=>v,9):=by
 unfold qI H9;have b1:(-1000:Int)<=n:=by omega
 have b2:(n:Int)<=1000:=by omega
 have e:(replicate n [D.int (Int.ofNat v)]).flatten=ak ((range n).map λ_=>v):=by simp[ak,Zd,YI]
 have e':(replicate n [D.int (v:Int)]).flatten=ak ((range n).map λ_=>v):=e;simp[lF,b1,b2,hn,iA,e']
end
theorem XR(ds:List D)(hi:ρ.length=i)(v:D->D)(q:D->Nat)
  (he:∀ d,d∈ds->te (ρ++[some (d,gj d)])=some (v d,q d,ρ++[some (d,gj d)])) :
  jI 1 (aH i) dC te false ds ρ=some (ds.map v,ρ):=by
 have h:=sN (k:=1) (pt:=aH i) (tt:=dC) (te:=te) (deep:=false) ds (λ_=>ρ) (λ_=>true) (λj=>v (ds.getD j .aF)) (λj hj=>?_)
 .rw[show(range ds.length).filter (λ_=>true)=range ds.length by simp]at h;rw[h];have e:(range ds.length).map (λj=>v (ds.getD j .aF))=ds.map v:=by
   apply Zi;intro k;by_cases hk:k<ds.length
   .simp[hk]
   .rw[QO (by simp;omega),QO (by simp;omega)]
  rw[e]
 .have hg:ds.getD j .aF=ds[j]:=by simp[hj]
  refine⟨ρ++[some (ds[j],gj ds[j])],_,?_,rfl,?_⟩
  .unfold aH;rw[Ql (by simp[hi])];subst hi;simp[-gj,YK]
  .rw[Ql rfl,hg];exact⟨q _,_,he _ (QS hj),by simp,by simp⟩
theorem XS{it:jZ}(hi:ρ.length=i)(hit:it ρ=some (ds,ρ))(b:D->Bool)(q:D->Nat)
  (he:∀ d,d∈ds->te (ρ++[some (d,gj d)])=some (.bl (b d),q d,ρ++[some (d,gj d)])) :
  eB ub (af (eO 1 it (aH i) dC te false) ai) ρ=some (.bl (ds.all b),9,ρ):=by refine US (bp (jM (deep:=false) hit (XR ds hi (λd=>.bl (b d)) q he))) ?_;simp only[ub,Rr,ZL];simp[List.all_map,Jt]
structure f9 where
 p:Nat
 W:List (Nat×Nat×(Nat->Nat))
 B:List (Nat×Nat)
def eH (n:Nat)(w:Nat×Nat×(Nat->Nat)):D:=.tup [iD w.1,iD w.2.1,iA n w.2.2]
def jP (b:Nat×Nat):D:=.tup [iD b.1,iD b.2]
def eT (n:Nat)(C:f9):D:=.tup [iD C.p,.tup (C.W.map (eH n)),.tup (C.B.map jP)]
abbrev c9 (n:Nat)(C:f9):OD:=some (eT n C,9)
def XT (n:Nat)(f:Nat->Nat->Nat)(p:Nat)(w:Nat×Nat×(Nat->Nat)):Prop:=w.1<p/\w.2.1<p/\(∀ i,i<n->w.2.2 i<n)/\∀ x y,x<n->y<n->f x y=y->f (w.2.2 x) (w.2.2 y)=w.2.2 y
def XU (n:Nat)(p:Nat)(b:Nat×Nat):Prop:=b.1<p/\b.2<n
structure f9.Ok (n:Nat) (f:Nat->Nat->Nat) (C:f9):Prop where
 p1:1<=C.p
 p8:C.p<=40
 nk:C.W.length<=60
 Dz:C.B.length<=60
 ws:∀ w∈C.W,XT n f C.p w
 bs:∀ b∈C.B,XU n C.p b
@[simp] theorem j1w{C:f9}:(eT n C).cO=false:=rfl
@[simp] theorem j5f{w:Nat×Nat×(Nat->Nat)}:(eH n w).cO=false:=rfl
@[simp] theorem j5c{b:Nat×Nat}:(jP b).cO=false:=rfl
theorem zC(hm:m<=1000){ad:aW}(h:fe ρ=some ((iD m),q,ad)):dW (af fe ai) ρ=some (eE m,ad):=by
 have b1:(-1000:Int)<=Int.ofNat m:=by show(-1000:Int)<=m;omega
 have b2:Int.ofNat m<=1000:=by show(m:Int)<=1000;omega
 simp only[dW,af,ai,h];rw[Ql ⟨b1,b2⟩];rfl
def jQ (b:Nat×Nat):lH:=(b.1,λ_=>b.2)
def oh (w:Nat×Nat×(Nat->Nat)):lH:=(w.2.1,λv=>w.2.2 (gv v w.1))
def fw (C:f9):List lH:=C.B.map jQ++C.W.map oh
section
variable {n:Nat}{f:Nat->Nat->Nat}(L:bF n f){C:f9}(hC:C.Ok n f)
include L hC
theorem uR:∀ s∈fw C,kP n C.p f s:=λs hs=>by
 unfold fw at hs;rcases QI.mp hs with h|h
 .obtain⟨b,hb,rfl⟩:=Qu.mp h;have k:=hC.bs b hb;exact⟨k.1,λ_ _=>k.2,λ_ _ _ _ _=>L.idem _ k.2⟩
 .obtain⟨w,hw,rfl⟩:=Qu.mp h;have k:=hC.ws w hw;exact⟨k.2.1,λv hv=>k.2.2.1 _ (hv.gv k.1),λu v hu hv e=>k.2.2.2 _ _ (hu.gv k.1) (hv.gv k.1) (e _ k.1)⟩
theorem KN(hv:Vn n C.p v):uE [bH n f,eT n C,.tup (ak v)]=(v9 ((fw C).foldl (cn f) v)):=by
 have hW:=hC.nk;have hB:=hC.Dz;obtain⟨j1,e1,XW⟩:=CY (J:=(OD×OD×OD×OD×OD×OD)) (pt:=eQ (bD (aH 3) (bD (aH 4) fG))) (body:=Dj) jP (λv a=>[t9 n f,c9 n C,uL v,(a).1,(a).2.1,(a).2.2.1,(a).2.2.2.1,(a).2.2.2.2.1,(a).2.2.2.2.2]) (λv b=>cn f v (jQ b)) (Vn n C.p) C.B v (none,none,none,none,none,none) hv (λb hb v a hv=>by
  have k:=hC.bs b hb;have ok:=uR L hC (jQ b) (Qx _ (Qu.mpr ⟨b,hb,rfl⟩));refine⟨L.gD ok hv,[t9 n f,c9 n C,uL v,((some ((iD b.1),9),some ((iD b.2),9),a.2.2)).1,((some ((iD b.1),9),some ((iD b.2),9),a.2.2)).2.1,((some ((iD b.1),9),some ((iD b.2),9),a.2.2)).2.2.1,((some ((iD b.1),9),some ((iD b.2),9),a.2.2)).2.2.2.1,((some ((iD b.1),9),some ((iD b.2),9),a.2.2)).2.2.2.2.1,((some ((iD b.1),9),some ((iD b.2),9),a.2.2)).2.2.2.2.2],(some ((iD b.1),9),some ((iD b.2),9),a.2.2),by simp[-ofNat_eq_natCast,jP],?_⟩;have hl:b.1<v.length:=by rw[hv.len];exact k.1
  have a1:=zq hl;have a2:=ux (f:=f) (hv.gv k.1);have a3:=wF (f:=f) (i:=gv v b.1) k.2;have a4:g8 (ak v).length (Int.ofNat b.1)=some b.1:=uv (by rw[iz];exact hl);have a5:=HL v b.1 (f (gv v b.1) b.2);unfold Dj cn jQ;simp[-ofNat_eq_natCast,a1,a2,a3,a4,a5])
 obtain⟨j2,mR,hv2⟩:=CY (J:=(OD×OD×OD×OD×OD×OD)) (pt:=eQ (bD (aH 5) (bD (aH 6) (bD (aH 7) fG)))) (body:=Di) (eH n) (λv a=>[t9 n f,c9 n C,uL v,(a).1,(a).2.1,(a).2.2.1,(a).2.2.2.1,(a).2.2.2.2.1,(a).2.2.2.2.2]) (λv w=>cn f v (oh w)) (Vn n C.p) C.W (C.B.foldl (λv b=>cn f v (jQ b)) v) j1 XW (λw hw v a hv=>by
  have k:=hC.ws w hw;have ok:=uR L hC (oh w) (Qm _ (Qu.mpr ⟨w,hw,rfl⟩));refine⟨L.gD ok hv,[t9 n f,c9 n C,uL v,((a.1,a.2.1,some ((iD w.1),9),some ((iD w.2.1),9),(r9 n w.2.2),a.2.2.2.2.2)).1,((a.1,a.2.1,some ((iD w.1),9),some ((iD w.2.1),9),(r9 n w.2.2),a.2.2.2.2.2)).2.1,((a.1,a.2.1,some ((iD w.1),9),some ((iD w.2.1),9),(r9 n w.2.2),a.2.2.2.2.2)).2.2.1,((a.1,a.2.1,some ((iD w.1),9),some ((iD w.2.1),9),(r9 n w.2.2),a.2.2.2.2.2)).2.2.2.1,((a.1,a.2.1,some ((iD w.1),9),some ((iD w.2.1),9),(r9 n w.2.2),a.2.2.2.2.2)).2.2.2.2.1,((a.1,a.2.1,some ((iD w.1),9),some ((iD w.2.1),9),(r9 n w.2.2),a.2.2.2.2.2)).2.2.2.2.2],(a.1,a.2.1,some ((iD w.1),9),some ((iD w.2.1),9),(r9 n w.2.2),some ((iD (w.2.2 (gv v w.1))),9)),by simp[-ofNat_eq_natCast,eH],?_⟩;have hl:w.2.1<v.length:=by rw[hv.len];exact k.2.1
  have XX:w.1<v.length:=by rw[hv.len];exact k.1
  have a0:=zq XX;have a1:=zq hl;have b0:=zm (r:=w.2.2) (hv.gv k.1);have a2:=ux (f:=f) (hv.gv k.2.1);have a3:=wF (f:=f) (i:=gv v w.2.1) (k.2.2.1 _ (hv.gv k.1));have a4:g8 (ak v).length (Int.ofNat w.2.1)=some w.2.1:=uv (by rw[iz];exact hl);have a5:=HL v w.2.1 (f (gv v w.2.1) (w.2.2 (gv v w.1)));unfold Di cn oh;simp[-ofNat_eq_natCast,a0,b0,a1,a2,a3,a4,a5])
 have ef:(fw C).foldl (cn f) v=C.W.foldl (λv w=>cn f v (oh w)) (C.B.foldl (λv b=>cn f v (jQ b)) v):=by unfold fw;rw[Ju,List.foldl_map,List.foldl_map]
 rw[ef];unfold uE IK;refine dw ?_;show az _ _ [t9 n f,c9 n C,v9 v,none,none,none,none,none,none]=_;refine(aO (ac:=[t9 n f,c9 n C,uL v,(((none,none,none,none,none,none):(OD×OD×OD×OD×OD×OD))).1,(((none,none,none,none,none,none):(OD×OD×OD×OD×OD×OD))).2.1,(((none,none,none,none,none,none):(OD×OD×OD×OD×OD×OD))).2.2.1,(((none,none,none,none,none,none):(OD×OD×OD×OD×OD×OD))).2.2.2.1,(((none,none,none,none,none,none):(OD×OD×OD×OD×OD×OD))).2.2.2.2.1,(((none,none,none,none,none,none):(OD×OD×OD×OD×OD×OD))).2.2.2.2.2]) (by simp)).trans ?_;refine(aO ((kN (ds:=C.B.map jP) (ac:=[t9 n f,c9 n C,uL v,(((none,none,none,none,none,none):(OD×OD×OD×OD×OD×OD))).1,(((none,none,none,none,none,none):(OD×OD×OD×OD×OD×OD))).2.1,(((none,none,none,none,none,none):(OD×OD×OD×OD×OD×OD))).2.2.1,(((none,none,none,none,none,none):(OD×OD×OD×OD×OD×OD))).2.2.2.1,(((none,none,none,none,none,none):(OD×OD×OD×OD×OD×OD))).2.2.2.2.1,(((none,none,none,none,none,none):(OD×OD×OD×OD×OD×OD))).2.2.2.2.2]) (by
  have h:cS (eT n C) 2=some (.tup (C.B.map jP)):=rfl;have XY:C.B.length<=1000:=by omega
  simp[h,XY])).trans e1)).trans ?_
 refine(aO ((kN (ds:=C.W.map (eH n)) (ac:=[t9 n f,c9 n C,uL (C.B.foldl (λv b=>cn f v (jQ b)) v),(j1).1,(j1).2.1,(j1).2.2.1,(j1).2.2.2.1,(j1).2.2.2.2.1,(j1).2.2.2.2.2]) (by
  have h:cS (eT n C) 1=some (.tup (C.W.map (eH n))):=rfl;have XZ:C.W.length<=1000:=by omega
  simp[h,XZ])).trans mR)).trans ?_
 simp
include L hC
structure DA (n:Nat) (f:Nat->Nat->Nat) (C:f9) (v u:List Nat):Prop where
 V:Vn n C.p u
 cl:mf f (fw C) u
 up:eG f C.p v u
 le:∀ a,Vn n C.p a->mf f (fw C) a->eG f C.p v a->eG f C.p u a
theorem KO(hv:Vn n C.p v):∃ u,DA n f C v u/\n6 [bH n f,eT n C,.tup (ak v)]=(v9 u):=by
 have hS:=uR L hC;have xy:=hC.p8;have DB:=L.hi;have xA:=bF.m9 (f:=f) hv;have DC:C.p*n<=40*16:=Jv xy DB;obtain⟨ad,e,u,hu,rfl⟩:=wL (c:=bf (e2 cD (aa 3) (aa 2))) (b:=Dk) (Q:=λρ=>∃ u,DA n f C v u/\ρ=[t9 n f,c9 n C,v9 u,v9 u])
  (λk ρ=>∃ w,Vn n C.p w/\eG f C.p v w/\(∀ a,Vn n C.p a->mf f (fw C) a->eG f C.p v a->eG f C.p w a)/\bF.mu n f w=k/\ρ=[t9 n f,c9 n C,v9 w,v9 ((fw C).foldl (cn f) w)])
  (k:=bF.mu n f v) (ρ:=[t9 n f,c9 n C,v9 v,v9 ((fw C).foldl (cn f) v)]) (by omega) ⟨v,hv,L.gC hv,λa ha _ h=>h,rfl,rfl⟩ (λk ρ ao=>by
   obtain⟨w,hw,h1,h2,h3,hr⟩:=ao;subst hr;have me:=L.gm hS hw;by_cases e:(fw C).foldl (cn f) w=w
   .refine .inl ⟨[t9 n f,c9 n C,v9 w,v9 w],?_,w,⟨hw,(L.dQ hS hw).mp e,h1,h2⟩,rfl⟩;rw[e];simp[zo]
   .refine .inr ⟨[t9 n f,c9 n C,v9 w,v9 ((fw C).foldl (cn f) w)],[t9 n f,c9 n C,v9 ((fw C).foldl (cn f) w),v9 ((fw C).foldl (cn f) ((fw C).foldl (cn f) w))],bF.mu n f ((fw C).foldl (cn f) w),?_,?_,?_,_,me,L.fJ hv hw me h1 (L.dM hS hw),λa ha ca X0=>L.dN ha hS hw ca (h2 a ha ca X0),rfl,rfl⟩
    .simp[zo,e]
    .have r:=KN L hC me;generalize (fw C).foldl (cn f) w=w' at *
     unfold Dk;simp[r]
    .rw[<- h3];exact L.kQ hw me (L.dM hS hw) (λz=>e z.symm))
 refine⟨u,hu,?_⟩;unfold n6 IL;refine dw ?_;show az _ _ [t9 n f,c9 n C,v9 v,none]=_;refine(aO (ac:=[t9 n f,c9 n C,v9 v,v9 ((fw C).foldl (cn f) v)]) (by simp[KN L hC hv])).trans ?_;refine(aO e).trans ?_;simp
end
abbrev Sn:=Bool×Nat
def bB (s:Sn):D:=.tup [.str (if s.1 then "begin" else "way"),iD s.2]
@[simp] theorem j3v{s:Sn}:(bB s).cO=false:=rfl
def okN (C:f9)(s:Sn):Prop:=s.2<(if s.1 then C.B.length else C.W.length)
def eI (C:f9)(s:Sn):lH:=if s.1 then jQ (C.B.getD s.2 (0,0))else oh (C.W.getD s.2 (0,0,id))
def oi (C:f9):List Sn:=(range C.B.length).map (λk=>(true,k))++(range C.W.length).map (λk=>(false,k))
theorem X1(C:f9):∀ s∈oi C,okN C s:=λs hs=>by
 unfold oi at hs;rcases QI.mp hs with h|h
 .obtain⟨k,hk,rfl⟩:=Qu.mp h;exact Q0.mp hk
 .obtain⟨k,hk,rfl⟩:=Qu.mp h;exact Q0.mp hk
theorem KP{α β:Type}(l:List α)(d:α)(g:α->β):(range l.length).map (λk=>g (l.getD k d))=l.map g:=by
 apply Zi;intro k;by_cases hk:k<l.length
 .simp[hk]
 .rw[QO (by simp;omega),QO (by simp;omega)]
theorem X2(C:f9):(oi C).map (eI C)=fw C:=by unfold oi fw;rw[QZ,QU,QU,<- KP C.B (0,0) jQ,<- KP C.W (0,0,id) oh];rfl
theorem DD{C:f9}{s:Sn}(h:okN C s):eI C s∈fw C:=by
 unfold okN at h;unfold eI fw;cases hb:s.1 with
 | true=>
  rw[hb]at h;have h':s.2<C.B.length:=h;refine Qx _ (Qu.mpr ⟨C.B.getD s.2 (0,0),?_,rfl⟩);rw[Qh,Qi h'];exact QS h'
 | false=>
  rw[hb]at h;have h':s.2<C.W.length:=h;refine Qm _ (Qu.mpr ⟨C.W.getD s.2 (0,0,id),?_,rfl⟩);rw[Qh,Qi h'];exact QS h'
theorem X3:dE (.str "begin") (.str "begin")=some (.bl true):=by
 have h:d5 (.str "begin")=true:=by decide +kernel
 unfold dE;rw[Ql ⟨h,h⟩];rfl
theorem X4:dE (.str "way") (.str "begin")=some (.bl false):=by
 have h:d5 (.str "begin")=true:=by decide +kernel
 have h':d5 (.str "way")=true:=by decide +kernel
 have e:nU (.str "way") (.str "begin")=false:=by decide +kernel
 unfold dE;rw[Ql ⟨h',h⟩,e]
theorem X5(hp:p<v.length):L3.l_ (ak v) none (some (Int.ofNat p))=ak (v.take p):=by
 unfold L3.l_;have e1:HT.bq (ak v).length 0 none=0:=rfl;have e2:HT.bq (ak v).length (ak v).length (some (Int.ofNat p))=p:=by
  rw[iz];have:¬ ((p:Int)<0):=by omega
  simp[HT.bq,this];omega
 rw[e1,e2,YX,Y6];simp only[ak,Yj]
theorem X6(hp:p<v.length):L3.l_ (ak v) (some (Int.ofNat p+1)) none=ak (v.drop (p+1)):=by
 unfold L3.l_;have e1:HT.bq (ak v).length 0 (some (Int.ofNat p+1))=p+1:=by
  rw[iz];have:¬ ((p:Int)+1<0):=by omega
  simp[HT.bq,this];omega
 have e2:HT.bq (ak v).length (ak v).length none=(ak v).length:=rfl;rw[e1,e2,YD (by rw[Z8];exact Qf _)];simp only[ak,List.map_drop]
theorem X7{x:Nat}(hp:p<v.length):ak (v.take p)++[iD x]++ak (v.drop (p+1))=ak (v.set p x):=by rw[List.set_eq_take_append_cons_drop,Ql hp];simp[ak]
section
variable {n:Nat}{f:Nat->Nat->Nat}(L:bF n f){C:f9}(hC:C.Ok n f)
include L hC
theorem X8(hv:Vn n C.p v){s:Sn}(hs:okN C s):w9 [eT n C,.tup (ak v),bB s]=some (.tup [.int (Int.ofNat (eI C s).1),iD ((eI C s).2 v)],9):=by
 obtain⟨b,k⟩:=s;unfold okN at hs;unfold w9 Io;have c1:cS (eT n C) 1=some (.tup (C.W.map (eH n))):=rfl;have c2:cS (eT n C) 2=some (.tup (C.B.map jP)):=rfl;cases b with
 | true=>
  have hk:k<C.B.length:=hs;have s0:cS (bB (true,k)) 0=some (.str "begin"):=rfl;have s1:cS (bB (true,k)) 1=some (iD k):=rfl;have e:cS (.tup (C.B.map jP)) (Int.ofNat k)=some (jP (C.B.getD k (0,0))):=wD (by rw[Qw,Qi hk];simp[hk]);have iI:eI C (true,k)=jQ (C.B.getD k (0,0)):=rfl;rw[iI];generalize C.B.getD k (0,0)=b at *
  generalize bB (true,k)=sd at *
  have hb:jP b=.tup [.int (Int.ofNat (jQ b).1),iD ((jQ b).2 v)]:=rfl;rw[<- hb];simp[-ofNat_eq_natCast,s0,s1,c2,e,X3]
 | false=>
  have hk:k<C.W.length:=hs;have s0:cS (bB (false,k)) 0=some (.str "way"):=rfl;have s1:cS (bB (false,k)) 1=some (iD k):=rfl;have e:cS (.tup (C.W.map (eH n))) (Int.ofNat k)=some (eH n (C.W.getD k (0,0,id))):=wD (by rw[Qw,Qi hk];simp[hk]);have iI:eI C (false,k)=oh (C.W.getD k (0,0,id)):=rfl;have hw:C.W.getD k (0,0,id)∈C.W:=by rw[Qh,Qi hk];exact QS hk
  have ok:=hC.ws _ hw;rw[iI];generalize C.W.getD k (0,0,id)=w at *
  have w0:cS (eH n w) 0=some (iD w.1):=rfl;have w1:cS (eH n w) 1=some (iD w.2.1):=rfl;have w2:cS (eH n w) 2=some (iA n w.2.2):=rfl;have a0:=C0 (v:=v) (i:=w.1) (by rw[hv.len];exact ok.1);have a1:=zm (r:=w.2.2) (hv.gv ok.1);have sF:bB (false,k)=bB (false,k):=rfl;generalize X9:bB (false,k)=sd at *
  have hL:sd.cO=false:=by rw[<- X9];rfl
  show _=some (D.tup [iD w.2.1,iD (w.2.2 (gv v w.1))],9);generalize X_:eH n w=wt at *
  have Y_:wt.cO=false:=by rw[<- X_];rfl
  simp[-ofNat_eq_natCast,s0,s1,c1,e,X4,w0,w1,w2,a0,a1,hL,Y_]
theorem Z_(hv:Vn n C.p v){s:Sn}(hs:okN C s):w_ [bH n f,eT n C,.tup (ak v),bB s]=(v9 (cn f v (eI C s))):=by
 have ok:=uR L hC _ (DD hs);have hp:=X8 L hC hv hs;have hx:=ok.lt v hv;have hg:=hv.gv ok.pl;have cB:(eI C s).1<v.length:=by rw[hv.len];exact ok.pl
 have xy:=hC.p8;have hl:=hv.len;unfold cn;generalize (eI C s).1=g at *
 generalize (eI C s).2 v=x at *
 have a0:=C0 cB;have a1:=ux (f:=f) hg;have a2:=wF (f:=f) (i:=gv v g) hx;have s1:=X5 cB;have s2:=X6 cB;have s3:=X7 (x:=f (gv v g) x) cB;have l1:(ak (v.take g)).length=g:=by rw[iz,Q7];omega
 have l2:(ak (v.drop (g+1))).length=v.length-(g+1):=by rw[iz,Z8]
 unfold w_ Iq;refine dw ?_;show az _ _ [t9 n f,c9 n C,v9 v,some (bB s,9),none,none,none]=_;refine(aO (ac:=[t9 n f,c9 n C,v9 v,some (bB s,9),some (.tup [iD g,iD x],9),none,none]) (by simp[-ofNat_eq_natCast,hp])).trans ?_;have t0:cS (.tup [iD g,iD x]) 0=some (iD g):=rfl;have t1:cS (.tup [iD g,iD x]) 1=some (iD x):=rfl;refine(aO (ac:=[t9 n f,c9 n C,v9 v,some (bB s,9),some (.tup [iD g,iD x],9),i9 g,none]) (by simp[-ofNat_eq_natCast,t0])).trans ?_;refine(aO (ac:=[t9 n f,c9 n C,v9 v,some (bB s,9),some (.tup [iD g,iD x],9),i9 g,i9 (f (gv v g) x)]) (by simp[-ofNat_eq_natCast,a0,a1,a2,t1])).trans ?_;rw[<- s3];have m1:(ak (v.take g)).length+1<=1000:=by omega
 have m2:(ak (v.take g)).length+1+(ak (v.drop (g+1))).length<=1000:=by omega
 generalize ak (v.take g)=u1 at *
 generalize ak (v.drop (g+1))=u2 at *
 have m1':u1.length<=999:=by omega
 simp[-ofNat_eq_natCast,s1,s2,m1,m1',m2]
structure nq (n:Nat) (f:Nat->Nat->Nat) (p:Nat) (l:List lH) (v u:List Nat):Prop where
 V:Vn n p u
 cl:mf f l u
 up:eG f p v u
 le:∀ a,Vn n p a->mf f l a->eG f p v a->eG f p u a
abbrev R8 (n:Nat)(f:Nat->Nat->Nat)(C:f9)(l:List Sn)(v:List Nat)(R:List D)(a x y:OD):aW:=[t9 n f,c9 n C,some (.lst (l.map bB),0),v9 v,some (.lst R,1),a,x,y]
theorem z57(hv:Vn n C.p v){l:List Sn}(hl:∀ s∈l,okN C s)(hlen:l.length<=1000) :
  ∃ (u:List Nat) (R:List D),nq n f C.p (l.map (eI C)) v u/\xa [bH n f,eT n C,.lst (l.map bB),.tup (ak v)]=some (.tup [.tup (ak u),.lst R],9):=by
 have xy:=hC.p8;have DB:=L.hi;have xA:=bF.m9 (f:=f) hv;have DC:C.p*n<=40*16:=Jv xy DB;have hS:∀ t∈l.map (eI C),kP n C.p f t:=λt ht=>by obtain⟨s,hs,rfl⟩:=Qu.mp ht;exact uR L hC _ (DD (hl s hs))
 have round:∀ (m:List Sn),(∀ s∈m,s∈l)->∀ (w:List Nat) (R:List D) (a x y:OD),Vn n C.p w->bF.mu n f w+R.length<=bF.mu n f v->
   ∃ R' x' y',bF.mu n f ((m.map (eI C)).foldl (cn f) w)+R'.length<=bF.mu n f v/\fZ (aH 6) C9 (m.map bB) (R8 n f C l w R a x y)=some (.nx (R8 n f C l ((m.map (eI C)).foldl (cn f) w) R' a x' y')):=by
  intro m;induction m with
  | nil=>intro _ w R a x y _ h;exact⟨R,x,y,h,rfl⟩
  | cons s m ih=>
   intro hm w R a x y hw h;have hs:=hl s (hm s Qc);have ok:=uR L hC _ (DD hs);have jY:=L.gD ok hw;have hb:=Z_ L hC hw hs;have hd:=zo (cn f w (eI C s)) w;have one:∃ R',bF.mu n f (cn f w (eI C s))+R'.length<=bF.mu n f v/\C9 (R8 n f C l w R a (some (bB s,9)) y)=some (.nx (R8 n f C l (cn f w (eI C s)) R' a (some (bB s,9)) ((v9 (cn f w (eI C s)))))):=by
    by_cases he:cn f w (eI C s)=w
    .rw[QC he]at hd;refine⟨R,by rw[he];exact h,(aO (cW (bh (ds:=[bH n f,eT n C,.tup (ak w),bB s]) rfl rfl hb) rfl)).trans ((aO ((jo (fu (cm (q:=9) (q':=9) rfl rfl hd))).trans rfl)).trans rfl)⟩
    .rw[QB he]at hd;have dA:=L.kQ hw jY (L.ke ok hw) (λz=>he z.symm);refine⟨R++[bB s],by rw[Qj];show _+(R.length+1)<=_;omega,(aO (cW (bh (ds:=[bH n f,eT n C,.tup (ak w),bB s]) rfl rfl hb) rfl)).trans ((aO ((lC (fu (cm (q:=9) (q':=9) rfl rfl hd))).trans (qD (d:=bB s) rfl (bp (q:=9) rfl) rfl (by omega) rfl))).trans rfl)⟩
   obtain⟨R1,h1,e1⟩:=one;obtain⟨R2,x2,y2,h2,e2⟩:=ih (λt ht=>hm t (Qb _ ht)) _ R1 a _ _ jY h1;refine⟨R2,x2,y2,h2,?_⟩;rw[Zf];unfold fZ;rw[show aH 6 (bB s) (R8 n f C l w R a x y)=some (R8 n f C l w R a (some (bB s,9)) y)from rfl];simp only[e1];exact e2
 obtain⟨ad,e,u,R,x,y,hu,rfl⟩:=wL (c:=bf (e2 cD (aa 3) (aa 5))) (b:=C_)
  (Q:=λρ=>∃ u R x y,nq n f C.p (l.map (eI C)) v u/\ρ=R8 n f C l u R ((v9 u)) x y)
  (λk ρ=>∃ w R x y a,Vn n C.p w/\eG f C.p v w/\(∀ x,Vn n C.p x->mf f (l.map (eI C)) x->eG f C.p v x->eG f C.p w x)/\bF.mu n f w+R.length<=bF.mu n f v /\
    ((a=.aF/\k=bF.mu n f w+1)\/∃ y,a=.tup (ak y)/\Vn n C.p y/\w=(l.map (eI C)).foldl (cn f) y/\k=bF.mu n f w+(if y=w then 0 else 1))/\ρ=R8 n f C l w R (some (a,9)) x y)
  (k:=bF.mu n f v+1) (ρ:=R8 n f C l v [] (some (.aF,9)) none none) (by omega) ⟨v,[],none,none,.aF,hv,L.gC hv,λx _ _ h=>h,Qf _,.inl ⟨rfl,rfl⟩,rfl⟩ (λk ρ ao=>by
   obtain⟨w,R,x,y,a,hw,h1,h2,h5,h6,rfl⟩:=ao;have me:=L.gm hS hw;have up:=L.dM hS hw;obtain⟨R',x',y',r3,r4⟩:=round l (λ_ h=>h) w R ((v9 w)) x y hw h5;have nx:C_ (R8 n f C l w R (some (a,9)) x y)=some (.nx (R8 n f C l ((l.map (eI C)).foldl (cn f) w) R' ((v9 w)) x' y')):=
    (aO (ac:=R8 n f C l w R ((v9 w)) x y) rfl).trans ((kN (ds:=l.map bB) (ac:=R8 n f C l w R ((v9 w)) x y) (Ql (by rw[Qg];exact hlen))).trans r4)
   have hk:(if w=(l.map (eI C)).foldl (cn f) w then 0 else 1)+bF.mu n f ((l.map (eI C)).foldl (cn f) w)<bF.mu n f w+1:=by
    by_cases he:w=(l.map (eI C)).foldl (cn f) w
    .rw[Ql he,<- he];omega
    .rw[Qt he];have:=L.kQ hw me up he;omega
   have key:(bf (e2 cD (aa 3) (aa 5)) (R8 n f C l w R (some (a,9)) x y)=some (true,R8 n f C l w R (some (a,9)) x y)/\bF.mu n f w+1<=k)\/(bf (e2 cD (aa 3) (aa 5)) (R8 n f C l w R (some (a,9)) x y)=some (false,R8 n f C l w R (some (a,9)) x y)/\a=.tup (ak w)/\w=(l.map (eI C)).foldl (cn f) w):=by
    rcases h6 with⟨rfl,KQ⟩|⟨y0,rfl,hy,DE,KQ⟩
    .have cG:cD (.tup (ak w)) .aF=some (.bl true):=by unfold cD;rw[Ql ⟨(pz w).ok,(Sh.aF (k:=0)).ok⟩];rfl
     exact .inl ⟨fu (cm (q:=9) (q':=9) rfl rfl cG),by omega⟩
    .have hd:=zo w y0;by_cases DF:w=y0
     .subst DF;rw[QC rfl]at hd;exact .inr ⟨fu (cm (q:=9) (q':=9) rfl rfl hd),rfl,DE⟩
     .rw[QB DF]at hd;rw[Qt λz=>DF z.symm]at KQ;exact .inl ⟨fu (cm (q:=9) (q':=9) rfl rfl hd),by omega⟩
   rcases key with⟨ht,uc⟩|⟨ht,rfl,DE⟩
   .exact .inr ⟨_,_,bF.mu n f ((l.map (eI C)).foldl (cn f) w)+(if w=(l.map (eI C)).foldl (cn f) w then 0 else 1),ht,nx,by omega,_,R',x',y',.tup (ak w),me,L.fJ hv hw me h1 up,λx hx cx hvx=>L.dN hx hS hw cx (h2 x hx cx hvx),r3,.inr ⟨w,rfl,hw,rfl,rfl⟩,rfl⟩
   .exact .inl ⟨_,ht,w,R,x,y,⟨hw,(L.dQ hS hw).mp DE.symm,h1,h2⟩,rfl⟩)
 refine⟨u,R,hu,?_⟩;unfold xa Ir;refine dw ?_;show az _ _ [t9 n f,c9 n C,some (.lst (l.map bB),0),v9 v,none,none,none,none]=_;exact(aO (ac:=[t9 n f,c9 n C,some (.lst (l.map bB),0),v9 v,some (.lst [],1),none,none,none]) rfl).trans ((aO (ac:=R8 n f C l v [] (some (.aF,9)) none none) rfl).trans ((aO e).trans rfl))
end
theorem dg1(a b:D):jL ["begin","way"] [a,b] "begin" = some a:=by unfold jL;rw[Ql rfl]
theorem dg2(a b:D):jL ["begin","way"] [a,b] "way" = some b:=by unfold jL;rw[Qt (by decide)];unfold jL;rw[Ql rfl]
section
variable {n:Nat}{f:Nat->Nat->Nat}{C:f9}
def DG (C:f9)(s:Sn):Bool:=decide (s.2<(if s.1 then C.B.length else C.W.length))
theorem z53{s:Sn}:DG C s=true ↔ okN C s:=decide_eq_true_iff
theorem KR(m k:Nat):jb m (iD k)=decide (k<m):=by show(decide ((0:Int)<=(k:Int))&&decide ((k:Int)<(m:Int)))=_;simp
theorem z2u(s:Sn):wZ [bB s,.gN ["begin","way"] [iD C.B.length,iD C.W.length]]=(b9 (DG C s)):=by
 obtain⟨b,k⟩:=s;have l2:cD (.int 2) (.int 2)=some (.bl false):=(UM _ _).trans (by simp);have n1:=λm=>xx m (iD k);have g1:=dg1 (iD C.B.length) (iD C.W.length);have g2:=dg2 (iD C.B.length) (iD C.W.length);have s0:∀ x:Str,cS (.tup [.str x,iD k]) 0=some (.str x):=λ_=>rfl;have s1:∀ x:Str,cS (.tup [.str x,iD k]) 1=some (iD k):=λ_=>rfl;have ll:∀ x:Str,gQ (.tup [.str x,iD k])=some 2:=λ_=>rfl;unfold wZ Ij;cases b with
 | true=>
  show bR _ _ [.tup [.str "begin",iD k],_]=(b9 (decide (k<C.B.length)));simp[-ofNat_eq_natCast,o8,ll,l2,s0,s1,g1,n1,KR]
 | false=>
  show bR _ _ [.tup [.str "way",iD k],_]=(b9 (decide (k<C.W.length)));simp[-ofNat_eq_natCast,o8,ll,l2,s0,s1,g2,n1,KR]
theorem y8t(s:Sn):qJ [eT n C,bB s]=(b9 (DG C s)):=by
 have h:=z2u (C:=C) s;unfold qJ Ik;have e1:qu 0 2 [c9 n C,some (bB s,9)]=some (Int.ofNat C.B.length):=by show some (Int.ofNat (C.B.map jP).length)=_;rw[Qg]
 have mR:qu 0 1 [c9 n C,some (bB s,9)]=some (Int.ofNat C.W.length):=by show some (Int.ofNat (C.W.map (eH n)).length)=_;rw[Qg]
 have ed:vX "begin" "way" (qu 0 2) (qu 0 1) [c9 n C,some (bB s,9)]=some (.gN ["begin","way"] [iD C.B.length,iD C.W.length],9,[c9 n C,some (bB s,9)]):=by unfold vX;rw[e1,mR]
 exact dw (eF (bh (bK (f:=aa 1) (d:=bB s) (q:=9) (ρ:=[c9 n C,some (bB s,9)]) (ac:=[c9 n C,some (bB s,9)]) rfl (bp ed)) rfl h))
theorem z1n{s:Sn}(hs:okN C s):qJ [eT n C,bB s]=(b9 true):=by rw[y8t,z53.mpr hs]
theorem x9x{l:List Sn}(hl:∀ s∈l,okN C s)(hlen:l.length<=1000):uC [eT n C,.lst (l.map bB)]=some (.aF,9):=by
 have hit:cL (aa 1) [c9 n C,some (.lst (l.map bB),0)]=some (l.map bB,[c9 n C,some (.lst (l.map bB),0)]):=by simp[hlen]
 have e:=XS (i:=2) (te:=aE qJ 2 (af (aa 0) (af (aa 2) ai))) (ρ:=[c9 n C,some (.lst (l.map bB),0)]) rfl hit (λ_=>true) (λ_=>9) (λd hd=>by obtain⟨s,hs,rfl⟩:=Qu.mp hd;simp[z1n (n:=n) (hl s hs)])
 have ea:(l.map bB).all (λ_=>true)=true:=by simp
 rw[ea]at e;unfold uC Il;show(match dn _ _ _ [c9 n C,some (.lst (l.map bB),0)]with|some (.rt d q)=>some (d,q)|some (.nx _)=>some (D.aF,9)|_=>none)=_;have ei:dn (iy (eA (eB ub (af (eO 1 (cL (aa 1)) (aH 2) dC (aE qJ 2 (af (aa 0) (af (aa 2) ai))) false) ai)))) vW d4 [c9 n C,some (.lst (l.map bB),0)]=some (.nx [c9 n C,some (.lst (l.map bB),0)]):=by refine(jo ?_).trans rfl;unfold iy eA;rw[e];rfl
 rw[ei]
theorem z6s:(oi C).length=C.B.length+C.W.length:=by simp[oi]
theorem y7l(hB:C.B.length<=60)(hW:C.W.length<=60):xh [eT n C]=some (.lst ((oi C).map bB),1):=by
 unfold xh Iy;refine dw ?_;show az _ _ [c9 n C,none]=_;have c1:cS (eT n C) 1=some (.tup (C.W.map (eH n))):=rfl;have c2:cS (eT n C) 2=some (.tup (C.B.map jP)):=rfl;have lB:gQ (.tup (C.B.map jP))=some C.B.length:=by simp[gQ]
 have lW:gQ (.tup (C.W.map (eH n)))=some C.W.length:=by simp[gQ]
 have h1:=jM (k:=1) (tt:=dC) (te:=bS (af (eC (.str "begin")) (af (aa 2) ai))) (deep:=false) (zC (m:=C.B.length) (by omega) (fe:=eB qk (af (aS 0 (eC (.int 2))) ai)) (ρ:=[c9 n C,none]) (ad:=[c9 n C,none]) (q:=9) (by simp[-ofNat_eq_natCast,c2,lB])) (wI (i:=2) rfl (λ_=>true) (λk=>bB (true,k)) (λ_=>9) (λk hk=>rfl) (λk hk _=>by simp[-ofNat_eq_natCast,bB]));rw[show(range C.B.length).filter (λ_=>true)=range C.B.length by simp]at h1;refine(aO (ac:=[c9 n C,some (.lst ((range C.B.length).map λk=>bB (true,k)),1)]) (cW h1 rfl)).trans ?_;have h2:=jM (k:=1) (tt:=dC) (te:=bS (af (eC (.str "way")) (af (aa 2) ai))) (deep:=false) (zC (m:=C.W.length) (by omega) (fe:=eB qk (af (aS 0 (eC (.int 1))) ai)) (ρ:=[c9 n C,some (.lst ((range C.B.length).map λk=>bB (true,k)),0)]) (ad:=[c9 n C,some (.lst ((range C.B.length).map λk=>bB (true,k)),0)]) (q:=9) (by simp[-ofNat_eq_natCast,c1,lW])) (wI (i:=2) rfl (λ_=>true) (λk=>bB (false,k)) (λ_=>9) (λk hk=>rfl) (λk hk _=>by simp[-ofNat_eq_natCast,bB]));rw[show(range C.W.length).filter (λ_=>true)=range C.W.length by simp]at h2;have ea:(oi C).map bB=((range C.B.length).map λk=>bB (true,k))++((range C.W.length).map λk=>bB (false,k)):=by unfold oi;rw[QZ,QU,QU];rfl
 rw[ea];refine eF (ac:=[c9 n C,some (.lst ((range C.B.length).map λk=>bB (true,k)),0)]) ?_;have v1:aa 1 [c9 n C,some (.lst ((range C.B.length).map λk=>bB (true,k)),1)]=some (.lst ((range C.B.length).map λk=>bB (true,k)),0,[c9 n C,some (.lst ((range C.B.length).map λk=>bB (true,k)),0)]):=rfl;unfold o_;rw[v1];have hl:((range C.B.length).map λk=>bB (true,k)).length+((range C.W.length).map λk=>bB (false,k)).length<=1000:=by rw[Qg,Qg,QR,QR];omega
 generalize ((range C.B.length).map λk=>bB (true,k))=x at *
 generalize ((range C.W.length).map λk=>bB (false,k))=y at *
 rw[Qt (by decide)]at h2;simp only[h2,Ql hl]
end
section
variable {n:Nat}{f:Nat->Nat->Nat}(L:bF n f){z:Nat}(hz:z<n)(bz:∀ j,j<n->f z j=j){C:f9}(hC:C.Ok n f)
def gS (p z:Nat):List Nat:=replicate p z
theorem j0k{v:Nat}(ha:fa ρ=some (.lst [iD v],1,ac))(hb:fb ac=some ((iD m),q,am))(hm:m<=1000):l7 fa fb ρ=some (.lst (ak (gS m v)),1,am):=by
 have e:(replicate m [iD v]).flatten=ak (gS m v):=by simp[ak,gS,Zd]
 unfold l7;rw[ha];simp only[hb];rw[Ql ⟨by show(-1000:Int)<=(m:Int);omega,by show(m:Int)<=1000;omega,by show 1*m<=1000;omega⟩,<- e];rfl
theorem zD(hz:z<n):Vn n p (gS p z):=⟨by simp[gS],λx hx=>by rw[(List.mem_replicate.mp hx).2];exact hz⟩
theorem zE(hi:i<p):gv (gS p z) i=z:=by unfold gv gS;simp[hi]
theorem DH(bz:∀ j,j<n->f z j=j)(hv:Vn n p v):eG f p (gS p z) v:=λi hi=>by rw[zE hi];exact bz _ (hv.gv hi)
include L hz bz hC
theorem z25:xf [bH n f,eT n C]=(v9 (gS C.p z)):=by have hn:n<=1000:=QF L.hi (by decide);have xy:=hC.p8;unfold xf Iu;exact dw (eF (jN (bp (j0k (q:=9) (ρ:=[t9 n f,c9 n C]) (KI (bp (bh (ds:=[bH n f]) rfl rfl (KG L hz bz hn))) (by show 1<=1000;decide)) rfl (by omega)))))
theorem y7w{l:List Sn}(hl:∀ s∈l,okN C s)(hlen:l.length<=1000) :
  ∃ (u:List Nat) (k:D),nq n f C.p (l.map (eI C)) (gS C.p z) u/\xg [bH n f,eT n C,.lst (l.map bB)]=some (.tup [.tup (ak u),k],9):=by
 obtain⟨u,R,h1,e⟩:=z57 L hC (zD (p:=C.p) hz) hl hlen;refine⟨u,iD R.length,h1,?_⟩;have r0:=x9x (n:=n) hl hlen;have r1:=z25 L hz bz hC;unfold xg Iv;have e0:dB (aE uC 2 (af (aa 1) (af (aa 2) ai))) [t9 n f,c9 n C,some (.lst (l.map bB),0),none]=some (.nx [t9 n f,c9 n C,some (.lst (l.map bB),0),none]):=by unfold dB;rw[bh (n:=2) (ds:=[eT n C,.lst (l.map bB)]) (bK (q:=9) rfl (bp (jO rfl))) rfl r0];rfl
 exact dw ((aO e0).trans ((aO (cW (bh (ds:=[bH n f,eT n C,.lst (l.map bB),.tup (ak (gS C.p z))]) (bK (q:=9) rfl (bK (q:=9) rfl (bK (jO rfl) (bp (bh (ds:=[bH n f,eT n C]) rfl rfl r1))))) rfl e) rfl)).trans rfl))
theorem y90:∃ u,nq n f C.p (fw C) (gS C.p z) u/\ng [bH n f,eT n C]=(v9 u):=by have hB:=hC.Dz;have hW:=hC.nk;obtain⟨u,k,h1,e⟩:=y7w L hz bz hC (X1 C) (by rw[z6s];omega);rw[X2]at h1;refine⟨u,h1,?_⟩;unfold ng IB;exact dw (eF (qQ (bh (ds:=[bH n f,eT n C,.lst ((oi C).map bB)]) (bK (q:=9) rfl (bK (q:=9) rfl (bp (bh (ds:=[eT n C]) rfl rfl (y7l (n:=n) hB hW))))) rfl e) rfl rfl rfl rfl))
end
theorem tm{α:Type}{k:Nat}{pt:fE}{tt:cI}(enc:α->D)(ext:α->aW)(b:α->Bool)(v:α->D)(q:α->Nat):∀ l:List α,
  (∀ x∈l,pt (enc x) (ρ++replicate k none)=some (ρ++ext x)/\tt (ρ++ext x)=some (b x,ρ++ext x)/\(b x=true->te (ρ++ext x)=some (v x,q x,ρ++ext x)))->jI k pt tt te false (l.map enc) ρ=some ((l.filter b).map v,ρ)
 | [],_=>rfl
 | x::l,h=>by
  obtain⟨h1,h2,h3⟩:=h x Qc;have ih:=tm enc ext b v q l (λy m=>h y (Qb _ m));have ht:(ρ++ext x).take ρ.length=ρ:=by simp
  rw[Zf];unfold jI;rw[h1];simp only[h2];cases hb:b x with
  | true=>
   simp only[Z7,h3 hb,ht,ih];rw[Za hb];simp
  | false=>
   simp only[ht,ih];rw[Zr (by rw[hb];simp)];simp
theorem km{g:bP}(h:g ρ=some (ds,ac))(hl:ds.length<=1000):bS g ρ=some (.tup ds,9,ac):=by unfold bS;rw[h];exact Ql hl
theorem zG{α J:Type}{pt:fE}(enc:α->D)(S:List D->J->aW)(v:α->D):∀ (l:List α) (acc:List D) (j:J),acc.length+l.length<=1000->
  (∀ a∈l,∀ ds j,ds.length<=1000->∃ ac j',pt (enc a) (S ds j)=some ac/\body ac=some (.nx (S (ds++[v a]) j')))->∃ j',fZ pt body (l.map enc) (S acc j)=some (.nx (S (acc++l.map v) j'))
 | [],acc,j,_,_=>⟨j,by rw[ZU,ZU,Q5];rfl⟩
 | a::l,acc,j,hl,h=>by rw[QN]at hl;obtain⟨ac,j1,h1,h2⟩:=h a Qc acc j (by omega);obtain⟨j2,e⟩:=zG enc S v l (acc++[v a]) j1 (by rw[Qj];show _+1+_<=1000;omega) λb hb=>h b (Qb _ hb);refine⟨j2,?_⟩;rw[Zf,wK h1 h2,e,QW];rfl
theorem DI{α β J:Type}{pt:fE}(enc:α->D)(S:List D->J->aW)(dec:β->D)(good:β->Prop):∀ (l:List α) (acc:List D) (j:J),acc.length+l.length<=1000->
  (∀ a∈l,∀ ds j,ds.length<=1000->∃ ac j' x,good x/\pt (enc a) (S ds j)=some ac/\body ac=some (.nx (S (ds++[dec x]) j')))->∃ (xs:List β) (j':J),xs.length=l.length/\(∀ x∈xs,good x)/\fZ pt body (l.map enc) (S acc j)=some (.nx (S (acc++xs.map dec) j'))
 | [],acc,j,_,_=>⟨[],j,rfl,(λ_ h=>nomatch h),by rw[ZU,ZU,Q5];rfl⟩
 | a::l,acc,j,hl,h=>by
  rw[QN]at hl;obtain⟨ac,j1,x,hx,h1,h2⟩:=h a Qc acc j (by omega);obtain⟨xs,j2,l2,g2,e⟩:=DI enc S dec good l (acc++[dec x]) j1 (by rw[Qj];show _+1+_<=1000;omega) λb hb=>h b (Qb _ hb);refine⟨x::xs,j2,by rw[QN,QN,l2],λy hy=>?_,?_⟩
  .rcases Qr.mp hy with rfl|hy
   .exact hx
   .exact g2 y hy
  .rw[Zf,wK h1 h2,e,QW];rfl
abbrev Led:=Nat ⊕ (Nat->Nat)
structure Hs where
 p:Nat
 W:List (Nat×Nat×Led)
def zH:Led->Bool
 | .inl _=>true
 | .inr _=>false
def cY (n:Nat):Led->D
 | .inl j=>(iD j)
 | .inr r=>iA n r
def cq (n:Nat)(w:Nat×Nat×Led):D:=.tup [iD w.1,iD w.2.1,cY n w.2.2]
def bj (n:Nat)(H:Hs):D:=.tup [iD H.p,.tup (H.W.map (cq n))]
def aD (n:Nat)(P:List Hs):D:=.tup (P.map (bj n))
def mm (n:Nat)(f:Nat->Nat->Nat)(h:Nat):Led->Prop
 | .inl j=>j<h
 | .inr r=>(∀ i,i<n->r i<n)/\∀ x y,x<n->y<n->f x y=y->f (r x) (r y)=r y
structure Hs.Ok (n:Nat) (f:Nat->Nat->Nat) (h:Nat) (H:Hs):Prop where
 p1:1<=H.p
 p8:H.p<=8
 nk:H.W.length<=60
 ws:∀ w∈H.W,w.1<H.p/\w.2.1<H.p/\mm n f h w.2.2
@[simp] theorem xB{x:Led}:(cY n x).cO=false:=by cases x<;>rfl
@[simp] theorem j1y{H:Hs}:(bj n H).cO=false:=rfl
@[simp] theorem j2x{P:List Hs}:(aD n P).cO=false:=rfl
theorem z6u{x:Led}:gj (cY n x)=9:=by unfold gj;rw[xB];rfl
def f_ (r:List Nat):D:=.tup (ak r)
def a_ (V:List (List Nat)):D:=.tup (V.map f_)
@[simp] theorem j22{V:List (List Nat)}:(a_ V).cO=false:=rfl
theorem z48{r:List Nat}(h:r.length=n):f_ r=iA n (gv r):=by unfold f_ iA;rw[<- h,<- UW r]
structure nr (n:Nat) (f:Nat->Nat->Nat) (r:List Nat):Prop where
 V:Vn n n r
 m:∀ x y,x<n->y<n->f x y=y->f (gv r x) (gv r y)=gv r y
structure e_ (n:Nat) (f:Nat->Nat->Nat) (h:Nat) (V:List (List Nat)):Prop where
 len:V.length=h
 row:∀ r∈V,nr n f r
def pG (f:Nat->Nat->Nat)(n:Nat)(V W:List (List Nat)):Prop:=∀ j,j<V.length->eG f n (V.getD j []) (W.getD j [])
def lM (V:List (List Nat)):Led->Nat->Nat
 | .inl j=>gv (V.getD j [])
 | .inr r=>r
def fy (V:List (List Nat))(H:Hs)(w:Nat):f9:=⟨H.p,H.W.map λa=>(a.1,a.2.1,lM V a.2.2),[(0,w)]⟩
theorem e_.at{V:List (List Nat)}(o:e_ n f h V)(hj:j<h):nr n f (V.getD j []):=by
 have iR:j<V.length:=by rw[o.len];exact hj
 refine o.row _ ?_;rw[Qh,Qi iR];exact QS iR
theorem e_.get{V:List (List Nat)}(o:e_ n f h V)(hj:j<h):cS (a_ V) (Int.ofNat j)=some (iA n (gv (V.getD j []))):=by
 have iR:j<V.length:=by rw[o.len];exact hj
 show L2.dz (V.map f_) (Int.ofNat j)=_;refine EV ?_;rw[Qw,Qi iR,<- z48 (o.at hj).V.len,Qh,Qi iR];rfl
theorem lN{V:List (List Nat)}(o:e_ n f h V){H:Hs}(hH:H.Ok n f h){w:Nat}(hw:w<n):(fy V H w).Ok n f where
 p1:=hH.p1
 p8:=QF hH.p8 (by decide)
 nk:=by show(H.W.map _).length<=60;rw[Qg];exact hH.nk
 Dz:=by show 1<=60;decide
 ws:=λa ha=>by
  obtain⟨b,hb,rfl⟩:=Qu.mp ha;obtain⟨h1,h2,h3⟩:=hH.ws b hb;refine⟨h1,h2,?_⟩;show(∀ i,i<n->lM V b.2.2 i<n)/\∀ x y,x<n->y<n->f x y=y->f (lM V b.2.2 x) (lM V b.2.2 y)=lM V b.2.2 y;cases ze:b.2.2 with
  | inl j=>
   rw[ze]at h3;have r:=o.at (show j<h from h3);exact⟨λi hi=>r.V.gv hi,r.m⟩
  | inr r=>
   rw[ze]at h3;exact h3
 bs:=λb hb=>by have:b=(0,w):=Qs.mp hb;subst this;exact⟨hH.p1,hw⟩
theorem KS{V:List (List Nat)}(o:e_ n f h V){x:Led}(hx:mm n f h x){c:cI}(hc:c ρ=some (zH x,ρ))(hi:ρ[i]? = some (some (a_ V,9)))(hj:ρ[j]? = some (some (cY n x,9))) :
  lV c (aS i (aa j)) (aa j) ρ=some (iA n (lM V x),9,ρ):=by
 unfold lV;rw[hc];cases x with
 | inl k=>exact qP (uQ hj rfl) hi (o.get (show k<h from hx)) rfl
 | inr r=>exact uQ hj rfl
theorem KU{V:List (List Nat)}(o:e_ n f h V){H:Hs}(hH:H.Ok n f h){w:Nat}:qK [bj n H,a_ V,iD w]=(c9 n (fy V H w)):=by
 have KW:=hH.nk;unfold qK IC;refine dw ?_;show az _ _ [some (bj n H,9),some (a_ V,9),i9 w,none]=_;have i1:cL (aS 0 (eC (.int 1))) [some (bj n H,9),some (a_ V,9),i9 w,none]=some (H.W.map (cq n),[some (bj n H,9),some (a_ V,9),i9 w,none]):=by have e:aS 0 (eC (.int 1)) [some (bj n H,9),some (a_ V,9),i9 w,none]=some (.tup (H.W.map (cq n)),9,[some (bj n H,9),some (a_ V,9),i9 w,none]):=rfl;unfold cL;rw[e];simp only[Qg];rw[Ql (by omega)]
 have c1:=jM (k:=3) (tt:=dC) (te:=bS (af (aa 4) (af (aa 5) (af (lV (eA (aE kS 1 (af (aa 6) ai))) (aS 1 (aa 6)) (aa 6)) ai)))) (deep:=false) (pt:=eQ (bD (aH 4) (bD (aH 5) (bD (aH 6) fG)))) i1 (tm (cq n) (λa=>[i9 a.1,i9 a.2.1,some (cY n a.2.2,9)]) (λ_=>true) (λa=>eH n (a.1,a.2.1,lM V a.2.2)) (λ_=>9) H.W (λa ha=>⟨by show eQ _ (D.tup [iD a.1,iD a.2.1,cY n a.2.2]) _=_;have:=z6u (n:=n) (x:=a.2.2);cases hx:a.2.2<;>rfl,rfl,λ_=>by
  obtain⟨_,_,hx⟩:=hH.ws a ha;have e:=KS (i:=1) (j:=6) (ρ:=[some (bj n H,9),some (a_ V,9),i9 w,none]++[i9 a.1,i9 a.2.1,some (cY n a.2.2,9)]) (c:=eA (aE kS 1 (af (aa 6) ai))) o hx (by have e1:=ml (cY n a.2.2);have v6:aa 6 ([some (bj n H,9),some (a_ V,9),i9 w,none]++[i9 a.1,i9 a.2.1,some (cY n a.2.2,9)])=some (cY n a.2.2,9,[some (bj n H,9),some (a_ V,9),i9 w,none]++[i9 a.1,i9 a.2.1,some (cY n a.2.2,9)]):=uQ rfl xB;refine qO (q:=9) ((bh (bp v6) rfl e1).trans ?_);cases a.2.2<;>rfl) rfl rfl
  exact km (bK (f:=aa 4) (q:=9) rfl (bK (f:=aa 5) (q:=9) rfl (bp e))) (show 3<=1000 by decide)⟩))
 have e1:(H.W.filter λ_=>true).map (λa=>eH n (a.1,a.2.1,lM V a.2.2))=(fy V H w).W.map (eH n):=by show _=(H.W.map _).map (eH n);rw[QU,Jc.mpr λ_ _=>rfl];rfl
 rw[e1]at c1;refine(aO (ac:=[some (bj n H,9),some (a_ V,9),i9 w,some (.lst ((fy V H w).W.map (eH n)),1)]) (cW c1 rfl)).trans ?_;exact eF (km (bK (f:=aS 0 (eC (.int 0))) (q:=9) rfl (bK (jN (bp (jO (i:=3) (q:=1) (ds:=(fy V H w).W.map (eH n)) rfl))) (bp (f:=bS (af (bS (af (eC (.int 0)) (af (aa 2) ai))) ai)) (d:=.tup [jP (0,w)]) (q:=9) rfl))) (show 3<=1000 by decide))
theorem y55{V:List (List Nat)}(o:e_ n f h V){H:Hs}(hH:H.Ok n f h){w:Nat}:sZ [bj n H,a_ V,iD w]=(c9 n (fy V H w)):=by
 have KW:=hH.nk;unfold sZ Kd;refine dw ?_;show az _ _ [some (bj n H,9),some (a_ V,9),i9 w,none,none,none,none]=_;refine(aO (ac:=[some (bj n H,9),some (a_ V,9),i9 w,some (.lst ([]),1),none,none,none]) rfl).trans ?_;have i1:cL (aS 0 (eC (.int 1))) [some (bj n H,9),some (a_ V,9),i9 w,some (.lst ([]),1),none,none,none]=some (H.W.map (cq n),[some (bj n H,9),some (a_ V,9),i9 w,some (.lst ([]),1),none,none,none]):=by have e:aS 0 (eC (.int 1)) [some (bj n H,9),some (a_ V,9),i9 w,some (.lst ([]),1),none,none,none]=some (.tup (H.W.map (cq n)),9,[some (bj n H,9),some (a_ V,9),i9 w,some (.lst ([]),1),none,none,none]):=rfl;unfold cL;rw[e];simp only[Qg];rw[Ql (by omega)]
 obtain⟨j,e⟩:=zG (J:=OD×OD×OD) (pt:=eQ (bD (aH 4) (bD (aH 5) (bD (aH 6) fG)))) (body:=Ds) (cq n) (λl j=>[some (bj n H,9),some (a_ V,9),i9 w,some (.lst (l),1),j.1,j.2.1,j.2.2]) (λa=>eH n (a.1,a.2.1,lM V a.2.2)) H.W [] (none,none,none) (by show 0+_<=1000;omega) (λa ha l j hl=>by
  obtain⟨_,_,hx⟩:=hH.ws a ha;have er:=KS (i:=1) (j:=6) (ρ:=[some (bj n H,9),some (a_ V,9),i9 w,some (.lst (l),1),i9 a.1,i9 a.2.1,some (cY n a.2.2,9)]) (c:=eA (mQ .int (aa 6))) o hx (by clear hx;cases a.2.2<;>rfl) rfl rfl
  refine⟨[some (bj n H,9),some (a_ V,9),i9 w,some (.lst (l),1),i9 a.1,i9 a.2.1,some (cY n a.2.2,9)],((i9 a.1),(i9 a.2.1),some (cY n a.2.2,9)),?_,?_⟩
  .show eQ _ (D.tup [iD a.1,iD a.2.1,cY n a.2.2]) _=_;cases hx:a.2.2<;>rfl
  .unfold Ds;exact qD (ds:=l) rfl (bp (km (bK (f:=aa 4) (q:=9) rfl (bK (f:=aa 5) (q:=9) rfl (bp er))) (show 3<=1000 by decide))) rfl hl rfl)
 have e1:[]++H.W.map (λa=>eH n (a.1,a.2.1,lM V a.2.2))=(fy V H w).W.map (eH n):=by show _=(H.W.map _).map (eH n);rw[QU];rfl
 rw[e1]at e;refine(aO ((kN i1).trans e)).trans ?_;exact eF (km (bK (f:=aS 0 (eC (.int 0))) (q:=9) rfl (bK (jN (bp (jO (i:=3) (q:=1) (ds:=(fy V H w).W.map (eH n)) rfl))) (bp (f:=bS (af (bS (af (eC (.int 0)) (af (aa 2) ai))) ai)) (d:=.tup [jP (0,w)]) (q:=9) rfl))) (show 3<=1000 by decide))
theorem j26(h:0<u.length):cS (.tup (ak u)) (-1)=some (iD (gv u (u.length-1))):=by
 have cG:u ≠ []:=λz=>by rw[z]at h;cases h
 have e:u=u.dropLast++[u.getLast cG]:=(List.dropLast_concat_getLast cG).symm;have e2:gv u (u.length-1)=u.getLast cG:=by unfold gv;rw[Qh,Qi (by omega),<- List.getLast_eq_getElem cG];rfl
 have e3:ak u=ak u.dropLast++[iD (u.getLast cG)]:=by have:=ZR ak e;rw[this];simp[ak]
 rw[e2];show L2.dz (ak u) (-1)=_;rw[e3];have hi:g8 ((ak u.dropLast++[iD (u.getLast cG)]).length) (-1)=some (ak u.dropLast).length:=by rw[Qj];unfold g8;simp;omega
 unfold L2.dz;rw[hi];simp
def iC (n:Nat)(f:Nat->Nat->Nat)(C:f9):List Nat:=match ng [bH n f,eT n C]with
 | some (.tup ds,_)=>ds.map λd=>match d with|.int i=>i.toNat|_=>0
 | _=>[]
theorem j32{C:f9}(h:ng [bH n f,eT n C]=some (.tup (ak u),q)):iC n f C=u:=by unfold iC;rw[h];show(ak u).map _=u;simp[ak,Jt]
def jR (n:Nat)(f:Nat->Nat->Nat)(V:List (List Nat))(H:Hs):List Nat:=(range n).map λw=>gv (iC n f (fy V H w)) (H.p-1)
def nx (n:Nat)(f:Nat->Nat->Nat)(P:List Hs)(V:List (List Nat)):List (List Nat):=P.map (jR n f V)
section
variable {n:Nat}{f:Nat->Nat->Nat}(L:bF n f){z:Nat}(hz:z<n)(bz:∀ j,j<n->f z j=j)
include L hz bz
theorem nu{C:f9}(hC:C.Ok n f):nq n f C.p (fw C) (gS C.p z) (iC n f C)/\ng [bH n f,eT n C]=(v9 (iC n f C)):=by obtain⟨u,h1,h2⟩:=y90 L hz bz hC;rw[j32 h2];exact⟨h1,h2⟩
theorem DJ{C:f9}(hC:C.Ok n f){a:List Nat}(ha:Vn n C.p a)(cl:mf f (fw C) a):eG f C.p (iC n f C) a:=(nu L hz bz hC).1.le a ha cl (DH bz ha)
theorem qR{V:List (List Nat)}{H:Hs}{w:Nat}:mf f (fw (fy V H w)) v ↔ f w (gv v 0)=gv v 0/\∀ a∈H.W,f (lM V a.2.2 (gv v a.1)) (gv v a.2.1)=gv v a.2.1:=by
 constructor
 .intro h;refine⟨h (jQ (0,w)) (Qx _ (Qs.mpr rfl)),λa ha=>?_⟩;exact h (oh (a.1,a.2.1,lM V a.2.2)) (Qm _ (Jd (Jd (f:=λa:Nat×Nat×Led=>(a.1,a.2.1,lM V a.2.2)) ha)))
 .intro h s hs;rcases QI.mp hs with m|m
  .have:s=jQ (0,w):=Qs.mp m;subst this;exact h.1
  .obtain⟨b,hb,rfl⟩:=Qu.mp m;obtain⟨a,ha,rfl⟩:=Qu.mp hb;exact h.2 a ha
variable {h:Nat}{P:List Hs}(hP:∀ H∈P,H.Ok n f h)(hl:P.length=h)
theorem xC{V:List (List Nat)}{H:Hs}{w:Nat}(hw:w<n):gv (jR n f V H) w=gv (iC n f (fy V H w)) (H.p-1):=C2 _ hw
include hP hl
theorem j4i{V:List (List Nat)}(o:e_ n f h V){H:Hs}(hH:H.Ok n f h):nr n f (jR n f V H):=by
 have p1:=hH.p1;refine⟨⟨by unfold jR;rw[Qg,QR],λx hx=>?_⟩,λx y hx hy e=>?_⟩
 .obtain⟨w,hw,rfl⟩:=Qu.mp hx;exact(nu L hz bz (lN o hH (Q0.mp hw))).1.V.gv (show H.p-1<H.p by omega)
 .rw[xC L hz bz hx,xC L hz bz hy];have ox:=nu L hz bz (lN o hH hx);have oy:=nu L hz bz (lN o hH hy);have c:=(qR L hz bz).mp oy.1.cl;refine DJ L hz bz (lN o hH hx) oy.1.V ((qR L hz bz).mpr ⟨?_,c.2⟩) (H.p-1) (show H.p-1<H.p by omega);exact L.le_trans hx hy (oy.1.V.gv (show 0<H.p by omega)) e c.1
theorem zI{V:List (List Nat)}(o:e_ n f h V):e_ n f h (nx n f P V):=⟨by unfold nx;rw[Qg];exact hl,λr hr=>by obtain⟨H,hH,rfl⟩:=Qu.mp hr;exact j4i L hz bz hP hl o (hP H hH)⟩
theorem j24{V:List (List Nat)}(hj:j<h):∃ H∈P,∀ V,(nx n f P V).getD j []=jR n f V H:=by
 have iR:j<P.length:=by rw[hl];exact hj
 refine⟨P[j],QS iR,λV=>?_⟩;unfold nx;rw[Qh,Qw,Qi iR];rfl
theorem KY{V W:List (List Nat)}(o:e_ n f h V)(o':e_ n f h W)(le:pG f n V W):pG f n (nx n f P V) (nx n f P W):=λj hj=>by
 have iR:j<h:=by rw[<- (zI L hz bz hP hl o).len];exact hj
 obtain⟨H,hH,e⟩:=j24 L hz bz hP hl (V:=V) iR;rw[e,e];have oH:=hP H hH;have p1:=oH.p1;intro w hw;rw[xC L hz bz hw,xC L hz bz hw];have ox:=nu L hz bz (lN o' oH hw);have c:=(qR L hz bz).mp ox.1.cl;refine DJ L hz bz (lN o oH hw) ox.1.V ((qR L hz bz).mpr ⟨c.1,λa ha=>?_⟩) (H.p-1) (show H.p-1<H.p by omega);obtain⟨a1,a2,a3⟩:=oH.ws a ha;have c2:=c.2 a ha;cases hx:a.2.2 with
 | inr r=>rw[hx]at c2;exact c2
 | inl k=>
  rw[hx]at c2 a3;have hk:k<h:=a3;have g1:=ox.1.V.gv (show a.1<H.p from a1);have g2:=ox.1.V.gv (show a.2.1<H.p from a2);exact L.le_trans ((o.at hk).V.gv g1) ((o'.at hk).V.gv g1) g2 (le k (by rw[o.len];exact hk) _ g1) c2
omit hP hl
theorem y5q{V:List (List Nat)}(o:e_ n f h V){H:Hs}(hH:H.Ok n f h):uD [bH n f,bj n H,a_ V]=some (f_ (jR n f V H),9):=by
 have hn:n<=1000:=QF L.hi (by decide);have p1:=hH.p1;unfold uD IF;have ju:=jM (k:=1) (tt:=dC) (te:=cK (aE ng 2 (af (aa 0) (af (aE qK 3 (af (aa 1) (af (aa 2) (af (aa 3) ai)))) ai))) (vT (eC (.int 1)))) (deep:=false) (og hn (i:=0) (ρ:=[t9 n f,some (bj n H,9),some (a_ V,9)]) rfl lF) (wI (i:=3) rfl (λ_=>true) (λw=>(iD (gv (iC n f (fy V H w)) (H.p-1)))) (λ_=>9) (λj hj=>rfl) (λw hw _=>by have oc:=nu L hz bz (lN o hH hw);have lu:(iC n f (fy V H w)).length=H.p:=oc.1.V.len;have ae:=j26 (u:=iC n f (fy V H w)) (by rw[lu];omega);rw[lu]at ae;exact qQ (bh (bK (f:=aa 0) (q:=9) rfl (bp (bh (ds:=[bj n H,a_ V,iD w]) rfl rfl (KU o hH)))) rfl oc.2) (b:=vT (eC (.int 1))) (k:=-1) (q':=9) rfl ae rfl rfl))
 rw[show(range n).filter (λ_=>true)=range n by simp]at ju;have e1:D.tup ((range n).map λw=>(iD (gv (iC n f (fy V H w)) (H.p-1))))=f_ (jR n f V H):=by unfold f_ jR;rw[CM]
 have e2:=jN (bp ju);rw[e1]at e2;exact dw (eF e2)
theorem KZ{V:List (List Nat)}(o:e_ n f h V)(hP:∀ H∈P,H.Ok n f h)(hlen:P.length<=1000):xi [bH n f,aD n P,a_ V]=some (a_ (nx n f P V),9):=by
 unfold xi IH;have hi:cL (aa 1) [t9 n f,some (aD n P,9),some (a_ V,9)]=some (P.map (bj n),[t9 n f,some (aD n P,9),some (a_ V,9)]):=by simp[aD,hlen]
 have ju:=jM (k:=1) (tt:=dC) (te:=aE uD 3 (af (aa 0) (af (aa 3) (af (aa 2) ai)))) (deep:=false) (pt:=aH 3) hi (tm (bj n) (λH=>[some (bj n H,9)]) (λ_=>true) (λH=>f_ (jR n f V H)) (λ_=>9) P (λH hH=>⟨rfl,rfl,λ_=>bh (ds:=[bH n f,bj n H,a_ V]) rfl rfl (y5q L hz bz o (hP H hH))⟩));have e1:(P.filter λ_=>true).map (λH=>f_ (jR n f V H))=(nx n f P V).map f_:=by unfold nx;rw[QU,Jc.mpr λ_ _=>rfl];rfl
 rw[e1]at ju;exact dw (eF (jN (bp ju)))
end
theorem z8i{i j:Int}(c:(-(2 ^ 64)<i/\i<2 ^ 64)\/(-(2 ^ 64)<j/\j<2 ^ 64)):ix (.int i) (.int j)=some (.int (i*j)):=by unfold ix gI;dsimp only;rw[Ql c]
theorem j1n(h:a<1000):-(2 ^ 64)<(Int.ofNat a)/\(Int.ofNat a)<2 ^ 64:=by have e:Int.ofNat a=(a:Int):=rfl;rw[e];constructor<;>omega
theorem K0(h:a<1000):ix (iD a) (iD b)=some (iD (a*b)):=by rw[z8i (.inl (j1n h))];rfl
theorem DK(V:List (List Nat)):Sh 2 (a_ V):=.tup λd hd=>by obtain⟨r,_,rfl⟩:=Qu.mp hd;exact pz r
theorem K1:∀ A B:List (List Nat),PyData.eqvAll (dg (A.map f_)) (dg (B.map f_))=decide (A=B)
 | [],[]=>rfl
 | [],b::B=>rfl
 | a::A,[]=>rfl
 | a::A,b::B=>by
  show(PyData.eqv (cP (f_ a)) (cP (f_ b))&&PyData.eqvAll (dg (A.map f_)) (dg (B.map f_)))=_;have e1:PyData.eqv (cP (f_ a)) (cP (f_ b))=decide (a=b):=zk a b;rw[e1,K1 A B];by_cases h1:a=b
  .by_cases h2:A=B
   .simp[h1,h2]
   .simp[h1,h2]
  .simp[h1]
theorem zJ(A B:List (List Nat)):cD (a_ A) (a_ B)=some (.bl (!decide (A=B))):=by unfold cD;rw[Ql ⟨(DK A).ok,(DK B).ok⟩];show some (D.bl (!PyData.eqvAll (dg (A.map f_)) (dg (B.map f_))))=_;rw[K1]
theorem DM(A:List (List Nat)):cD (a_ A) .aF=some (.bl true):=by unfold cD;rw[Ql ⟨(DK A).ok,(Sh.aF (k:=0)).ok⟩];rfl
def mS (n:Nat)(f:Nat->Nat->Nat)(V:List (List Nat)):Nat:=(V.map (bF.mu n f)).sum
theorem K2{n:Nat}{f:Nat->Nat->Nat}:∀ {V:List (List Nat)},(∀ r∈V,Vn n n r)->mS n f V<=V.length*(n*n)
 | [],_=>ZA _
 | r::V,h=>by have h1:=bF.m9 (f:=f) (h r Qc);have h2:=K2 (n:=n) (f:=f) (V:=V) λs hs=>h s (Qb _ hs);show bF.mu n f r+mS n f V<=(V.length+1)*(n*n);rw[Nat.add_mul,Nat.one_mul];omega
section
variable {n:Nat}{f:Nat->Nat->Nat}(L:bF n f){z:Nat}(hz:z<n)(bz:∀ j,j<n->f z j=j){h:Nat}
include L
theorem K3:∀ {V W:List (List Nat)},V.length=W.length->(∀ r∈V,Vn n n r)->(∀ r∈W,Vn n n r)->pG f n V W->mS n f W<=mS n f V/\(V≠W->mS n f W<mS n f V)
 | [],[],_,_,_,_=>⟨Qf _,λz=>absurd rfl z⟩
 | [],_::_,e,_,_,_=>nomatch e
 | _::_,[],e,_,_,_=>nomatch e
 | r::V,s::W,e,hV,hW,le=>by
  have hr:=hV r Qc;have hs:=hW s Qc;have i:=K3 (V:=V) (W:=W) (JS e) (λt ht=>hV t (Qb _ ht)) (λt ht=>hW t (Qb _ ht)) λj hj=>le (j+1) (Nat.succ_lt_succ hj);have l0:eG f n r s:=le 0 (Nat.zero_lt_succ _);by_cases mM:r=s
  .subst mM;refine⟨JL i.1 _,λne=>Nat.add_lt_add_left (i.2 λq=>ne (by rw[q])) _⟩
  .have:=L.kQ hr hs l0 mM;have k:mS n f (s::W)<mS n f (r::V):=Nat.add_lt_add_of_lt_of_le this i.1;exact⟨ZF k,λ_=>k⟩
include hz bz
def dY (n h z:Nat):List (List Nat):=replicate h (gS n z)
theorem K4:e_ n f h (dY n h z):=⟨Q3,λr hr=>by rw[(List.mem_replicate.mp hr).2];refine⟨zD hz,λx y hx hy _=>?_⟩;rw[zE hx,zE hy];exact bz z hz⟩
theorem K5{V:List (List Nat)}(o:e_ n f h V):pG f n (dY n h z) V:=λj hj=>by
 have iR:j<h:=by rw[show(dY n h z).length=h from Q3]at hj;exact hj
 have e:(dY n h z).getD j []=gS n z:=by unfold dY;rw[Qh,Q8];simp[iR]
 rw[e];exact DH bz (o.at iR).V
variable {P:List Hs}(hP:∀ H∈P,H.Ok n f h)(hl:P.length=h)
include hl
theorem K6(hh:h<=100):wX [bH n f,aD n P]=some (a_ (dY n h z),9):=by
 have hn:n<=1000:=QF L.hi (by decide);unfold wX Ig;have e1:iA n (λ_=>z)=f_ (gS n z):=by unfold iA f_ gS;rw[YI,QR]
 have s1:=XQ (f:=f) hn z;rw[e1]at s1;have l1:bE 1 [t9 n f,some (aD n P,9)]=some ((iD h),9,[t9 n f,some (aD n P,9)]):=mi rfl (by show some (P.map (bj n)).length=_;rw[Qg,hl]);have c1:=bh (F:=qI) (n:=2) (bK (f:=aa 0) (q:=9) (ρ:=[t9 n f,some (aD n P,9)]) (ac:=[t9 n f,some (aD n P,9)]) rfl (bp (bh (F:=n4) (n:=1) (g:=af (aa 0) ai) (ds:=[bH n f]) rfl rfl (KG L hz bz hn)))) rfl s1;have e2:cZ (af (aE qI 2 (af (aa 0) (af (aE n4 1 (af (aa 0) ai)) ai))) ai) [t9 n f,some (aD n P,9)]=some (.lst [f_ (gS n z)],1,[t9 n f,some (aD n P,9)]):=by unfold cZ;rw[bp c1];exact Ql (show 1<=1000 by decide)
 have e3:l7 (cZ (af (aE qI 2 (af (aa 0) (af (aE n4 1 (af (aa 0) ai)) ai))) ai)) (bE 1) [t9 n f,some (aD n P,9)]=some (.lst ((dY n h z).map f_),1,[t9 n f,some (aD n P,9)]):=by unfold l7;rw[e2];simp only[l1];rw[Ql ⟨by show(-1000:Int)<=(h:Int);omega,by show(h:Int)<=1000;omega,by show 1*h<=1000;omega⟩];show some (D.lst (replicate h [f_ (gS n z)]).flatten,1,_)=_;rw[Zd];unfold dY;rw[List.map_replicate]
 exact dw (eF (jN (bp e3)))
include hP
structure zK (n:Nat) (f:Nat->Nat->Nat) (h:Nat) (P:List Hs) (V:List (List Nat)):Prop where
 ok:e_ n f h V
 fx:nx n f P V=V
 le:∀ W,e_ n f h W->nx n f P W=W->pG f n V W
abbrev Q6 (n:Nat)(f:Nat->Nat->Nat)(P:List Hs)(d:Nat)(V:List (List Nat))(a:D)(i:Int):aW:=[t9 n f,some (aD n P,9),i9 d,some (a_ V,9),some (a,9),some (.int i,9)]
theorem j5t(hh:h<=3)(pH:n<=5)(hd:h*(n*n)<=d):∃ V,zK n f h P V/\nh [bH n f,aD n P,iD d]=some (a_ V,9):=by
 have o0:e_ n f h (dY n h z):=K4 L hz bz;have hb:mS n f (dY n h z)<=h*(n*n):=by have:=K2 (n:=n) (f:=f) (V:=dY n h z) λr hr=>(o0.row r hr).V;rw[o0.len]at this;exact this
 have h75:h*(n*n)<=75:=by have h1:n*n<=5*5:=Jv pH pH;have h2:h*(n*n)<=3*(5*5):=Jv hh h1;omega
 obtain⟨ad,e,V,a,i,hV,rfl⟩:=wL (c:=iL (bf (e2 kE (aa 5) (eC (.int 0)))) (bf (e2 cD (aa 3) (aa 4)))) (b:=sW)
  (Q:=λρ=>∃ (V:List (List Nat)) (a:D) (i:Int),zK n f h P V/\ρ=Q6 n f P d V a i)
  (λk ρ=>∃ (V:List (List Nat)) (a:D) (i:Nat),e_ n f h V/\pG f n V (nx n f P V)/\(∀ W,e_ n f h W->nx n f P W=W->pG f n V W) /\
    ((a=.aF/\i=0/\V=dY n h z/\k=mS n f V+2)\/∃ U,a=a_ U/\e_ n f h U/\V=nx n f P U/\mS n f V+i<=mS n f (dY n h z)+(if U=V then 1 else 0)/\k=mS n f V+(if U=V then 0 else 1))/\ρ=Q6 n f P d V a ((d:Int)-(i:Int)))
  (k:=mS n f (dY n h z)+2) (ρ:=Q6 n f P d (dY n h z) .aF (Int.ofNat d)) (by omega)
  ⟨dY n h z,.aF,0,o0,K5 L hz bz (zI L hz bz hP hl o0),λW oW _=>K5 L hz bz oW,.inl ⟨rfl,rfl,rfl,rfl⟩,by show _=Q6 n f P d (dY n h z) .aF ((d:Int)-((0:Nat):Int));rw[show(d:Int)-((0:Nat):Int)=(d:Int)from Int.sub_zero _];rfl⟩ (λk ρ ao=>by
   obtain⟨V,a,i,oV,up,lo,h6,rfl⟩:=ao;have oN:=zI L hz bz hP hl oV;have de:=KZ L hz bz oV hP (by omega);have lt:=K3 L (by rw[oV.len,oN.len]) (λr hr=>(oV.row r hr).V) (λr hr=>(oN.row r hr).V) up;have go:∀ (hi:i<=d) (cG:cD (a_ V) a=some (.bl true)) (k':Nat),k'<k->k'=mS n f (nx n f P V)+(if V=nx n f P V then 0 else 1)->mS n f (nx n f P V)+(i+1)<=mS n f (dY n h z)+(if V=nx n f P V then 1 else 0)->
     ∃ ac am k',iL (bf (e2 kE (aa 5) (eC (.int 0)))) (bf (e2 cD (aa 3) (aa 4))) (Q6 n f P d V a ((d:Int)-(i:Int)))=some (true,ac)/\sW ac=some (.nx am)/\k'<k/\∃ (V:List (List Nat)) (a:D) (i:Nat),e_ n f h V/\pG f n V (nx n f P V)/\(∀ W,e_ n f h W->nx n f P W=W->pG f n V W) /\
   ((a=.aF/\i=0/\V=dY n h z/\k'=mS n f V+2)\/∃ U,a=a_ U/\e_ n f h U/\V=nx n f P U/\mS n f V+i<=mS n f (dY n h z)+(if U=V then 1 else 0)/\k'=mS n f V+(if U=V then 0 else 1))/\am=Q6 n f P d V a ((d:Int)-(i:Int)):=λhi cG k' hk uc hm=>by
    refine⟨Q6 n f P d V a ((d:Int)-(i:Int)),Q6 n f P d (nx n f P V) (a_ V) ((d:Int)-((i+1:Nat):Int)),k',?_,?_,hk,nx n f P V,a_ V,i+1,oN,KY L hz bz hP hl oV oN up,λW oW fW=>?_,.inr ⟨V,rfl,oV,rfl,hm,uc⟩,rfl⟩
    .have g1:bf (e2 kE (aa 5) (eC (.int 0))) (Q6 n f P d V a ((d:Int)-(i:Int)))=some (true,Q6 n f P d V a ((d:Int)-(i:Int))):=by refine fu (cm (fa:=aa 5) (fb:=eC (.int 0)) (q:=9) (q':=9) rfl rfl ?_);show some (D.bl (decide ((0:Int)<=(d:Int)-(i:Int))))=_;rw[QC (by omega)]
     have g2:bf (e2 cD (aa 3) (aa 4)) (Q6 n f P d V a ((d:Int)-(i:Int)))=some (true,Q6 n f P d V a ((d:Int)-(i:Int))):=by
      rcases h6 with⟨rfl,_⟩|⟨U,rfl,_⟩
      .exact fu (cm (fa:=aa 3) (fb:=aa 4) (q:=9) (q':=9) rfl rfl cG)
      .exact fu (cm (fa:=aa 3) (fb:=aa 4) (q:=9) (q':=9) rfl rfl cG)
     unfold iL;rw[g1];exact g2
    .unfold sW;refine(aO (ac:=Q6 n f P d V (a_ V) ((d:Int)-(i:Int))) (cW (d:=a_ V) (q:=9) rfl rfl)).trans ?_;refine(aO (ac:=Q6 n f P d (nx n f P V) (a_ V) ((d:Int)-(i:Int))) (cW (bh (ds:=[bH n f,aD n P,a_ V]) rfl rfl de) rfl)).trans ?_;have e1:(d:Int)-(i:Int)-1=(d:Int)-((i+1:Nat):Int):=by omega
     refine cW (d:=.int ((d:Int)-((i+1:Nat):Int))) (q:=9) (ac:=Q6 n f P d (nx n f P V) (a_ V) ((d:Int)-(i:Int))) (cm (fa:=aa 5) (fb:=eC (.int 1)) (q:=9) (q':=9) rfl rfl ?_) rfl;show some (D.int ((d:Int)-(i:Int)-1))=_;rw[e1]
    .have:=KY L hz bz hP hl oV oW (lo W oW fW);rw[fW]at this;exact this
   rcases h6 with⟨rfl,rfl,rfl,hk⟩|⟨U,rfl,oU,hU,hm,hk⟩
   .refine .inr ?_;by_cases he:dY n h z=nx n f P (dY n h z)
    .exact go (ZA _) (DM _) (mS n f (nx n f P (dY n h z))+0) (by rw[<- he];omega) (by rw[Ql he]) (by rw[Ql he,<- he];omega)
    .have:=lt.2 he;exact go (ZA _) (DM _) (mS n f (nx n f P (dY n h z))+1) (by omega) (by rw[Qt he]) (by rw[Qt he];omega)
   .by_cases DN:U=V
    .subst DN;refine .inl ⟨Q6 n f P d U (a_ U) ((d:Int)-(i:Int)),?_,U,a_ U,_,⟨oV,hU.symm,lo⟩,rfl⟩;have g1:bf (e2 kE (aa 5) (eC (.int 0))) (Q6 n f P d U (a_ U) ((d:Int)-(i:Int)))=some (decide ((0:Int)<=(d:Int)-(i:Int)),Q6 n f P d U (a_ U) ((d:Int)-(i:Int))):=fu (cm (fa:=aa 5) (fb:=eC (.int 0)) (q:=9) (q':=9) rfl rfl rfl);have ne:=zJ U U;rw[QC rfl]at ne;have g2:bf (e2 cD (aa 3) (aa 4)) (Q6 n f P d U (a_ U) ((d:Int)-(i:Int)))=some (false,Q6 n f P d U (a_ U) ((d:Int)-(i:Int))):=fu (cm (fa:=aa 3) (fb:=aa 4) (q:=9) (q':=9) rfl rfl ne);unfold iL;rw[g1];cases decide ((0:Int)<=(d:Int)-(i:Int))with
     | true=>exact g2
     | false=>rfl
    .rw[Qt DN]at hm hk;have hi:i<=d:=by omega
     have cG:cD (a_ V) (a_ U)=some (.bl true):=by rw[zJ,QB λq=>DN q.symm];rfl
     refine .inr ?_;by_cases he:V=nx n f P V
     .exact go hi cG (mS n f (nx n f P V)+0) (by rw[<- he];omega) (by rw[Ql he]) (by rw[Ql he,<- he];omega)
     .have:=lt.2 he;exact go hi cG (mS n f (nx n f P V)+1) (by omega) (by rw[Qt he]) (by rw[Qt he];omega))
 refine⟨V,hV,?_⟩;unfold nh Dg;refine dw ?_;show az _ _ [t9 n f,some (aD n P,9),i9 d,none,none,none]=_;refine(aO (ac:=[t9 n f,some (aD n P,9),i9 d,some (a_ (dY n h z),9),none,none]) (cW (bh (ds:=[bH n f,aD n P]) rfl rfl (K6 L hz bz hl (by omega))) rfl)).trans ?_;refine(aO (ac:=[t9 n f,some (aD n P,9),i9 d,some (a_ (dY n h z),9),some (.aF,9),none]) rfl).trans ?_;refine(aO (ac:=Q6 n f P d (dY n h z) .aF (Int.ofNat d)) rfl).trans ?_;exact(aO e).trans (eF (ac:=Q6 n f P d V a i) rfl)
theorem y7k(hh:h<=3)(pH:n<=5):∃ V,zK n f h P V/\pD [bH n f,aD n P]=some (a_ V,9):=by obtain⟨V,hV,e⟩:=j5t L hz bz hP hl hh pH (d:=h*(n*n)) (Qf _);refine⟨V,hV,?_⟩;unfold pD IJ;have l1:bE 1 [t9 n f,some (aD n P,9)]=some ((iD h),9,[t9 n f,some (aD n P,9)]):=mi rfl (by show some (P.map (bj n)).length=_;rw[Qg,hl]);have l0:bE 0 [t9 n f,some (aD n P,9)]=some ((iD n),9,[t9 n f,some (aD n P,9)]):=mi rfl lF;have hm1:=K0 (a:=h) (b:=n) (by omega);have Fi:h*n<=3*5:=Jv hh pH;have K7:=K0 (a:=h*n) (b:=n) (by omega);rw[Nat.mul_assoc]at K7;exact dw (eF (bh (bK (f:=aa 0) (q:=9) rfl (bK (f:=aa 1) (q:=9) rfl (bp (cm (cm l1 l0 hm1) l0 K7)))) rfl e))
end
theorem z5u{i j:Int}(c:(-(2 ^ 64)<i/\i<2 ^ 64)\/(-(2 ^ 64)<j/\j<2 ^ 64)):ix (.int i) (.int j)=some (.int (i*j)):=by unfold ix gI;dsimp only;rw[Ql c]
theorem z4w(h:a<1000):-(2 ^ 64)<(Int.ofNat a)/\(Int.ofNat a)<2 ^ 64:=by have e:Int.ofNat a=(a:Int):=rfl;rw[e];constructor<;>omega
theorem K8{c:Nat}(h:c<1000):ix (iD c) (iD j)=some (.int (Int.ofNat c*Int.ofNat j)):=z5u (.inl (z4w h))
abbrev fz (ns:List Int)(t:Int)(n:Nat)(f:Nat->Nat->Nat)(h:Nat)(l:List D)(a b c d e g:OD):aW:=[n0 ns,some (.int t,9),t9 n f,i9 h,some (.lst l,1),a,b,c,d,e,g]
section
variable {n:Nat}{f:Nat->Nat->Nat}(L:bF n f){z:Nat}(hz:z<n)(bz:∀ j,j<n->f z j=j)
include L hz bz
theorem z1j(ns:List Int)(t:Int)(h0:0<=t)(hh:0<h)(l:List D)(j:Nat)(hp:0<p)(m:Nat)(hm:m<=5)(a b c:OD) :
  ∃ (W:List (Nat×Nat×Led)) (a' b' c':OD),W.length=m/\(∀ w∈W,w.1<p/\w.2.1<p/\mm n f h w.2.2) /\
   fZ (aH 8) zz (eE m) (fz ns t n f h l ((i9 j)) ((i9 p)) (some (.lst [],1)) a b c)=some (.nx (fz ns t n f h l ((i9 j)) ((i9 p)) (some (.lst (W.map (cq n)),1)) a' b' c')):=by
 obtain⟨W,j',hl,hg,e⟩:=DI (J:=OD×OD×OD) (pt:=aH 8) (body:=zz) (λk:Nat=>(iD k)) (λds x=>fz ns t n f h l ((i9 j)) ((i9 p)) (some (.lst ds,1)) x.1 x.2.1 x.2.2) (cq n) (λw=>w.1<p/\w.2.1<p/\mm n f h w.2.2) (range m) [] (a,b,c) (by rw[QR];show 0+m<=1000;omega) (λk hk ds x oB=>by
  have i1:Int.ofNat j=(j:Int):=rfl;have i2:Int.ofNat k=(k:Int):=rfl;obtain⟨y,hy⟩:∃ y:Int,y=t+10+120*Int.ofNat j+23*Int.ofNat k:=⟨_,rfl⟩;have hy0:0<=y:=by omega
  obtain⟨d,hd,hR⟩:=XM L hz bz ns (y+4) (by omega);obtain⟨s,hs,es⟩:=mj ns hy0 hp;obtain⟨g,hg,eg⟩:=mj ns (c:=y+1) (by omega) hp;obtain⟨v,hv,ev⟩:=mj ns (c:=y+2) (by omega) (n:=3) (by decide);obtain⟨o,ho,eo⟩:=mj ns (c:=y+3) (by omega) hh;have K9:mm n f h (.inr (bF.lr n f z d)):=⟨λi _=>L.qE hz bz hd i,λx y hx hy e=>L.m7 hz bz hd hx hy e⟩;generalize bF.lr n f z d=r at hR K9;have fin:∀ x:Led,dB (jn 7 (af (bS (af (aE dG 3 (af (aa 0) (af (aa 9) (af (aa 6) ai)))) (af (aE dG 3 (af (aa 0) (af (e2 cb (aa 9) (eC (.int 1))) (af (aa 6) ai)))) (af (aa 10) ai)))) ai)) (fz ns t n f h l ((i9 j)) ((i9 p)) (some (.lst ds,1)) ((i9 k)) (some (.int y,9)) (some (cY n x,9)))=some (.nx (fz ns t n f h l ((i9 j)) ((i9 p)) (some (.lst (ds++[cq n (s,g,x)]),1)) ((i9 k)) (some (.int y,9)) (some (cY n x,9)))):=λx=>by have v10:aa 10 (fz ns t n f h l ((i9 j)) ((i9 p)) (some (.lst ds,1)) ((i9 k)) (some (.int y,9)) (some (cY n x,9)))=some (cY n x,9,fz ns t n f h l ((i9 j)) ((i9 p)) (some (.lst ds,1)) ((i9 k)) (some (.int y,9)) (some (cY n x,9))):=uQ rfl xB;exact qD (ds:=ds) rfl (bp (km (bK (bh (ds:=[d7 ns,.int y,iD p]) rfl rfl es) (bK (bh (ds:=[d7 ns,.int (y+1),iD p]) rfl rfl eg) (bp v10))) (show 3<=1000 by decide))) rfl oB rfl
  have st1:aV 9 (e2 cb (e2 cb (e2 cb (aa 1) (eC (.int 10))) (e2 ix (eC (.int 120)) (aa 5))) (e2 ix (eC (.int 23)) (aa 8))) (fz ns t n f h l ((i9 j)) ((i9 p)) (some (.lst ds,1)) ((i9 k)) x.2.1 x.2.2)=some (.nx (fz ns t n f h l ((i9 j)) ((i9 p)) (some (.lst ds,1)) ((i9 k)) (some (.int y,9)) x.2.2)):=by refine cW (d:=.int y) (q:=9) (ac:=fz ns t n f h l ((i9 j)) ((i9 p)) (some (.lst ds,1)) ((i9 k)) x.2.1 x.2.2) ?_ rfl;rw[hy];exact cm (cm (cm (fa:=aa 1) (fb:=eC (.int 10)) (q:=9) (q':=9) rfl rfl rfl) (cm (fa:=eC (.int 120)) (fb:=aa 5) (q:=9) (q':=9) rfl rfl (K8 (c:=120) (by decide))) rfl) (cm (fa:=eC (.int 23)) (fb:=aa 8) (q:=9) (q':=9) rfl rfl (K8 (c:=23) (by decide))) rfl
  have nI:aV 10 (aE uI 3 (af (aa 0) (af (e2 cb (aa 9) (eC (.int 4))) (af (aa 2) ai)))) (fz ns t n f h l ((i9 j)) ((i9 p)) (some (.lst ds,1)) ((i9 k)) (some (.int y,9)) x.2.2)=some (.nx (fz ns t n f h l ((i9 j)) ((i9 p)) (some (.lst ds,1)) ((i9 k)) (some (.int y,9)) (some (cY n (.inr r),9)))):=
   cW (bh (ds:=[d7 ns,.int (y+4),bH n f]) rfl rfl hR) rfl
  have te:bf (e2 dE (aE dG 3 (af (aa 0) (af (e2 cb (aa 9) (eC (.int 2))) (af (eC (.int 3)) ai)))) (eC (.int 0))) (fz ns t n f h l ((i9 j)) ((i9 p)) (some (.lst ds,1)) ((i9 k)) (some (.int y,9)) (some (cY n (.inr r),9)))=some (decide (v=0),fz ns t n f h l ((i9 j)) ((i9 p)) (some (.lst ds,1)) ((i9 k)) (some (.int y,9)) (some (cY n (.inr r),9))):=
   fu (cm (bh (ds:=[d7 ns,.int (y+2),.int 3]) rfl rfl ev) (rfl:eC (.int 0) _=some ((iD 0),9,_)) (Hx v 0))
  refine⟨fz ns t n f h l ((i9 j)) ((i9 p)) (some (.lst ds,1)) ((i9 k)) x.2.1 x.2.2,((i9 k),some (.int y,9),some (cY n (if v=0 then .inl o else .inr r),9)),(s,g,if v=0 then .inl o else .inr r),⟨hs,hg,?_⟩,rfl,?_⟩
  .show mm n f h (if v=0 then .inl o else .inr r);by_cases h0:v=0
   .rw[Ql h0];exact ho
   .rw[Qt h0];exact K9
  .unfold zz;refine(aO st1).trans ((aO nI).trans ?_);by_cases h0:v=0
   .rw[QC h0]at te;rw[Ql h0];exact(aO (ac:=fz ns t n f h l ((i9 j)) ((i9 p)) (some (.lst ds,1)) ((i9 k)) (some (.int y,9)) (some (cY n (.inl o),9))) ((lC te).trans (cW (bh (ds:=[d7 ns,.int (y+3),iD h]) rfl rfl eo) rfl))).trans (fin (.inl o))
   .rw[QB h0]at te;rw[Qt h0];exact(aO ((jo te).trans rfl)).trans (fin (.inr r)))
 rw[QR]at hl;exact⟨W,j'.1,j'.2.1,j'.2.2,hl,hg,e⟩
theorem z1e(ns:List Int)(t:Int)(h0:0<=t):∃ P:List Hs,1<=P.length/\P.length<=3/\(∀ H∈P,H.Ok n f P.length)/\n8 [d7 ns,.int t,bH n f]=some (aD n P,9):=by
 obtain⟨h',hh',eh⟩:=mj ns h0 (n:=3) (by decide);obtain⟨h,hh⟩:∃ h:Nat,h=h'+1:=⟨_,rfl⟩;have eh':(1:Int)+Int.ofNat h'=Int.ofNat h:=by show(1:Int)+(h':Int)=(h:Int);omega
 obtain⟨P,x,hl,hg,e⟩:=DI (J:=OD×OD×OD×OD×OD×OD) (pt:=aH 5) (body:=Dt) (λk:Nat=>(iD k)) (λds x=>fz ns t n f h ds x.1 x.2.1 x.2.2.1 x.2.2.2.1 x.2.2.2.2.1 x.2.2.2.2.2) (bj n) (λH=>H.Ok n f h) (range h) [] (none,none,none,none,none,none) (by rw[QR];show 0+h<=1000;omega) (λj hj ds x oB=>by
  have i1:Int.ofNat j=(j:Int):=rfl;obtain⟨p',oK,ep⟩:=mj ns (c:=t+1+Int.ofNat j) (by omega) (n:=4) (by decide);obtain⟨m,hm,em⟩:=mj ns (c:=t+4+Int.ofNat j) (by omega) (n:=6) (by decide);obtain⟨p,hp⟩:∃ p:Nat,p=p'+1:=⟨_,rfl⟩;have k6:(1:Int)+Int.ofNat p'=Int.ofNat p:=by show(1:Int)+(p':Int)=(p:Int);omega
  obtain⟨W,a',b',c',lW,gW,eW⟩:=z1j L hz bz ns t h0 (h:=h) (by omega) ds j (p:=p) (by omega) m (by omega) x.2.2.2.1 x.2.2.2.2.1 x.2.2.2.2.2;refine⟨fz ns t n f h ds ((i9 j)) x.2.1 x.2.2.1 x.2.2.2.1 x.2.2.2.2.1 x.2.2.2.2.2,((i9 j),(i9 p),some (.lst (W.map (cq n)),0),a',b',c'),⟨p,W⟩,⟨by show 1<=p;omega,by show p<=8;omega,by show W.length<=60;omega,gW⟩,rfl,?_⟩;unfold Dt;refine(aO (ac:=fz ns t n f h ds ((i9 j)) ((i9 p)) x.2.2.1 x.2.2.2.1 x.2.2.2.2.1 x.2.2.2.2.2) (cW (d:=(iD p)) (q:=9) (ac:=fz ns t n f h ds ((i9 j)) x.2.1 x.2.2.1 x.2.2.2.1 x.2.2.2.2.1 x.2.2.2.2.2) (cm (fa:=eC (.int 1)) (q:=9) rfl (bh (ds:=[d7 ns,.int (t+1+Int.ofNat j),.int 4]) rfl rfl ep) ?_) rfl)).trans ?_
  .show some (D.int (1+Int.ofNat p'))=_;rw[k6]
  refine(aO (ac:=fz ns t n f h ds ((i9 j)) ((i9 p)) (some (.lst [],1)) x.2.2.2.1 x.2.2.2.2.1 x.2.2.2.2.2) rfl).trans ?_;refine(aO ((kN (zC (m:=m) (by omega) (ρ:=fz ns t n f h ds ((i9 j)) ((i9 p)) (some (.lst [],1)) x.2.2.2.1 x.2.2.2.2.1 x.2.2.2.2.2) (ad:=fz ns t n f h ds ((i9 j)) ((i9 p)) (some (.lst [],1)) x.2.2.2.1 x.2.2.2.2.1 x.2.2.2.2.2) (q:=9) (bh (ds:=[d7 ns,.int (t+4+Int.ofNat j),.int 6]) rfl rfl em))).trans eW)).trans ?_;have v7:aa 7 (fz ns t n f h ds ((i9 j)) ((i9 p)) (some (.lst (W.map (cq n)),1)) a' b' c')=some (.lst (W.map (cq n)),0,fz ns t n f h ds ((i9 j)) ((i9 p)) (some (.lst (W.map (cq n)),0)) a' b' c'):=jO rfl;exact qD (ds:=ds) rfl (bp (km (bK (f:=aa 6) (q:=9) rfl (bp (jN (bp v7)))) (show 2<=1000 by decide))) rfl oB rfl)
 rw[QR]at hl;refine⟨P,by omega,by omega,λH hH=>by rw[hl];exact hg H hH,?_⟩;unfold n8 Kn;refine dw ?_;show az _ _ [n0 ns,some (.int t,9),t9 n f,none,none,none,none,none,none,none,none]=_;refine(aO (ac:=[n0 ns,some (.int t,9),t9 n f,i9 h,none,none,none,none,none,none,none]) (cW (d:=(iD h)) (q:=9) (ac:=[n0 ns,some (.int t,9),t9 n f,none,none,none,none,none,none,none,none]) (cm (fa:=eC (.int 1)) (q:=9) rfl (bh (ds:=[d7 ns,.int t,.int 3]) rfl rfl eh) ?_) rfl)).trans ?_
 .show some (D.int (1+Int.ofNat h'))=_;rw[eh']
 refine(aO (ac:=fz ns t n f h [] none none none none none none) rfl).trans ?_;refine(aO ((kN (zC (m:=h) (by omega) (fe:=aa 3) (ρ:=fz ns t n f h [] none none none none none none) (ad:=fz ns t n f h [] none none none none none none) (q:=9) rfl)).trans e)).trans ?_;exact eF (jN (bp (jO (i:=4) (q:=1) (ds:=P.map (bj n)) rfl)))
end
theorem K_(ks:List Nat):∀ n,n<=ks.length->mb (λi=>ks.getD i 0) n=(ks.take n).foldl bor 0
 | 0,_=>rfl
 | n+1,h=>by show bor (mb _ n) (ks.getD n 0)=_;rw[K_ ks n (by omega),List.take_add_one,Qi (by omega),Ju,Qh,Qi (by omega)];rfl
theorem j3z(ks:List Nat):pw ks=ks.foldl bor 0:=by rw[pw,K_ ks _ (Qf _),JA]
theorem La:∀ {ks:List Nat},(∀ k∈ks,k<5)->ui (ak ks)=some ks
 | [],_=>rfl
 | k::ks,h=>by show(if k<5 then(ui (ak ks)).map (k :: ·)else none)=_;rw[Ql (h k Qc),La λj hj=>h j (Qb _ hj)];rfl
theorem Lb{ks:List Nat}(h:fa ρ=some (.lst (ak ks),q,ac))(hq:q<=1)(h5:∀ k∈ks,k<5):qB fa ρ=some (.lst (ak (bl (ks.foldl bor 0))),1,ac):=by unfold qB;rw[h];show(if q<=1 then _ else none)=_;rw[Ql hq,La h5];show some (D.lst (ak (bl (pw ks))),1,ac)=_;rw[j3z]
theorem Lc:∀ (g:List Nat) (m:Nat),m<=g.foldl bor m
 | [],m=>Qf m
 | k::g,m=>QF Nat.left_le_or (Lc g (bor m k))
theorem DO:∀ {g:List Nat} {m:Nat},m<32->(∀ k∈g,k<5)->g.foldl bor m<32
 | [],_,h,_=>h
 | k::g,m,h,h5=>DO (g:=g) (m:=bor m k) (y_ m h k (h5 k Qc)) λj hj=>h5 j (Qb _ hj)
theorem DP:∀ m:Nat,m<32->(bl m).foldl bor 0=m:=by decide +kernel
theorem j29{m':Nat}(h:m<32)(h':m'<32)(e:bl m=bl m'):m=m':=by rw[<- DP m h,<- DP m' h',e]
def gl:Led->Nat
 | .inl k=>k
 | .inr _=>0
def qS (c:Nat×Nat):D:=.tup [iD c.1,iD c.2,.aF]
def jS (i:Nat)(H:Hs):List (Nat×Nat):=(H.W.filter λw=>zH w.2.2).map λw=>(i,gl w.2.2)
def iE (P:List Hs):List (Nat×Nat):=P.zipIdx.foldl (λl x=>l++jS x.2 x.1) []
def jv (h:Nat)(l:List (Nat×Nat)):D:=.tup [iD h,.tup (l.map qS),.tup []]
theorem DQ:∀ (l:List (Hs×Nat)) (acc:List (Nat×Nat)) (c:Nat×Nat),c∈l.foldl (λl x=>l++jS x.2 x.1) acc ↔ c∈acc\/∃ x∈l,c∈jS x.2 x.1
 | [],acc,c=>by simp
 | x::l,acc,c=>by rw[ZY,DQ l _ c,QI];simp only[Qr,exists_eq_or_imp];rw[or_assoc]
theorem Ld:∀ (l:List (Hs×Nat)) (acc:List (Nat×Nat)),(∀ x∈l,x.1.W.length<=60)->(l.foldl (λl x=>l++jS x.2 x.1) acc).length<=acc.length+60*l.length
 | [],acc,_=>by simp
 | x::l,acc,h=>by
  have h1:=Ld l (acc++jS x.2 x.1) λy hy=>h y (Qb _ hy);have h2:(jS x.2 x.1).length<=60:=by unfold jS;rw[Qg];exact QF (Zj _ _) (h x Qc)
  rw[Qj]at h1;rw[ZY,QN];omega
theorem j0t{g:aJ}{es:List D}(hl:sf ρ[i]? = true)(hg:g ρ=some (.lst es,1,ac))(h1:ac[i]? = some (some (.lst ds,1)))(hn:ds.length+es.length<=1000)(e:ac.set i (some (.lst (ds++es),1))=am):dB (qt i g) ρ=some (.nx am):=by unfold dB qt;rw[Ql hl,hg];simp only[h1];rw[Ql hn,e]
section
variable {n:Nat}{f:Nat->Nat->Nat}{h:Nat}{P:List Hs}(hP:∀ H∈P,H.Ok n f h)(hl:P.length=h)(h3:h<=3)
include hP hl h3
theorem DR{c:Nat×Nat}(hc:c∈iE P):c.1<h/\c.2<h:=by
 rcases(DQ P.zipIdx [] c).mp hc with q|⟨x,hx,q⟩
 .cases q
 .obtain⟨w,hw,rfl⟩:=Qu.mp q;obtain⟨uq,Le⟩:=Zx.mp hw;have jY:=Yv hx;have ok:=(hP x.1 (jY.2 ▸ QS _)).ws w uq;refine⟨by show x.2<h;rw[<- hl];exact jY.1,?_⟩;show gl w.2.2<h;have o3:=ok.2.2;cases e:w.2.2 with
  | inl k=>rw[e]at o3;exact o3
  | inr r=>rw[e]at Le;cases Le
end
theorem z76(P:List Hs):nX (P.map (bj n))=P.zipIdx.map λx=>D.tup [iD x.2,bj n x.1]:=by
 apply Zi;intro i;rw[GD,Qw,Qw,YZ,Y0,Y0];cases P[i]? with
 | none=>rfl
 | some H=>simp
section
variable {n:Nat}{f:Nat->Nat->Nat}{h:Nat}{P:List Hs}(hP:∀ H∈P,H.Ok n f h)(hl:P.length=h)(h3:h<=3)
include hP hl h3
abbrev C4 (n:Nat)(P:List Hs)(l:List (Nat×Nat))(a b:OD):aW:=[some (aD n P,9),some (.lst (l.map qS),1),a,b]
omit hP hl h3
theorem z5o{H:Hs}(xD:H.W.length<=60)(i:Nat)(hn:l.length<=500):dB (qt 1 (eO 1 (cL (aS 3 (eC (.int 1)))) (aH 4) (eA (aE kS 1 (af (aS 4 (eC (.int 2))) ai))) (bS (af (aa 2) (af (aS 4 (eC (.int 2))) (af (eC .aF) ai)))) false)) (C4 n P l ((i9 i)) (some (bj n H,9)))=some (.nx (C4 n P (l++jS i H) ((i9 i)) (some (bj n H,9)))):=by
 have hi:cL (aS 3 (eC (.int 1))) (C4 n P l ((i9 i)) (some (bj n H,9)))=some (H.W.map (cq n),C4 n P l ((i9 i)) (some (bj n H,9))):=by have e:aS 3 (eC (.int 1)) (C4 n P l ((i9 i)) (some (bj n H,9)))=some (.tup (H.W.map (cq n)),9,C4 n P l ((i9 i)) (some (bj n H,9))):=rfl;unfold cL;rw[e];simp only[Qg];rw[Ql (by omega)]
 have hx:∀ a:Nat×Nat×Led,aS 4 (eC (.int 2)) (C4 n P l ((i9 i)) (some (bj n H,9))++[some (cq n a,9)])=some (cY n a.2.2,9,C4 n P l ((i9 i)) (some (bj n H,9))++[some (cq n a,9)]):=λa=>qP (x:=cq n a) (q:=9) (q':=9) rfl rfl rfl xB;have ju:=jM (k:=1) (tt:=eA (aE kS 1 (af (aS 4 (eC (.int 2))) ai))) (te:=bS (af (aa 2) (af (aS 4 (eC (.int 2))) (af (eC .aF) ai)))) (deep:=false) (pt:=aH 4) hi (tm (cq n) (λa=>[some (cq n a,9)]) (λa=>zH a.2.2) (λa=>D.tup [iD i,cY n a.2.2,.aF]) (λ_=>9) H.W (λa ha=>⟨rfl,by refine qO (q:=9) ((bh (bp (hx a)) rfl (ml (cY n a.2.2))).trans ?_);cases a.2.2<;>rfl,λ_=>km (bK (f:=aa 2) (q:=9) rfl (bK (hx a) (bp (f:=eC .aF) (d:=.aF) (q:=9) rfl))) (show 3<=1000 by decide)⟩))
 have e1:(H.W.filter λa=>zH a.2.2).map (λa=>D.tup [iD i,cY n a.2.2,.aF])=(jS i H).map qS:=by
  unfold jS;rw[QU];apply Zc;intro a ha;have hb:=(Zx.mp ha).2;show D.tup [iD i,cY n a.2.2,.aF]=D.tup [iD i,iD (gl a.2.2),.aF];cases e:a.2.2 with
  | inl k=>rfl
  | inr r=>rw[e]at hb;cases hb
 rw[e1]at ju;have h2:(jS i H).length<=60:=by unfold jS;rw[Qg];exact QF (Zj _ _) xD
 exact j0t (ds:=l.map qS) rfl ju rfl (by rw[Qg,Qg];omega) (by rw[<- QZ];rfl)
theorem Lf:∀ (xs:List (Hs×Nat)) (acc:List (Nat×Nat)) (j:OD×OD),(∀ x∈xs,x.1.W.length<=60)->acc.length+60*xs.length<=500->
  ∃ j':OD×OD,fZ (eQ (bD (aH 2) (bD (aH 3) fG))) (dB (qt 1 (eO 1 (cL (aS 3 (eC (.int 1)))) (aH 4) (eA (aE kS 1 (af (aS 4 (eC (.int 2))) ai))) (bS (af (aa 2) (af (aS 4 (eC (.int 2))) (af (eC .aF) ai)))) false))) (xs.map λx:Hs×Nat=>D.tup [iD x.2,bj n x.1]) (C4 n P acc j.1 j.2)=some (.nx (C4 n P (xs.foldl (λl x=>l++jS x.2 x.1) acc) j'.1 j'.2))
 | [],acc,j,_,_=>⟨j,rfl⟩
 | x::xs,acc,j,xD,hl=>by
  rw[QN]at hl;have h2:(jS x.2 x.1).length<=60:=by unfold jS;rw[Qg];exact QF (Zj _ _) (xD x Qc)
  have st:=z5o (n:=n) (P:=P) (xD x Qc) x.2 (l:=acc) (by omega);obtain⟨j',e⟩:=Lf xs (acc++jS x.2 x.1) ((i9 x.2),some (bj n x.1,9)) (λy hy=>xD y (Qb _ hy)) (by rw[Qj];omega);exact⟨j',(wK (ac:=C4 n P acc ((i9 x.2)) (some (bj n x.1,9))) rfl st).trans e⟩
include hP hl h3
theorem x9y:xl [aD n P]=some (jv h (iE P),9):=by
 unfold xl IW;refine dw ?_;show az _ _ [some (aD n P,9),none,none,none]=_;refine(aO (ac:=C4 n P [] none none) rfl).trans ?_;have hp:P.length<=1000:=by omega
 have hi:v5 (af (aa 0) ai) (C4 n P [] none none)=some (P.zipIdx.map (λx=>D.tup [iD x.2,bj n x.1]),C4 n P [] none none):=by rw[<- z76];unfold v5;rw[bp (f:=aa 0) (ρ:=C4 n P [] none none) (ac:=C4 n P [] none none) (d:=aD n P) (q:=9) rfl];show(if(P.map (bj n)).length<=1000 then _ else none)=_;rw[Ql (by rw[Qg];exact hp)]
 have DS:∀ x∈P.zipIdx,x.1.W.length<=60:=λx hx=>by have jY:=Yv hx;exact(hP x.1 (jY.2 ▸ QS _)).nk
 obtain⟨j,e⟩:=Lf (n:=n) (P:=P) P.zipIdx [] (none,none) DS (by rw[List.length_zipIdx];show 0+_<=500;omega);refine(aO ((kN hi).trans e)).trans ?_;have l0:bE 0 (C4 n P (iE P) j.1 j.2)=some ((iD h),9,C4 n P (iE P) j.1 j.2):=mi rfl (by show some (P.map (bj n)).length=_;rw[Qg,hl]);exact eF (km (bK l0 (bK (jN (bp (jO (i:=1) (q:=1) (ds:=(iE P).map qS) rfl))) (bp (f:=bS ai) (d:=.tup []) (q:=9) rfl))) (show 3<=1000 by decide))
omit hP hl h3
theorem Lg(hn:l.length<=1000)(g:List Nat):ni [jv h l,.lst (ak g)]=(uL ((l.filter λc=>decide (c.1∈g)).map (·.2))):=by
 unfold ni IY;have hi:cL (aS 0 (eC (.int 1))) [some (jv h l,9),some (.lst (ak g),0)]=some (l.map qS,[some (jv h l,9),some (.lst (ak g),0)]):=by have e:aS 0 (eC (.int 1)) [some (jv h l,9),some (.lst (ak g),0)]=some (.tup (l.map qS),9,[some (jv h l,9),some (.lst (ak g),0)]):=rfl;unfold cL;rw[e];simp only[Qg];rw[Ql hn]
 have ju:=jM (k:=3) (tt:=bf (e2 nV (aa 2) (aa 1))) (te:=aa 3) (deep:=false) (pt:=eQ (bD (aH 2) (bD (aH 3) (bD (aH 4) fG)))) hi (tm qS (λc=>[i9 c.1,i9 c.2,some (.aF,9)]) (λc=>decide (c.1∈g)) (λc=>(iD c.2)) (λ_=>9) l (λc hc=>⟨rfl,fu (cm (fa:=aa 2) (q:=9) rfl (fb:=aa 1) (y:=.lst (ak g)) (q':=0) rfl (KC c.1 g)),λ_=>rfl⟩));have e1:(l.filter λc=>decide (c.1∈g)).map (λc=>(iD c.2))=ak ((l.filter λc=>decide (c.1∈g)).map (·.2)):=by unfold ak;rw[QU];rfl
 rw[e1]at ju;exact dw (eF ju)
theorem DT{h k:Nat}(hk:k<h):jb h (iD k)=true:=by show(decide ((0:Int)<=(k:Int))&&decide ((k:Int)<(h:Int)))=true;rw[QC (by omega),QC (by omega)];rfl
theorem Lh{n:Nat}(h:body (oT n ds)=some (.nx ρ)):bR n body ds=some (.aF,9):=by unfold bR;rw[h]
theorem DU{g:aJ}{d:D}(h:g ρ=some (d,q,ac)):dB g ρ=some (.nx ac):=by unfold dB;rw[h]
theorem y29{k:Nat}(hk:k<h):xo [iD h,iD k]=some (.aF,9):=by have e:=xx h (iD k);rw[DT hk]at e;unfold xo I_;exact Lh ((jo (uP (qO (bh (ds:=[iD k,iD h]) rfl rfl e)))).trans rfl)
theorem Li{k:Nat}(hl:P.length=h)(hk:k<h):sY [aD n P,iD k]=some (.aF,9):=by have e:=xx h (iD k);rw[DT hk]at e;unfold sY IQ;have l0:bE 0 [some (aD n P,9),i9 k]=some ((iD h),9,[some (aD n P,9),i9 k]):=mi rfl (by show some (P.map (bj n)).length=_;rw[Qg,hl]);exact Lh ((jo (uP (qO (bh (bK (f:=aa 1) (q:=9) rfl (bp l0)) rfl e)))).trans rfl)
def gf (l:List (Nat×Nat))(g:List Nat):List Nat:=(l.filter λc=>decide (c.1∈g)).map (·.2)
theorem qT(h5:∀ c∈l,c.2<5)(g:List Nat):∀ k∈gf l g,k<5:=λk hk=>by obtain⟨c,hc,rfl⟩:=Qu.mp hk;exact h5 c (Zx.mp hc).1
theorem j3l(g:List Nat):(gf l g).length<=l.length:=by unfold gf;rw[Qg];exact Zj _ _
theorem y91(hn:l.length<=500)(h5:∀ c∈l,c.2<5){k:Nat}(hk:k<h):xp [jv h l,iD k]=(uL (bl ((gf l [k]).foldl bor 0))):=by unfold xp J_;refine dw ?_;show az _ _ [some (jv h l,9),i9 k]=_;refine(aO (ac:=[some (jv h l,9),i9 k]) (DU (bh (ds:=[iD h,iD k]) rfl rfl (y29 hk)))).trans ?_;exact eF (Lb (ks:=gf l [k]) (q:=1) (bh (ds:=[jv h l,.lst (ak [k])]) rfl rfl (Lg (by omega) [k])) (Qf 1) (qT h5 [k]))
abbrev R4 (h:Nat)(l:List (Nat×Nat))(d:D)(q:Nat)(m:Nat)(a:D)(q2 q3:Nat):aW:=[some (jv h l,9),some (d,q),some (.lst (ak (bl m)),q2),some (a,q3)]
theorem z1v(l:List Nat):cD (.lst (ak l)) .aF=some (.bl true):=by unfold cD;rw[Ql ⟨(sO l).ok,(Sh.aF (k:=0)).ok⟩];rfl
theorem y88(a b:List Nat):ak a++ak b=ak (a++b):=by unfold ak;rw[QZ]
include hP hl h3
end
theorem DV{h:cI}(e:g ρ=some (false,ac)):iL g h ρ=some (false,ac):=by unfold iL;rw[e];rfl
theorem tq{h:cI}(e:g ρ=some (true,ac)):iL g h ρ=h ac:=by unfold iL;rw[e];rfl
def b8 (n:Nat)(f:Nat->Nat->Nat)(P:List Hs)(z:Nat):Nat->List (List Nat)
 | 0=>dY n P.length z
 | k+1=>nx n f P (b8 n f P z k)
section
variable {n:Nat}{f:Nat->Nat->Nat}(L:bF n f){z:Nat}(hz:z<n)(bz:∀ j,j<n->f z j=j){h:Nat}{P:List Hs}(hP:∀ H∈P,H.Ok n f h)(hl:P.length=h)
include L hz bz hP hl
theorem pI:∀ k,e_ n f h (b8 n f P z k)
 | 0=>by show e_ n f h (dY n P.length z);rw[hl];exact K4 L hz bz
 | k+1=>zI L hz bz hP hl (pI k)
omit L hz bz hP hl
theorem Lj{k:Nat}(e:b8 n f P z (k+1)=b8 n f P z k):∀ j,b8 n f P z (k+j)=b8 n f P z k
 | 0=>rfl
 | j+1=>by show nx n f P (b8 n f P z (k+j))=_;rw[Lj e j];exact e
include L hz bz hP hl
theorem j66(hh:h<=3)(hd:d<=500):nh [bH n f,aD n P,iD d]=some (a_ (b8 n f P z (d+1)),9):=by
 obtain⟨ad,e,a,i,rfl⟩:=wL (c:=iL (bf (e2 kE (aa 5) (eC (.int 0)))) (bf (e2 cD (aa 3) (aa 4)))) (b:=sW)
  (Q:=λρ=>∃ (a:D) (i:Int),ρ=Q6 n f P d (b8 n f P z (d+1)) a i)
  (λk ρ=>∃ (i:Nat) (a:D),i<=d+1/\k=d+1-i/\((i=0/\a=.aF)\/∃ j,i=j+1/\a=a_ (b8 n f P z j))/\ρ=Q6 n f P d (b8 n f P z i) a ((d:Int)-(i:Int)))
  (k:=d+1) (ρ:=Q6 n f P d (b8 n f P z 0) .aF (Int.ofNat d)) (by omega)
  ⟨0,.aF,ZA _,rfl,.inl ⟨rfl,rfl⟩,by show _=Q6 n f P d (b8 n f P z 0) .aF ((d:Int)-((0:Nat):Int));rw[show(d:Int)-((0:Nat):Int)=(d:Int)from Int.sub_zero _];rfl⟩ (λk ρ ao=>by
   obtain⟨i,a,hi,hk,h6,rfl⟩:=ao;have g1:bf (e2 kE (aa 5) (eC (.int 0))) (Q6 n f P d (b8 n f P z i) a ((d:Int)-(i:Int)))=some (decide ((0:Int)<=(d:Int)-(i:Int)),Q6 n f P d (b8 n f P z i) a ((d:Int)-(i:Int))):=fu (cm (fa:=aa 5) (fb:=eC (.int 0)) (q:=9) (q':=9) rfl rfl rfl);by_cases hd1:i=d+1
   .subst hd1;rw[QB (by omega)]at g1;exact .inl ⟨_,DV g1,a,_,rfl⟩
   rw[QC (by omega)]at g1;have go:cD (a_ (b8 n f P z i)) a=some (.bl true)->aa 4 (Q6 n f P d (b8 n f P z i) a ((d:Int)-(i:Int)))=some (a,9,Q6 n f P d (b8 n f P z i) a ((d:Int)-(i:Int)))->∃ ac am k',iL (bf (e2 kE (aa 5) (eC (.int 0)))) (bf (e2 cD (aa 3) (aa 4))) (Q6 n f P d (b8 n f P z i) a ((d:Int)-(i:Int)))=some (true,ac)/\sW ac=some (.nx am)/\k'<k/\∃ (i:Nat) (a:D),i<=d+1/\k'=d+1-i/\((i=0/\a=.aF)\/∃ j,i=j+1/\a=a_ (b8 n f P z j))/\am=Q6 n f P d (b8 n f P z i) a ((d:Int)-(i:Int)):=λcG v4=>by
    refine⟨Q6 n f P d (b8 n f P z i) a ((d:Int)-(i:Int)),Q6 n f P d (b8 n f P z (i+1)) (a_ (b8 n f P z i)) ((d:Int)-((i+1:Nat):Int)),d+1-(i+1),?_,?_,by omega,i+1,_,by omega,rfl,.inr ⟨i,rfl,rfl⟩,rfl⟩
    .exact(tq g1).trans (fu (cm (fa:=aa 3) (q:=9) rfl v4 cG))
    .unfold sW;refine(aO (ac:=Q6 n f P d (b8 n f P z i) (a_ (b8 n f P z i)) ((d:Int)-(i:Int))) (cW (d:=a_ (b8 n f P z i)) (q:=9) rfl rfl)).trans ?_;refine(aO (ac:=Q6 n f P d (b8 n f P z (i+1)) (a_ (b8 n f P z i)) ((d:Int)-(i:Int))) (cW (bh (ds:=[bH n f,aD n P,a_ (b8 n f P z i)]) rfl rfl (KZ L hz bz (pI L hz bz hP hl i) hP (by omega))) rfl)).trans ?_;have e1:(d:Int)-(i:Int)-1=(d:Int)-((i+1:Nat):Int):=by omega
     refine cW (d:=.int ((d:Int)-((i+1:Nat):Int))) (q:=9) (ac:=Q6 n f P d (b8 n f P z (i+1)) (a_ (b8 n f P z i)) ((d:Int)-(i:Int))) (cm (fa:=aa 5) (fb:=eC (.int 1)) (q:=9) (q':=9) rfl rfl ?_) rfl;show some (D.int ((d:Int)-(i:Int)-1))=_;rw[e1]
   rcases h6 with⟨rfl,rfl⟩|⟨j,rfl,rfl⟩
   .exact .inr (go (DM _) rfl)
   .by_cases he:b8 n f P z (j+1)=b8 n f P z j
    .have ne:=zJ (b8 n f P z (j+1)) (b8 n f P z j);rw[QC he]at ne;refine .inl ⟨_,(tq g1).trans (fu (cm (fa:=aa 3) (fb:=aa 4) (q:=9) (q':=9) rfl rfl ne)),a_ (b8 n f P z j),(d:Int)-((j+1:Nat):Int),?_⟩;have s1:=Lj he (d+1-j);rw[show j+(d+1-j)=d+1 by omega]at s1;rw[s1,he]
    .exact .inr (go (by rw[zJ,QB he];rfl) rfl))
 unfold nh Dg;refine dw ?_;show az _ _ [t9 n f,some (aD n P,9),i9 d,none,none,none]=_;subst hl;have lr:=K6 L hz bz (rfl:P.length=P.length) (P:=P) (n:=n) (by omega);refine(aO (ac:=[t9 n f,some (aD n P,9),i9 d,some (a_ (dY n P.length z),9),none,none]) (cW (bh (ds:=[bH n f,aD n P]) rfl rfl lr) rfl)).trans ?_;refine(aO (ac:=[t9 n f,some (aD n P,9),i9 d,some (a_ (dY n P.length z),9),some (.aF,9),none]) rfl).trans ?_;refine(aO (ac:=Q6 n f P d (b8 n f P z 0) .aF (Int.ofNat d)) rfl).trans ?_;exact(aO e).trans (eF (ac:=Q6 n f P d _ a i) rfl)
end
theorem z8w:∀ m:Nat,m<32->∀ v:Nat,v<5->∀ k:Nat,k<5->(bl (bor m v)).contains k=((bl m).contains k||k==v):=by decide +kernel
theorem j0o(m:Nat)(hm:m<32)(v:Nat)(hv:v<5)(k:Nat)(hk:k<5):k∈bl (bor m v) ↔ (k∈bl m\/k=v):=by have:=z8w m hm v hv k hk;rw[<- YS,this,YF,YS,ZB]
theorem xE:∀ {g:List Nat} {m:Nat},m<32->(∀ v∈g,v<5)->∀ k:Nat,(k∈bl (g.foldl bor m) ↔ (k∈bl m\/k∈g))
 | [],m,_,_,k=>by simp
 | v::g,m,hm,h5,k=>by
  have hv:=h5 v Qc;have ih:=xE (g:=g) (m:=bor m v) (y_ m hm v hv) (λx hx=>h5 x (Qb _ hx)) k;rw[ZY,ih,Qr];by_cases hk:k<5
  .rw[j0o m hm v hv k hk,or_assoc]
  .constructor
   .rintro (q|q)
    .exact absurd (zb _ q) hk
    .exact .inr (.inr q)
   .rintro (q|q|q)
    .exact absurd (zb _ q) hk
    .exact absurd (q ▸ hv) hk
    .exact .inr q
theorem tb{k:Nat}(hm:m<32)(hk:k<5):m.testBit k=true ↔ k∈bl m:=(za m hm k hk).symm
def nQ (l:List (Nat×Nat))(N:Nat):Prop:=∀ c∈l,c.1∈bl N->c.2∈bl N
section
variable {l:List (Nat×Nat)}(h5:∀ c∈l,c.2<5)
include h5
theorem DW(g:List Nat)(k:Nat):k∈gf l g ↔ ∃ c∈l,c.1∈g/\c.2=k:=by
 unfold gf;rw[Qu];constructor
 .rintro ⟨c,hc,rfl⟩;obtain⟨h1,h2⟩:=Zx.mp hc;exact⟨c,h1,Z4 h2,rfl⟩
 .rintro ⟨c,hc,h1,rfl⟩;exact⟨c,Zx.mpr ⟨hc,QC h1⟩,rfl⟩
theorem z5k(hm:m<32)(e:(gf l (bl m)).foldl bor m=m):nQ l m:=λc hc h1=>by have:=(xE hm (qT h5 (bl m)) c.2).mpr (.inr ((DW h5 (bl m) c.2).mpr ⟨c,hc,h1,rfl⟩));rw[e]at this;exact this
theorem z50(hn:l.length<=500){m0:Nat}(DX:m0<32):∃ M,M<32/\(∀ k∈bl m0,k∈bl M)/\nQ l M/\(∀ N,nQ l N->(∀ k∈bl m0,k∈bl N)->∀ k∈bl M,k∈bl N)/\xm [jv h l,.lst (ak (bl m0))]=some (.lst (ak (bl M)),0):=by
 have b5:∀ (m:Nat),∀ k∈bl m,k<5:=λm k hk=>zb m hk;have st:∀ (m:Nat) (hm:m<32) (a:D) (q3:Nat),(az (aV 3 (aa 2)) (aV 2 (qB (o_ (aa 3) (aE ni 2 (af (aa 0) (af (aa 3) ai))))))) (R4 h l (.lst (ak (bl m0))) 0 m a 0 q3)=some (.nx (R4 h l (.lst (ak (bl m0))) 0 ((gf l (bl m)).foldl bor m) (.lst (ak (bl m))) 1 0)):=λm hm a q3=>by
  refine(aO (ac:=R4 h l (.lst (ak (bl m0))) 0 m (.lst (ak (bl m))) 0 0) (cW (jO (i:=2) (q:=0) rfl) rfl)).trans ?_;have v3:aa 3 (R4 h l (.lst (ak (bl m0))) 0 m (.lst (ak (bl m))) 0 0)=some (.lst (ak (bl m)),0,R4 h l (.lst (ak (bl m0))) 0 m (.lst (ak (bl m))) 0 0):=jO (i:=3) (q:=0) rfl;have c3:=bh (F:=ni) (n:=2) (bK (f:=aa 0) (q:=9) (ρ:=R4 h l (.lst (ak (bl m0))) 0 m (.lst (ak (bl m))) 0 0) (ac:=R4 h l (.lst (ak (bl m0))) 0 m (.lst (ak (bl m))) 0 0) (d:=jv h l) rfl (bp v3)) rfl (Lg (by omega) (bl m));have e1:o_ (aa 3) (aE ni 2 (af (aa 0) (af (aa 3) ai))) (R4 h l (.lst (ak (bl m0))) 0 m (.lst (ak (bl m))) 0 0)=some (.lst (ak (bl m++gf l (bl m))),1,R4 h l (.lst (ak (bl m0))) 0 m (.lst (ak (bl m))) 0 0):=by unfold o_;rw[v3];dsimp only;rw[c3];have g1:=j3l (l:=l) (bl m);have g2:=zc m hm;show(if(ak (bl m)).length+(ak (gf l (bl m))).length<=1000 then some (D.lst (ak (bl m)++ak (gf l (bl m))),1,_)else none)=_;rw[Ql (by rw[iz,iz];omega),y88]
  have e2:=Lb e1 (Qf 1) (λk hk=>by
   rcases QI.mp hk with q|q
   .exact b5 m k q
   .exact qT h5 _ k q)
  rw[Ju,DP m hm]at e2;exact cW e2 rfl
 have keep:∀ m,m<32->(∀ N,nQ l N->(∀ k∈bl m0,k∈bl N)->∀ k∈bl m,k∈bl N)->(∀ N,nQ l N->(∀ k∈bl m0,k∈bl N)->∀ k∈bl ((gf l (bl m)).foldl bor m),k∈bl N):=λm hm hN N cN h0 k hk=>by
  rcases(xE hm (qT h5 (bl m)) k).mp hk with q|q
  .exact hN N cN h0 k q
  .obtain⟨c,hc,h1,rfl⟩:=(DW h5 (bl m) k).mp q;exact cN c hc (hN N cN h0 c.1 h1)
 have up:∀ m,m<32->(∀ k∈bl m0,k∈bl m)->∀ k∈bl m0,k∈bl ((gf l (bl m)).foldl bor m):=λm hm hu k hk=>(xE hm (qT h5 (bl m)) k).mpr (.inl (hu k hk));obtain⟨ad,e,M,a,q2,q3,h1,h2,h3,h4,rfl⟩:=wL (c:=bf (e2 cD (aa 2) (aa 3))) (b:=az (aV 3 (aa 2)) (aV 2 (qB (o_ (aa 3) (aE ni 2 (af (aa 0) (af (aa 3) ai)))))))
  (Q:=λρ=>∃ M a q2 q3,M<32/\(∀ k∈bl m0,k∈bl M)/\nQ l M/\(∀ N,nQ l N->(∀ k∈bl m0,k∈bl N)->∀ k∈bl M,k∈bl N)/\ρ=R4 h l (.lst (ak (bl m0))) 0 M a q2 q3)
  (λk ρ=>∃ m a q2 q3,m<32/\(∀ k∈bl m0,k∈bl m)/\(∀ N,nQ l N->(∀ k∈bl m0,k∈bl N)->∀ k∈bl m,k∈bl N)/\((a=D.aF/\q3=9/\k=40)\/∃ u,a=.lst (ak (bl u))/\q3=0/\u<32/\m=(gf l (bl u)).foldl bor u/\k=32-u)/\ρ=R4 h l (.lst (ak (bl m0))) 0 m a q2 q3)
  (k:=40) (ρ:=R4 h l (.lst (ak (bl m0))) 0 m0 .aF 0 9) (by decide) ⟨m0,.aF,0,9,DX,λk hk=>hk,λN _ h0=>h0,.inl ⟨rfl,rfl,rfl⟩,rfl⟩ (λk ρ ao=>by
   obtain⟨m,a,q2,q3,l2,u0,uN,h6,rfl⟩:=ao;have m2:=DO l2 (qT h5 (bl m));have v2:aa 2 (R4 h l (.lst (ak (bl m0))) 0 m a q2 q3)=some (.lst (ak (bl m)),0,R4 h l (.lst (ak (bl m0))) 0 m a 0 q3):=jO (i:=2) (q:=q2) rfl;rcases h6 with⟨rfl,rfl,rfl⟩|⟨u,rfl,rfl,u2,xA,rfl⟩
   .have te:bf (e2 cD (aa 2) (aa 3)) (R4 h l (.lst (ak (bl m0))) 0 m .aF q2 9)=some (true,R4 h l (.lst (ak (bl m0))) 0 m .aF 0 9):=fu (cm v2 (fb:=aa 3) (q':=9) rfl (z1v _));exact .inr ⟨_,_,32-m,te,st m l2 .aF 9,by omega,_,.lst (ak (bl m)),1,0,m2,up m l2 u0,keep m l2 uN,.inr ⟨m,rfl,rfl,l2,rfl,rfl⟩,rfl⟩
   .have te:bf (e2 cD (aa 2) (aa 3)) (R4 h l (.lst (ak (bl m0))) 0 m (.lst (ak (bl u))) q2 0)=some (!decide (bl m=bl u),R4 h l (.lst (ak (bl m0))) 0 m (.lst (ak (bl u))) 0 0):=fu (cm v2 (jO (i:=3) (q:=0) rfl) (UL _ _));have le:u<=m:=by rw[xA];exact Lc _ u
    by_cases he:bl m=bl u
    .rw[QC he]at te;have:m=u:=j29 l2 u2 he;refine .inl ⟨_,te,m,_,_,_,l2,u0,z5k h5 l2 ?_,uN,rfl⟩;rw[<- this]at xA;exact xA.symm
    .rw[QB he]at te;have:u≠m:=λq=>he (by rw[q]);exact .inr ⟨_,_,32-m,te,st m l2 _ 0,by omega,_,.lst (ak (bl m)),1,0,m2,up m l2 u0,keep m l2 uN,.inr ⟨m,rfl,rfl,l2,rfl,rfl⟩,rfl⟩)
 refine⟨M,h1,h2,h3,h4,?_⟩;unfold xm I0;refine dw ?_;show az _ _ [some (jv h l,9),some (.lst (ak (bl m0)),0),none,none]=_;refine(aO (ac:=[some (jv h l,9),some (.lst (ak (bl m0)),0),some (.lst (ak (bl m0)),0),none]) (cW (jO (i:=1) (q:=0) rfl) rfl)).trans ?_;refine(aO (ac:=R4 h l (.lst (ak (bl m0))) 0 m0 .aF 0 9) rfl).trans ?_;exact(aO e).trans (eF (jO (i:=2) (q:=q2) rfl))
end
theorem DY{g:bP}{p p0:Option Addr}{d:D}(h0:ρ[i]? = some (some (lD p0 ds0,1)))(hg:g ρ=some ([d],ac))(h1:ac[i]? = some (some (lD p ds,1)))(hl:ds.length<=1000)(e:ac.set i (some (lD p (ds++[d]),1))=am):dB (sM i g) ρ=some (.nx am):=by unfold dB sM;rw[h0];simp only[hg,h1];rw[Ql hl,e]
theorem Lk{F:DL}{g:bP}{d0:D}(h0:CF ρ[i]? = true)(hg:g ρ=some (ds,ac))(hn:ds.length+1=n)(h1:zg ac[i]? = some (d0,ds0))(hF:∀ p,F p ds0 ds=some (cJ,r))(hs:(jj r).isSome=true):uo F n i g ρ=some (r,9,ac.set i (some (zf cJ d0,1))):=by unfold uo;rw[Ql h0,hg];simp only[h1,Uu hF];rw[Ql hn,Ql hs]
theorem j4b{A B:aI}{p:Addr}(hA:A (uk n p ds0 ds)=some (.nx ρ))(h4:ρ[ds.length]? = some (some (lD (some p) cJ,1)))(hB:B (ρ.set ds.length none)=some (.rt r q)):sL n A B p ds0 ds=some (cJ,r):=by unfold sL;rw[hA];simp only[h4,hB];exact Ql trivial
abbrev CW:=Nat×Nat×Option (Nat->Nat)
def tu (n:Nat):Option (Nat->Nat)->D
 | none=>.str "in"
 | some r=>iA n r
def cA (n:Nat)(w:CW):D:=.tup [iD w.1,iD w.2.1,tu n w.2.2]
abbrev CR:=Option (Nat->Nat->Nat×List CW)
def aK (P:List Hs)(k:Nat):Hs:=P.getD k ⟨1,[]⟩
def fQ (P:List Hs)(R:CR)(fr0:Nat)(x:Nat×List CW)(w:Nat×Nat×Led):Nat×List CW:=match w.2.2 with
 | .inr r=>(x.1,x.2++[(fr0+w.1,fr0+w.2.1,some r)])
 | .inl k=>match R with
  | none=>x
  | some R=>((R k x.1).1,x.2++[(fr0+w.1,x.1,none)]++[(x.1+(aK P k).p-1,fr0+w.2.1,none)]++(R k x.1).2)
def b_ (P:List Hs)(R:CR)(k fr0:Nat):Nat×List CW:=(aK P k).W.foldl (fQ P R fr0) (fr0+(aK P k).p,[])
def bJ (P:List Hs):Nat->CR
 | 0=>none
 | d+1=>some (b_ P (bJ P d))
def fA:Nat->Nat
 | 0=>1
 | d+1=>2+3*fA d
def lO:Nat->Nat
 | 0=>0
 | d+1=>3+3*lO d
theorem h_{P:List Hs}{k:Nat}(hk:k<P.length):aK P k∈P:=by unfold aK;rw[Qh,Qi hk];exact QS hk
theorem xF{P:List Hs}{k:Nat}(hk:k<P.length):cS (aD n P) (Int.ofNat k)=some (bj n (aK P k)):=by show L2.dz (P.map (bj n)) (Int.ofNat k)=_;refine EV ?_;unfold aK;rw[Qw,Qh,Qi hk];rfl
section
variable {n:Nat}{f:Nat->Nat->Nat}{P:List Hs}(hP:∀ H∈P,H.Ok n f P.length)(h3:∀ H∈P,H.p<=3/\H.W.length<=3)
include hP h3
structure uS (n:Nat) (f:Nat->Nat->Nat) (fr0 p i a b:Nat) (x:Nat×List CW):Prop where
 lo:fr0+p<=x.1
 hi:x.1<=fr0+p+i*a
 len:x.2.length<=i*b
 ok:∀ c∈x.2,c.1<x.1/\c.2.1<x.1/\∀ r,c.2.2=some r->(∀ i,i<n->r i<n)/\∀ x y,x<n->y<n->f x y=y->f (r x) (r y)=r y
theorem zL:∀ (d k fr0:Nat),k<P.length->uS n f fr0 (aK P k).p 3 (lO d) (fA d) (b_ P (bJ P d) k fr0):=by
 intro d;induction d with
 | zero=>
  intro k fr0 hk;have hH:=hP _ (h_ hk);have DZ:=h3 _ (h_ hk);have go:∀ (W:List (Nat×Nat×Led)) (i:Nat) (x:Nat×List CW),(∀ w∈W,w.1<(aK P k).p/\w.2.1<(aK P k).p/\mm n f P.length w.2.2)->uS n f fr0 (aK P k).p i (lO 0) (fA 0) x->uS n f fr0 (aK P k).p (i+W.length) (lO 0) (fA 0) (W.foldl (fQ P (bJ P 0) fr0) x):=by
   intro W;induction W with
   | nil=>intro i x _ h;exact h
   | cons w W ih=>
    intro i x hw h;obtain⟨w1,w2,w3⟩:=hw w Qc;have:=h.lo;rw[QN,show i+(W.length+1)=(i+1)+W.length by omega,ZY];refine ih (i+1) _ (λv hv=>hw v (Qb _ hv)) ?_;have hl:=h.len;have hh:=h.hi;unfold fQ;cases hx:w.2.2 with
    | inl j=>exact⟨h.lo,by show x.1<=fr0+(aK P k).p+(i+1)*0;show x.1<=_;have:x.1<=fr0+(aK P k).p+i*0:=hh;omega,by show x.2.length<=(i+1)*1;have:x.2.length<=i*1:=hl;omega,h.ok⟩
    | inr r=>
     rw[hx]at w3;refine⟨h.lo,by show x.1<=fr0+(aK P k).p+(i+1)*0;have:x.1<=fr0+(aK P k).p+i*0:=hh;omega,by show(x.2++[_]).length<=(i+1)*1;have:x.2.length<=i*1:=hl;rw[Qj];show _+1<=_;omega,λc hc=>?_⟩;rcases QI.mp hc with m|m
     .exact h.ok c m
     .rw[Qs.mp m];exact⟨by show fr0+w.1<x.1;omega,by show fr0+w.2.1<x.1;omega,λr' e=>by cases e;exact w3⟩
  have g:=go (aK P k).W 0 (fr0+(aK P k).p,[]) hH.ws ⟨Qf _,by show _<=_+0*_;omega,by show 0<=_;omega,λ_ z=>nomatch z⟩;exact⟨g.lo,by have:=g.hi;show _<=fr0+(aK P k).p+3*0;have:(b_ P (bJ P 0) k fr0).1<=fr0+(aK P k).p+(0+(aK P k).W.length)*0:=this;omega,by have:=g.len;have:(b_ P (bJ P 0) k fr0).2.length<=(0+(aK P k).W.length)*1:=this;show _<=3*1;omega,g.ok⟩
 | succ d ihd=>
  intro k fr0 hk;have hH:=hP _ (h_ hk);have DZ:=h3 _ (h_ hk);have e1:lO (d+1)=3+3*lO d:=rfl;have e2:fA (d+1)=2+3*fA d:=rfl;have go:∀ (W:List (Nat×Nat×Led)) (i:Nat) (x:Nat×List CW),(∀ w∈W,w.1<(aK P k).p/\w.2.1<(aK P k).p/\mm n f P.length w.2.2)->uS n f fr0 (aK P k).p i (lO (d+1)) (fA (d+1)) x->uS n f fr0 (aK P k).p (i+W.length) (lO (d+1)) (fA (d+1)) (W.foldl (fQ P (bJ P (d+1)) fr0) x):=by
   intro W;induction W with
   | nil=>intro i x _ h;exact h
   | cons w W ih=>
    intro i x hw h;obtain⟨w1,w2,w3⟩:=hw w Qc;have E7:=h.lo;have hl:=h.len;have hh:=h.hi;rw[QN,show i+(W.length+1)=(i+1)+W.length by omega,ZY];refine ih (i+1) _ (λv hv=>hw v (Qb _ hv)) ?_;have m1:(i+1)*lO (d+1)=i*lO (d+1)+lO (d+1):=JP _ _;have m2:(i+1)*fA (d+1)=i*fA (d+1)+fA (d+1):=JP _ _;unfold fQ;cases hx:w.2.2 with
    | inl j=>
     rw[hx]at w3;have hj:j<P.length:=w3;have b:=ihd j x.1 hj;have b1:=b.lo;have b2:=b.hi;have b3:=b.len;have j3:=(h3 _ (h_ hj)).1;have j1:=(hP _ (h_ hj)).p1;show uS n f fr0 (aK P k).p (i+1) (lO (d+1)) (fA (d+1)) ((b_ P (bJ P d) j x.1).1,x.2++[(fr0+w.1,x.1,none)]++[(x.1+(aK P j).p-1,fr0+w.2.1,none)]++(b_ P (bJ P d) j x.1).2);refine⟨by show fr0+_<=(b_ P (bJ P d) j x.1).1;omega,by show(b_ P (bJ P d) j x.1).1<=_;omega,?_,λc hc=>?_⟩
     .show(x.2++[(fr0+w.1,x.1,none)]++[(x.1+(aK P j).p-1,fr0+w.2.1,none)]++(b_ P (bJ P d) j x.1).2).length<=_;rw[Qj,Qj,Qj];show x.2.length+1+1+_<=_;omega
     .rcases QI.mp hc with m|m
      .rcases QI.mp m with m|m
       .rcases QI.mp m with m|m
        .obtain⟨c1,c2,c3⟩:=h.ok c m;exact⟨by show c.1<(b_ P (bJ P d) j x.1).1;omega,by show c.2.1<(b_ P (bJ P d) j x.1).1;omega,c3⟩
        .rw[Qs.mp m];exact⟨by show fr0+w.1<(b_ P (bJ P d) j x.1).1;omega,by show x.1<(b_ P (bJ P d) j x.1).1;omega,λr e=>nomatch e⟩
       .rw[Qs.mp m];exact⟨by show x.1+(aK P j).p-1<(b_ P (bJ P d) j x.1).1;omega,by show fr0+w.2.1<(b_ P (bJ P d) j x.1).1;omega,λr e=>nomatch e⟩
      .exact b.ok c m
    | inr r=>
     rw[hx]at w3;refine⟨h.lo,by show x.1<=_;omega,by show(x.2++[_]).length<=_;rw[Qj];show _+1<=_;omega,λc hc=>?_⟩;rcases QI.mp hc with m|m
     .exact h.ok c m
     .rw[Qs.mp m];exact⟨by show fr0+w.1<x.1;omega,by show fr0+w.2.1<x.1;omega,λr' e=>by cases e;exact w3⟩
  have g:=go (aK P k).W 0 (fr0+(aK P k).p,[]) hH.ws ⟨Qf _,by show _<=_+0*_;omega,by show 0<=_;omega,λ_ z=>nomatch z⟩;have l3:(0+(aK P k).W.length)<=3:=by omega
  exact⟨g.lo,QF g.hi (JL (JE _ l3) _),QF g.len (JE _ l3),g.ok⟩
end
abbrev fg (n:Nat)(P:List Hs)(k d fr0:Nat)(p:Addr)(ds:List D)(H:Hs)(tw:Nat)(a b c:OD):aW:=[some (aD n P,9),i9 k,i9 d,i9 fr0,some (lD (some p) ds,1),i9 H.p,some (.tup (H.W.map (cq n)),9),i9 tw,a,b,c]
def tz (n:Nat)(P:List Hs)(R:DL)(d:Nat):Prop:=∀ (k fr0:Nat) (p:Addr) (ds0:List D),k<P.length->ds0.length+3*fA d<=900->R p ds0 [aD n P,iD k,iD d,iD fr0]=some (ds0++(b_ P (bJ P d) k fr0).2.map (cA n),.int (Int.ofNat (b_ P (bJ P d) k fr0).1))
theorem D0:cb (iD a) (iD b)=some (iD (a+b)):=rfl
theorem zM(h:b<=a):la (iD a) (iD b)=some (iD (a-b)):=by
 show some (D.int (Int.ofNat a-Int.ofNat b))=_;have:Int.ofNat a-Int.ofNat b=Int.ofNat (a-b):=by show(a:Int)-(b:Int)=((a-b:Nat):Int);omega
 rw[this]
abbrev nD (a:Nat):OD:=(i9 a)
section
variable {n:Nat}{f:Nat->Nat->Nat}{P:List Hs}(hP:∀ H∈P,H.Ok n f P.length)(h3:∀ H∈P,H.p<=3/\H.W.length<=3)
include hP h3
theorem z8t(hR:∀ d',d=d'+1->tz n P R d'){k:Nat}{p:Addr}{H:Hs}{w:Nat×Nat×Led}(hw:w.1<H.p/\w.2.1<H.p/\mm n f P.length w.2.2){x:Nat×List CW}(hl:(ds0++x.2.map (cA n)).length+fA d<=900) :
  zr R (fg n P k d fr0 p (ds0++x.2.map (cA n)) H x.1 (nD w.1) (nD w.2.1) (some (cY n w.2.2,9)))=some (.nx (fg n P k d fr0 p (ds0++(fQ P (bJ P d) fr0 x w).2.map (cA n)) H (fQ P (bJ P d) fr0 x w).1 (nD w.1) (nD w.2.1) (some (cY n w.2.2,9)))):=by
 obtain⟨_,_,w3⟩:=hw;have Ll:(ds0++x.2.map (cA n)).length<=1000:=by omega
 unfold zr fQ;cases hx:w.2.2 with
 | inr r=>
  refine(lC (ac:=fg n P k d fr0 p (ds0++x.2.map (cA n)) H x.1 (nD w.1) (nD w.2.1) ((r9 n r))) rfl).trans ?_;refine DY (p:=some p) (ds:=ds0++x.2.map (cA n)) (ac:=fg n P k d fr0 p (ds0++x.2.map (cA n)) H x.1 (nD w.1) (nD w.2.1) ((r9 n r))) (d:=cA n (fr0+w.1,fr0+w.2.1,some r)) rfl rfl rfl Ll ?_;show _=fg n P k d fr0 p (ds0++(x.2++[(fr0+w.1,fr0+w.2.1,some r)]).map (cA n)) H x.1 _ _ _;rw[QZ,<- QW];rfl
 | inl j=>
  rw[hx]at w3;have hj:j<P.length:=w3;refine(jo (ac:=fg n P k d fr0 p (ds0++x.2.map (cA n)) H x.1 (nD w.1) (nD w.2.1) (nD j)) rfl).trans ?_;cases d with
  | zero=>exact(jo (ac:=fg n P k 0 fr0 p (ds0++x.2.map (cA n)) H x.1 (nD w.1) (nD w.2.1) (nD j)) rfl).trans rfl
  | succ d=>
   have j1:=(hP _ (h_ hj)).p1;have em:fA (d+1)=2+3*fA d:=rfl;refine(lC (ac:=fg n P k (d+1) fr0 p (ds0++x.2.map (cA n)) H x.1 (nD w.1) (nD w.2.1) (nD j)) (fu (cm (fa:=aa 2) (fb:=eC (.int 0)) (q:=9) (q':=9) rfl rfl (by show some (D.bl (decide ((0:Int)<Int.ofNat (d+1))))=some (D.bl true);rw[QC (by show(0:Int)<((d+1:Nat):Int);omega)])))).trans ?_
   refine(aO (ac:=fg n P k (d+1) fr0 p (ds0++x.2.map (cA n)++[cA n (fr0+w.1,x.1,none)]) H x.1 (nD w.1) (nD w.2.1) (nD j)) (DY (p:=some p) (ds:=ds0++x.2.map (cA n)) (ac:=fg n P k (d+1) fr0 p (ds0++x.2.map (cA n)) H x.1 (nD w.1) (nD w.2.1) (nD j)) (d:=cA n (fr0+w.1,x.1,none)) rfl rfl rfl Ll rfl)).trans ?_;have l2:(ds0++x.2.map (cA n)++[cA n (fr0+w.1,x.1,none)]).length=(ds0++x.2.map (cA n)).length+1:=by rw[Qj];rfl
   generalize D1:ds0++x.2.map (cA n)++[cA n (fr0+w.1,x.1,none)]=qU at l2 ⊢;have g0:cK (aS 0 (aa 10)) (eC (.int 0)) (fg n P k (d+1) fr0 p qU H x.1 (nD w.1) (nD w.2.1) (nD j))=some (.int (Int.ofNat (aK P j).p),9,fg n P k (d+1) fr0 p qU H x.1 (nD w.1) (nD w.2.1) (nD j)):=qQ (qP (b:=aa 10) (q':=9) rfl rfl (xF hj) rfl) (b:=eC (.int 0)) (q':=9) rfl rfl rfl rfl;have g1:=cm (cm (fa:=aa 7) (q:=9) (ρ:=fg n P k (d+1) fr0 p qU H x.1 (nD w.1) (nD w.2.1) (nD j)) rfl g0 D0) (fb:=eC (.int 1)) (q':=9) rfl (zM (a:=x.1+(aK P j).p) (b:=1) (by omega));refine(aO (ac:=fg n P k (d+1) fr0 p (qU++[cA n (x.1+(aK P j).p-1,fr0+w.2.1,none)]) H x.1 (nD w.1) (nD w.2.1) (nD j)) (DY (p:=some p) (ds:=qU) (ac:=fg n P k (d+1) fr0 p qU H x.1 (nD w.1) (nD w.2.1) (nD j)) (d:=cA n (x.1+(aK P j).p-1,fr0+w.2.1,none)) rfl (bp (km (bK g1 (bK (f:=e2 cb (aa 3) (aa 9)) (q:=9) rfl (bp (f:=eC (.str "in")) (q:=9) rfl))) (show 3<=1000 by decide))) rfl (by omega) rfl)).trans ?_;have l3:(qU++[cA n (x.1+(aK P j).p-1,fr0+w.2.1,none)]).length=(ds0++x.2.map (cA n)).length+2:=by rw[Qj,l2];rfl
   generalize D2:qU++[cA n (x.1+(aK P j).p-1,fr0+w.2.1,none)]=xG at l3 ⊢;have hc:=hR d rfl j x.1;refine cW (Lk (ds0:=xG) (d0:=lD (some p) xG) (ds:=[aD n P,iD j,iD d,iD x.1]) (ac:=fg n P k (d+1) fr0 p xG H x.1 (nD w.1) (nD w.2.1) (nD j)) rfl ?_ rfl rfl (λp=>hc p xG hj (by omega)) rfl) ?_
   .exact bK (f:=aa 0) (q:=9) rfl (bK (f:=aa 10) (q:=9) rfl (bK (cm (fa:=aa 2) (fb:=eC (.int 1)) (q:=9) (q':=9) rfl rfl (zM (a:=d+1) (b:=1) (by omega))) (bp (f:=aa 7) (q:=9) rfl)))
   .show fg n P k (d+1) fr0 p (xG++(b_ P (bJ P d) j x.1).2.map (cA n)) H (b_ P (bJ P d) j x.1).1 (nD w.1) (nD w.2.1) (nD j)=fg n P k (d+1) fr0 p (ds0++(x.2++[(fr0+w.1,x.1,none)]++[(x.1+(aK P j).p-1,fr0+w.2.1,none)]++(b_ P (bJ P d) j x.1).2).map (cA n)) H (b_ P (bJ P d) j x.1).1 (nD w.1) (nD w.2.1) (nD j);rw[<- D2,<- D1,QZ,QZ,QZ,<- QW,<- QW,<- QW];rfl
theorem z8l{w:Nat×Nat×Led}(hw:mm n f P.length w.2.2){x:Nat×List CW}:(fQ P (bJ P d) fr0 x w).2.length<=x.2.length+fA d:=by
 unfold fQ;cases hx:w.2.2 with
 | inr r=>
  show(x.2++[_]).length<=_;rw[Qj];have:1<=fA d:=by cases d<;>(unfold fA;omega)
  show _+1<=_;omega
 | inl j=>
  rw[hx]at hw;cases d with
  | zero=>exact Jz _ _
  | succ d=>
   have b:=(zL hP h3 d j x.1 hw).len;show(x.2++[(fr0+w.1,x.1,none)]++[(x.1+(aK P j).p-1,fr0+w.2.1,none)]++(b_ P (bJ P d) j x.1).2).length<=x.2.length+(2+3*fA d);rw[Qj,Qj,Qj];show x.2.length+1+1+_<=_;omega
theorem z9o(hR:∀ d',d=d'+1->tz n P R d'){k:Nat}{p:Addr}{H:Hs}:∀ (W:List (Nat×Nat×Led)) (x:Nat×List CW) (a b c:OD),(∀ w∈W,w.1<H.p/\w.2.1<H.p/\mm n f P.length w.2.2)->ds0.length+x.2.length+W.length*fA d<=900->
  ∃ a' b' c',fZ (eQ (bD (aH 8) (bD (aH 9) (bD (aH 10) fG)))) (zr R) (W.map (cq n)) (fg n P k d fr0 p (ds0++x.2.map (cA n)) H x.1 a b c)=some (.nx (fg n P k d fr0 p (ds0++(W.foldl (fQ P (bJ P d) fr0) x).2.map (cA n)) H (W.foldl (fQ P (bJ P d) fr0) x).1 a' b' c')):=by
 intro W;induction W with
 | nil=>intro x a b c _ _;exact⟨a,b,c,rfl⟩
 | cons w W ih=>
  intro x a b c hw hl;have uq:=hw w Qc;have m1:(W.length+1)*fA d=W.length*fA d+fA d:=JP _ _;rw[QN]at hl;have t:=z8t hP h3 hR (k:=k) (fr0:=fr0) (p:=p) (ds0:=ds0) (H:=H) uq (x:=x) (by rw[Qj,Qg];omega);have ll:=z8l hP h3 (d:=d) (fr0:=fr0) (x:=x) uq.2.2;obtain⟨a',b',c',e⟩:=ih (fQ P (bJ P d) fr0 x w) (nD w.1) (nD w.2.1) (some (cY n w.2.2,9)) (λv hv=>hw v (Qb _ hv)) (by omega);refine⟨a',b',c',(wK (ac:=fg n P k d fr0 p (ds0++x.2.map (cA n)) H x.1 (nD w.1) (nD w.2.1) (some (cY n w.2.2,9))) ?_ t).trans e⟩;show eQ _ (D.tup [iD w.1,iD w.2.1,cY n w.2.2]) _=_;cases hx:w.2.2<;>rfl
theorem D3(hR:∀ d',d=d'+1->tz n P R d'):tz n P (pC R) d:=λk fr0 p ds0 hk hl=>by
 have hH:=hP _ (h_ hk);have DZ:=h3 _ (h_ hk);have KW:=hH.nk;have lm:(aK P k).W.length*fA d<=3*fA d:=JE _ DZ.2;obtain⟨a,b,c,e⟩:=z9o hP h3 hR (k:=k) (fr0:=fr0) (p:=p) (ds0:=ds0) (H:=aK P k) (aK P k).W (fr0+(aK P k).p,[]) none none none hH.ws (by show ds0.length+0+_<=900;omega);unfold pC HY HZ;refine j4b (ρ:=fg n P k d fr0 p (ds0++(b_ P (bJ P d) k fr0).2.map (cA n)) (aK P k) (b_ P (bJ P d) k fr0).1 a b c) (q:=9) ?_ rfl rfl;refine(aO (ac:=[some (aD n P,9),nD k,nD d,nD fr0,some (lD (some p) ds0,1),nD (aK P k).p,some (.tup ((aK P k).W.map (cq n)),9),none,none,none,none]) (XF (x:=.int (Int.ofNat (aK P k).p)) (y:=.tup ((aK P k).W.map (cq n))) (q:=9) (ac:=[some (aD n P,9),nD k,nD d,nD fr0,some (lD (some p) ds0,1),none,none,none,none,none,none]) (qP (b:=aa 1) (q':=9) rfl rfl (xF hk) rfl) rfl (show 5<11 by decide) (show 6<11 by decide))).trans ?_;refine(aO (ac:=fg n P k d fr0 p ds0 (aK P k) (fr0+(aK P k).p) none none none) (cW (cm (fa:=aa 3) (fb:=aa 5) (q:=9) (q':=9) rfl rfl D0) rfl)).trans ?_;have e0:fg n P k d fr0 p ds0 (aK P k) (fr0+(aK P k).p) none none none=fg n P k d fr0 p (ds0++([]:List CW).map (cA n)) (aK P k) (fr0+(aK P k).p) none none none:=by rw[ZU,Q5]
 rw[e0];have i1:cL (aa 6) (fg n P k d fr0 p (ds0++([]:List CW).map (cA n)) (aK P k) (fr0+(aK P k).p) none none none)=some ((aK P k).W.map (cq n),fg n P k d fr0 p (ds0++([]:List CW).map (cA n)) (aK P k) (fr0+(aK P k).p) none none none):=by have e:aa 6 (fg n P k d fr0 p (ds0++([]:List CW).map (cA n)) (aK P k) (fr0+(aK P k).p) none none none)=some (.tup ((aK P k).W.map (cq n)),9,fg n P k d fr0 p (ds0++([]:List CW).map (cA n)) (aK P k) (fr0+(aK P k).p) none none none):=rfl;unfold cL;rw[e];simp only[Qg];rw[Ql (by omega)]
 exact(kN i1).trans e
theorem z22(hd:d<3):tz n P uB d:=by
 have s1:∀ R,tz n P (pC R) 0:=λR=>D3 hP h3 (λd' e=>nomatch e);have s2:∀ R,tz n P (pC (pC R)) 1:=λR=>D3 hP h3 (λd' e=>by cases e;exact s1 R);unfold uB
 match d,hd with
 | 0,_=>exact s1 _
 | 1,_=>exact s2 _
 | 2,_=>exact D3 hP h3 (λd' e=>by cases e;exact s2 _)
end
def nv:Option (Nat->Nat)->Nat->Nat
 | none=>id
 | some r=>r
def D4 (f:Nat->Nat->Nat)(U:Nat->Nat)(c:CW):Prop:=f (nv c.2.2 (U c.1)) (U c.2.1)=U c.2.1
theorem xH{P:List Hs}{R:CR}{c:CW}:∀ (W:List (Nat×Nat×Led)) (x:Nat×List CW),c∈x.2->c∈(W.foldl (fQ P R fr0) x).2
 | [],x,h=>h
 | w::W,x,h=>xH W (fQ P R fr0 x w) (by
  unfold fQ;cases w.2.2 with
  | inr r=>exact Qx _ h
  | inl j=>
   cases R with
   | none=>exact h
   | some R=>exact Qx _ (Qx _ (Qx _ h)))
theorem Lm{P:List Hs}{R:CR}{w:Nat×Nat×Led}{r:Nat->Nat}(e:w.2.2=.inr r):∀ (W:List (Nat×Nat×Led)) (x:Nat×List CW),w∈W->(fr0+w.1,fr0+w.2.1,some r)∈(W.foldl (fQ P R fr0) x).2
 | v::W,x,h=>by
  rcases Qr.mp h with z|z
  .subst z;refine xH W _ ?_;unfold fQ;rw[e];exact Qm _ (Qs.mpr rfl)
  .exact Lm e W _ z
theorem Ln{P:List Hs}{R:Nat->Nat->Nat×List CW}{w:Nat×Nat×Led}(e:w.2.2=.inl j):∀ (W:List (Nat×Nat×Led)) (x:Nat×List CW),w∈W->∃ tw,(fr0+w.1,tw,none)∈(W.foldl (fQ P (some R) fr0) x).2/\(tw+(aK P j).p-1,fr0+w.2.1,none)∈(W.foldl (fQ P (some R) fr0) x).2/\∀ c∈(R j tw).2,c∈(W.foldl (fQ P (some R) fr0) x).2
 | v::W,x,h=>by
  rcases Qr.mp h with z|z
  .subst z;have hs:∀ c,c∈x.2++[(fr0+w.1,x.1,none)]++[(x.1+(aK P j).p-1,fr0+w.2.1,none)]++(R j x.1).2->c∈(fQ P (some R) fr0 x w).2:=λc hc=>by unfold fQ;rw[e];exact hc
   exact⟨x.1,xH W _ (hs _ (Qx _ (Qx _ (Qm _ (Qs.mpr rfl))))),xH W _ (hs _ (Qx _ (Qm _ (Qs.mpr rfl)))),λc hc=>xH W _ (hs _ (Qm _ hc))⟩
  .exact Ln e W _ z
theorem D5{P:List Hs}{V:List (List Nat)}{k:Nat}(hk:k<P.length):(nx n f P V).getD k []=jR n f V (aK P k):=by unfold nx aK;rw[Qh,Qw,Qh,Qi hk];rfl
theorem Lo{l m:List Nat}(h:i<l.length):gv (l++m) i=gv l i:=by unfold gv;rw[Qh,QL h,Qh]
theorem z9j{l m:List Nat}:gv (l++m) (l.length+i)=gv m i:=by unfold gv;rw[Qh,QX (Jz _ _),Nat.add_sub_cancel_left,Qh]
section
variable {n:Nat}{f:Nat->Nat->Nat}(L:bF n f){z:Nat}(hz:z<n)(bz:∀ j,j<n->f z j=j){P:List Hs}(hP:∀ H∈P,H.Ok n f P.length)
include L hz bz hP
theorem D6{k x:Nat}(hk:k<P.length)(hx:x<n):gv ((b8 n f P z (d+1)).getD k []) x=gv (iC n f (fy (b8 n f P z d) (aK P k) x)) ((aK P k).p-1):=by show gv ((nx n f P (b8 n f P z d)).getD k []) x=_;rw[D5 hk];exact xC L hz bz hx
theorem j7j{k x:Nat}(hk:k<P.length)(hx:x<n):gv ((b8 n f P z 0).getD k []) x=z:=by show gv ((dY n P.length z).getD k []) x=z;unfold dY;rw[Qh,Q8,Ql hk];exact zE hx
def D7 (n:Nat)(f:Nat->Nat->Nat)(P:List Hs)(z d:Nat):Prop:=∀ (k fr0:Nat) (U:Nat->Nat),k<P.length->(∀ i,U i<n)->(∀ c∈(b_ P (bJ P d) k fr0).2,D4 f U c)->∀ x,x<n->f x (U fr0)=U fr0->f (gv ((b8 n f P z (d+1)).getD k []) x) (U (fr0+(aK P k).p-1))=U (fr0+(aK P k).p-1)
theorem Lp(ih:∀ d',d=d'+1->D7 n f P z d'):D7 n f P z d:=λk fr0 U hk hU hc x hx hb=>by
 have hH:=hP _ (h_ hk);have p1:=hH.p1;rw[D6 L hz bz hP hk hx];have oV:=pI L hz bz hP rfl d;have oC:=lN oV hH hx;have av:Vn n (aK P k).p ((range (aK P k).p).map λi=>U (fr0+i)):=⟨by rw[Qg,QR],λy hy=>by obtain⟨i,_,rfl⟩:=Qu.mp hy;exact hU _⟩
 have ag:∀ i,i<(aK P k).p->gv ((range (aK P k).p).map λi=>U (fr0+i)) i=U (fr0+i):=λi hi=>C2 _ hi;have cl:mf f (fw (fy (b8 n f P z d) (aK P k) x)) ((range (aK P k).p).map λi=>U (fr0+i)):=(qR L hz bz).mpr ⟨by rw[ag 0 (by omega)];exact hb,λw hw=>by
  obtain⟨w1,w2,w3⟩:=hH.ws w hw;rw[ag _ w1,ag _ w2];cases uT:w.2.2 with
  | inr r=>exact hc _ (Lm uT _ _ hw)
  | inl j=>
   rw[uT]at w3;have hj:j<P.length:=w3;have j1:=(hP _ (h_ hj)).p1;show f (gv ((b8 n f P z d).getD j []) (U (fr0+w.1))) _=_;cases d with
   | zero=>rw[j7j L hz bz hP hj (hU _)];exact bz _ (hU _)
   | succ d=>
    obtain⟨tw,c1,c2,c3⟩:=Ln (R:=b_ P (bJ P d)) (fr0:=fr0) uT (aK P k).W (fr0+(aK P k).p,[]) hw;have i1:=hc _ c1;have i2:=hc _ c2;have i3:=ih d rfl j tw U hj hU (λc m=>hc c (c3 c m)) (U (fr0+w.1)) (hU _) i1;exact L.le_trans ((pI L hz bz hP rfl (d+1)).at hj |>.V.gv (hU _)) (hU _) (hU _) i3 i2⟩
 have le:=DJ L hz bz oC av cl ((aK P k).p-1) (show(aK P k).p-1<(aK P k).p by omega);rw[ag _ (by omega),show fr0+((aK P k).p-1)=fr0+(aK P k).p-1 by omega]at le;exact le
theorem Lq:∀ d,D7 n f P z d
 | 0=>Lp L hz bz hP λd' e=>nomatch e
 | d+1=>Lp L hz bz hP λd' e=>by cases e;exact Lq d
structure xI (n:Nat) (f:Nat->Nat->Nat) (fr0 p:Nat) (own:List Nat) (y:Nat×List CW) (l:List Nat):Prop where
 lt:∀ v∈l,v<n
 len:y.1=fr0+l.length
 pl:p<=l.length
 ow:∀ i,i<p->gv l i=gv own i
 cl:∀ U:Nat->Nat,(∀ i,i<l.length->U (fr0+i)=gv l i)->∀ c∈y.2,D4 f U c
def D8 (n:Nat)(f:Nat->Nat->Nat)(P:List Hs)(z d:Nat):Prop:=∀ (k fr0 x:Nat),k<P.length->x<n->∃ l,xI n f fr0 (aK P k).p (iC n f (fy (b8 n f P z d) (aK P k) x)) (b_ P (bJ P d) k fr0) l
theorem Lr(ih:∀ d',d=d'+1->D8 n f P z d'):D8 n f P z d:=λk fr0 x hk hx=>by
 have hH:=hP _ (h_ hk);have p1:=hH.p1;have oV:=pI L hz bz hP rfl d;have oC:=lN oV hH hx;have oa:=nu L hz bz oC;have ow:=(qR L hz bz).mp oa.1.cl;have lo:(iC n f (fy (b8 n f P z d) (aK P k) x)).length=(aK P k).p:=oa.1.V.len;have lt:=oa.1.V;generalize iC n f (fy (b8 n f P z d) (aK P k) x)=own at ow lo lt ⊢;have lt:Vn n (aK P k).p own:=lt;have go:∀ (W:List (Nat×Nat×Led)),(∀ w∈W,w∈(aK P k).W)->∀ (y:Nat×List CW) (l:List Nat),xI n f fr0 (aK P k).p own y l->∃ l',xI n f fr0 (aK P k).p own (W.foldl (fQ P (bJ P d) fr0) y) l':=by
  intro W;induction W with
  | nil=>intro _ y l s;exact⟨l,s⟩
  | cons w W ihW=>
   intro hW y l s;have hw:=hW w Qc;obtain⟨w1,w2,w3⟩:=hH.ws w hw;have cw:=ow.2 w hw;have sp:=s.pl
   suffices h:∃ l',xI n f fr0 (aK P k).p own (fQ P (bJ P d) fr0 y w) l' by obtain⟨l',s'⟩:=h;exact ihW (λv hv=>hW v (Qb _ hv)) _ l' s'
   unfold fQ;cases uT:w.2.2 with
   | inr r=>
    rw[uT]at cw;refine⟨l,s.lt,s.len,s.pl,s.ow,λU hU c hc=>?_⟩;rcases QI.mp hc with m|m
    .exact s.cl U hU c m
    .rw[Qs.mp m];show f (r (U (fr0+w.1))) (U (fr0+w.2.1))=U (fr0+w.2.1);rw[hU _ (by omega),hU _ (by omega),s.ow _ w1,s.ow _ w2];exact cw
   | inl j=>
    rw[uT]at w3 cw;have hj:j<P.length:=w3;cases d with
    | zero=>exact⟨l,s⟩
    | succ d=>
     have j1:=(hP _ (h_ hj)).p1;have hs:=lt.gv w1;obtain⟨lj,sj⟩:=ih d rfl j y.1 (gv own w.1) hj hs;have oVj:=pI L hz bz hP rfl d;have oCj:=lN oVj (hP _ (h_ hj)) hs;have oj:=(qR L hz bz).mp (nu L hz bz oCj).1.cl;have pj:=sj.pl;have yl:=s.len;show ∃ l',xI n f fr0 (aK P k).p own ((b_ P (bJ P d) j y.1).1,y.2++[(fr0+w.1,y.1,none)]++[(y.1+(aK P j).p-1,fr0+w.2.1,none)]++(b_ P (bJ P d) j y.1).2) l';refine⟨l++lj,λv hv=>?_,?_,by rw[Qj];omega,λi hi=>?_,λU hU c hc=>?_⟩
     .rcases QI.mp hv with m|m
      .exact s.lt v m
      .exact sj.lt v m
     .show(b_ P (bJ P d) j y.1).1=_;rw[sj.len,yl,Qj];omega
     .rw[Lo (by omega)];exact s.ow i hi
     .rw[Qj]at hU;have D9:∀ i,i<l.length->U (fr0+i)=gv l i:=λi hi=>by rw[hU i (by omega),Lo hi]
      have D_:∀ i,i<lj.length->U (y.1+i)=gv lj i:=λi hi=>by rw[yl,Nat.add_assoc,hU (l.length+i) (by omega),z9j]
      have us:U (fr0+w.1)=gv own w.1:=by rw[D9 _ (by omega),s.ow _ w1]
      have ug:U (fr0+w.2.1)=gv own w.2.1:=by rw[D9 _ (by omega),s.ow _ w2]
      rcases QI.mp hc with m|m
      .rcases QI.mp m with m|m
       .rcases QI.mp m with m|m
        .exact s.cl U D9 c m
        .rw[Qs.mp m];show f (U (fr0+w.1)) (U y.1)=U y.1;have u0:U y.1=gv (iC n f (fy (b8 n f P z d) (aK P j) (gv own w.1))) 0:=by have:=D_ 0 (by omega);rw[sj.ow 0 (by omega)]at this;exact this
         rw[us,u0];exact oj.1
       .rw[Qs.mp m];show f (U (y.1+(aK P j).p-1)) (U (fr0+w.2.1))=U (fr0+w.2.1);have u1:U (y.1+(aK P j).p-1)=gv (iC n f (fy (b8 n f P z d) (aK P j) (gv own w.1))) ((aK P j).p-1):=by rw[show y.1+(aK P j).p-1=y.1+((aK P j).p-1)by omega,D_ _ (by omega),sj.ow _ (by omega)]
        rw[ug,u1,<- D6 L hz bz hP hj hs];exact cw
      .exact sj.cl U D_ c m
 exact go (aK P k).W (λw hw=>hw) (fr0+(aK P k).p,[]) own ⟨lt.lt,by show _=fr0+own.length;rw[lo],by rw[lo];exact Qf _,λi _=>rfl,λU _ c hc=>nomatch hc⟩
theorem Ls:∀ d,D8 n f P z d
 | 0=>Lr L hz bz hP λd' e=>nomatch e
 | d+1=>Lr L hz bz hP λd' e=>by cases e;exact Ls d
def bL (P:List Hs)(d v:Nat):f9:=⟨(b_ P (bJ P d) 0 0).1,(b_ P (bJ P d) 0 0).2.map λc=>(c.1,c.2.1,nv c.2.2),[(0,v)]⟩
theorem Lu{v:Nat}:mf f (fw (bL P d v)) u ↔ f v (gv u 0)=gv u 0/\∀ c∈(b_ P (bJ P d) 0 0).2,D4 f (gv u) c:=by
 constructor
 .intro h;refine⟨h (jQ (0,v)) (Qx _ (Qs.mpr rfl)),λa ha=>?_⟩;exact h (oh (a.1,a.2.1,nv a.2.2)) (Qm _ (Jd (Jd (f:=λc:CW=>(c.1,c.2.1,nv c.2.2)) ha)))
 .intro h s hs;rcases QI.mp hs with m|m
  .have:s=jQ (0,v):=Qs.mp m;subst this;exact h.1
  .obtain⟨b,hb,rfl⟩:=Qu.mp m;obtain⟨a,ha,rfl⟩:=Qu.mp hb;exact h.2 a ha
theorem j56(h3:∀ H∈P,H.p<=3/\H.W.length<=3)(hp:0<P.length){v:Nat}(hd:d<3)(hv:v<n):(bL P d v).Ok n f:=by
 have b:=zL hP h3 d 0 0 hp;have b1:=b.lo;have b2:=b.hi;have b3:=b.len;have q1:=(hP _ (h_ hp)).p1;have q3:=(h3 _ (h_ hp)).1;have e1:3*lO d<=36/\3*fA d<=51:=by
  match d,hd with
  | 0,_=>decide
  | 1,_=>decide
  | 2,_=>decide
 refine⟨by show 1<=(b_ P (bJ P d) 0 0).1;omega,by show(b_ P (bJ P d) 0 0).1<=40;omega,by show((b_ P (bJ P d) 0 0).2.map _).length<=60;rw[Qg];omega,by show 1<=60;decide,λw hw=>?_,λw hw=>?_⟩
 .obtain⟨c,hc,rfl⟩:=Qu.mp hw;obtain⟨c1,c2,c3⟩:=b.ok c hc;refine⟨c1,c2,?_⟩;show(∀ i,i<n->nv c.2.2 i<n)/\∀ x y,x<n->y<n->f x y=y->f (nv c.2.2 x) (nv c.2.2 y)=nv c.2.2 y;cases e:c.2.2 with
  | none=>exact⟨λi hi=>hi,λx y _ _ h=>h⟩
  | some r=>exact c3 r e
 .have:w=(0,v):=Qs.mp hw;subst this;exact⟨by show 0<(b_ P (bJ P d) 0 0).1;omega,hv⟩
theorem z8s(hp:0<P.length){v:Nat}(hv:v<n)(hu:DA n f (bL P d v) (gS (bL P d v).p z) u):gv u ((aK P 0).p-1)=gv ((b8 n f P z (d+1)).getD 0 []) v:=by
 have p1:=(hP _ (h_ hp)).p1;have hU:∀ i,gv u i<n:=λi=>by
  by_cases hi:i<u.length
  .exact hu.V.lt _ (CZ hi)
  .have:gv u i=0:=by unfold gv;rw[Qh,QO (by omega)];rfl
   rw[this];omega
 have cu:=(Lu L hz bz hP).mp hu.cl;have lo:=Lq L hz bz hP d 0 0 (gv u) hp hU cu.2 v hv cu.1;rw[Y9]at lo;obtain⟨l,s⟩:=Ls L hz bz hP d 0 0 v hp hv;have sl:=s.len;rw[Y9]at sl;have sp:=s.pl;have oC:=lN (pI L hz bz hP rfl d) (hP _ (h_ hp)) hv;have ow:=(qR L hz bz).mp (nu L hz bz oC).1.cl;have Vl:Vn n (bL P d v).p l:=⟨sl.symm,s.lt⟩;have hi:eG f (bL P d v).p u l:=hu.le l Vl ((Lu L hz bz hP).mpr ⟨by rw[s.ow 0 (by omega)];exact ow.1,s.cl (gv l) λi _=>by rw[Y9]⟩) (DH bz Vl);have h2:=hi ((aK P 0).p-1) (by show _<(b_ P (bJ P d) 0 0).1;omega);rw[s.ow _ (by omega),<- D6 L hz bz hP hp hv]at h2;have r1:=((pI L hz bz hP rfl (d+1)).at hp).V.gv hv;exact L.iS (hU _) r1 h2 lo
end
theorem Lv{H:Hs}{A B:List (List Nat)}(h:∀ w∈H.W,∀ j,w.2.2=.inl j->A.getD j []=B.getD j []):jR n f A H=jR n f B H:=by
 have e:∀ w,fy A H w=fy B H w:=λw=>by
  unfold fy;congr 1;apply Zc;intro a ha;cases hx:a.2.2 with
  | inl k=>
   show(a.1,a.2.1,gv (A.getD k []))=(a.1,a.2.1,gv (B.getD k []));rw[h a ha k hx]
  | inr r=>rfl
 unfold jR;apply Zc;intro w _;rw[e w]
section
variable {n:Nat}{f:Nat->Nat->Nat}{P:List Hs}(hP:∀ H∈P,H.Ok n f P.length)(h3:P.length<=3)
include hP h3
theorem Lw{k:Nat}(hk:k<P.length){w:Nat×Nat×Led}(hw:w∈(aK P k).W)(e:w.2.2=.inl j):(k,j)∈iE P:=by
 refine(DQ P.zipIdx [] _).mpr (.inr ⟨(aK P k,k),?_,?_⟩)
 .rw[List.mem_zipIdx_iff_getElem?];unfold aK;rw[Qh,Qi hk];rfl
 .refine Qu.mpr ⟨w,Zx.mpr ⟨hw,by rw[e];rfl⟩,?_⟩;rw[e];rfl
theorem Lx{k:Nat}(hk:k<P.length):∃ b,mh [aD n P,iD k]=(b9 b)/\(b=false->(∀ c∈iE P,c.1=k->c.2≠k)/\∀ c∈iE P,∀ c'∈iE P,c.1=k->c'.1=c.2->c'.2≠k):=by
 have hn:(iE P).length<=500:=by
  have:=Ld P.zipIdx [] λx hx=>by have jY:=Yv hx;exact(hP x.1 (jY.2 ▸ QS _)).nk
  rw[List.length_zipIdx]at this;unfold iE;simp only[JG]at this;omega
 have h5:∀ c∈iE P,c.2<5:=λc hc=>by have:=(DR hP rfl h3 hc).2;omega
 have DX:(gf (iE P) [k]).foldl bor 0<32:=DO (by decide) (qT h5 [k]);obtain⟨M,hM,h0,cM,_,e⟩:=z50 h5 (h:=P.length) hn DX;have eb:xq [aD n P,iD k]=some (.lst (ak (bl M)),0):=by unfold xq Ka;refine dw ?_;show az _ _ [some (aD n P,9),i9 k,none]=_;refine(aO (ac:=[some (aD n P,9),i9 k,none]) (DU (bh (ds:=[aD n P,iD k]) rfl rfl (Li rfl hk)))).trans ?_;refine(aO (ac:=[some (aD n P,9),i9 k,some (jv P.length (iE P),9)]) (cW (bh (ds:=[aD n P]) rfl rfl (x9y hP rfl h3)) rfl)).trans ?_;exact eF (bh (bK (f:=aa 2) (q:=9) rfl (bp (bh (ds:=[jv P.length (iE P),iD k]) rfl rfl (y91 hn h5 hk)))) rfl e)
 refine⟨decide (k∈bl M),?_,λhb=>?_⟩
 .unfold mh Kc;exact dw (eF (cm (fa:=aa 1) (q:=9) rfl (bh (ds:=[aD n P,iD k]) rfl rfl eb) (KC k (bl M))))
 .have uc:k ∉ bl M:=of_decide_eq_false hb;have fr0:∀ c∈iE P,c.1=k->c.2∈bl M:=λc hc q=>by refine h0 _ ((xE (by decide) (qT h5 [k]) c.2).mpr (.inr ?_));exact(DW h5 [k] c.2).mpr ⟨c,hc,by rw[q];exact Qs.mpr rfl,rfl⟩
  refine⟨λc hc q z=>uc (z ▸ fr0 c hc q),λc hc c' kq q q' z=>uc (z ▸ cM c' kq ?_)⟩;rw[q'];exact fr0 c hc q
end
section
variable {n:Nat}{f:Nat->Nat->Nat}(L:bF n f){z:Nat}(hz:z<n)(bz:∀ j,j<n->f z j=j){P:List Hs}(hP:∀ H∈P,H.Ok n f P.length)
include L hz bz hP
theorem j1s(hp:0<P.length)(h2:P.length<=2){V:List (List Nat)}(hV:zK n f P.length P V)(hd:P.length<=d)(n0:∀ c∈iE P,c.1=0->c.2≠0)(n00:∀ c∈iE P,∀ c'∈iE P,c.1=0->c'.1=c.2->c'.2≠0)(n1:∀ c∈iE P,c.1=P.length-1->c.2≠P.length-1) :
  (b8 n f P z (d+1)).getD 0 []=V.getD 0 []:=by
 have rV:∀ {k:Nat},k<P.length->V.getD k []=jR n f V (aK P k):=λ{k} hk=>by have:=D5 (n:=n) (f:=f) (V:=V) hk;rw[hV.fx]at this;exact this
 have rI:∀ {k e:Nat},k<P.length->(b8 n f P z (e+1)).getD k []=jR n f (b8 n f P z e) (aK P k):=λ{k e} hk=>D5 hk;have h3:P.length<=3:=by omega
 rw[rI hp,rV hp];refine Lv λw hw j e=>?_;have hc:=Lw hP h3 hp hw e;have hj:=(DR hP rfl h3 hc).2;have hj0:j≠0:=n0 _ hc rfl;have iR:j<P.length:=hj;obtain⟨e',rfl⟩:∃ e',d=e'+1:=⟨d-1,by omega⟩;rw[rI iR,rV iR];refine Lv λw' me j' e2=>?_;have kq:=Lw hP h3 iR me e2;have g1:j'≠0:=n00 _ hc _ kq rfl rfl;have g2:j'≠P.length-1:=n1 _ kq (by show j=_;omega);have g3:j'<P.length:=(DR hP rfl h3 kq).2;omega
end
theorem z52{x:gA}(h:g ρ=some (true,ac)):sG g x y ρ=x ac:=by unfold sG;rw[h];rfl
theorem z6p{x:gA}(h:g ρ=some (false,ac)):sG g x y ρ=y ac:=by unfold sG;rw[h];rfl
theorem j4q:zw [.exc "NoHouse"]=some (.str "no house",9):=by rfl
section
variable {n:Nat}{f:Nat->Nat->Nat}{P:List Hs}
theorem z2q{i:Int}(h:jb P.length (.int i)=false):xj [aD n P,.int i]=some ("NoHouse":Str):=by have e:=xx P.length (.int i);rw[h]at e;have l0:bE 0 [some (aD n P,9),some (.int i,9)]=some ((iD P.length),9,[some (aD n P,9),some (.int i,9)]):=mi rfl (by show some (P.map (bj n)).length=_;rw[Qg]);have t:=uP (qO (bh (F:=lL) (n:=2) (bK (f:=aa 1) (q:=9) (ρ:=[some (aD n P,9),some (.int i,9)]) rfl (bp l0)) rfl e));exact(z52 t).trans rfl
theorem z46{k:Nat}(h:k<P.length):xj [aD n P,iD k]=none:=by have e:=xx P.length (iD k);rw[DT h]at e;have l0:bE 0 [some (aD n P,9),i9 k]=some ((iD P.length),9,[some (aD n P,9),i9 k]):=mi rfl (by show some (P.map (bj n)).length=_;rw[Qg]);have t:=uP (qO (bh (F:=lL) (n:=2) (bK (f:=aa 1) (q:=9) (ρ:=[some (aD n P,9),i9 k]) rfl (bp l0)) rfl e));exact(z6p t).trans rfl
abbrev A7 (n:Nat)(f:Nat->Nat->Nat)(P:List Hs)(i:Int)(v:Nat)(a b c:OD):aW:=[t9 n f,some (aD n P,9),some (.int i,9),i9 v,a,b,c]
theorem z45{i:Int}{v:Nat}(h:jb P.length (.int i)=false):qM [bH n f,aD n P,.int i,iD v]=some (.str "no house",9):=by
 unfold qM Dp;refine dw ?_;show az _ _ (A7 n f P i v none none none)=_;refine(aO (ac:=A7 n f P i v (some (.aF,9)) none none) rfl).trans ?_;refine(aO (ac:=A7 n f P i v (some (.aF,9)) (some (.aF,9)) none) rfl).trans ?_;have y:wj pE 4 (af (aa 0) (af (aa 1) (af (aa 2) (af (aa 3) ai)))) (A7 n f P i v (some (.aF,9)) (some (.aF,9)) none)=some (("NoHouse":Str),A7 n f P i v (some (.aF,9)) (some (.aF,9)) none):=by show(pE [bH n f,aD n P,.int i,iD v]).map _=_;have e:pE [bH n f,aD n P,.int i,iD v]=some ("NoHouse":Str):=z2q h;rw[e];rfl
 refine(aO (ac:=A7 n f P i v (some (.exc "NoHouse",9)) (some (.aF,9)) none) (by unfold wm;rw[y];rfl)).trans ?_
 refine(aO (ac:=A7 n f P i v (some (.exc "NoHouse",9)) (some (.aF,9)) none) rfl).trans ?_;exact eF (bh (ds:=[.exc "NoHouse"]) rfl rfl j4q)
theorem z1i{k v:Nat}(h:k<P.length)(ha:uF [bH n f,aD n P,iD k,iD v]=(v9 u)):qM [bH n f,aD n P,iD k,iD v]=(v9 u):=by
 unfold qM Dp;refine dw ?_;show az _ _ (A7 n f P (Int.ofNat k) v none none none)=_;refine(aO (ac:=A7 n f P (Int.ofNat k) v (some (.aF,9)) none none) rfl).trans ?_;refine(aO (ac:=A7 n f P (Int.ofNat k) v (some (.aF,9)) (some (.aF,9)) none) rfl).trans ?_;have y:wj pE 4 (af (aa 0) (af (aa 1) (af (aa 2) (af (aa 3) ai)))) (A7 n f P (Int.ofNat k) v (some (.aF,9)) (some (.aF,9)) none)=none:=by show(pE [bH n f,aD n P,iD k,iD v]).map _=_;have e:pE [bH n f,aD n P,iD k,iD v]=none:=z46 h;rw[e];rfl
 refine(aO (ac:=A7 n f P (Int.ofNat k) v (some (.aF,9)) ((v9 u)) none) (by unfold wm;rw[y];exact cW (bh (ds:=[bH n f,aD n P,iD k,iD v]) rfl rfl ha) rfl)).trans ?_
 exact uu ((lC (ac:=A7 n f P (Int.ofNat k) v (some (.aF,9)) ((v9 u)) none) rfl).trans rfl)
end
section
variable {n:Nat}{f:Nat->Nat->Nat}(L:bF n f){z:Nat}(hz:z<n)(bz:∀ j,j<n->f z j=j){P:List Hs}(hP:∀ H∈P,H.Ok n f P.length)
include L hz bz hP
theorem y6v{V:List (List Nat)}(hV:e_ n f P.length V)(eS:pD [bH n f,aD n P]=some (a_ V,9)){k v:Nat}(hk:k<P.length)(hv:v<n):uF [bH n f,aD n P,iD k,iD v]=(v9 (iC n f (fy V (aK P k) v))):=by have hH:=hP _ (h_ hk);have oc:=nu L hz bz (lN hV hH hv);unfold uF IU;refine dw ?_;show az _ _ [t9 n f,some (aD n P,9),i9 k,i9 v]=_;refine(aO (ac:=[t9 n f,some (aD n P,9),i9 k,i9 v]) (DU (bh (ds:=[aD n P,iD k]) rfl rfl (Li rfl hk)))).trans ?_;exact eF (bh (bK (f:=aa 0) (q:=9) rfl (bp (bh (bK (qP (b:=aa 2) (q':=9) rfl rfl (xF hk) rfl) (bK (bh (ds:=[bH n f,aD n P]) rfl rfl eS) (bp (f:=aa 3) (q:=9) rfl))) rfl (KU hV hH)))) rfl oc.2)
end
theorem j67{v:Nat}:L3.l_ ds none (some (Int.ofNat v))=ds.take v:=by
 unfold L3.l_;have e1:HT.bq ds.length 0 none=0:=rfl;have e2:HT.bq ds.length ds.length (some (Int.ofNat v))=min v ds.length:=HT.Nq _ _ v;rw[e1,e2,YX,Y6];by_cases h:v<=ds.length
 .rw[Nat.min_eq_left h]
 .rw[Nat.min_eq_right (by omega),JA,YD (by omega)]
theorem Ly{k:Nat}(h:fa ρ=some (.tup ds,q,ac)):lz fa mU (l9 (eC (iD k))) ρ=some (.tup (ds.take k),9,ac):=by unfold lz;rw[h];show some (D.tup (L3.l_ ds none (some (Int.ofNat k))),9,ac)=_;rw[j67]
theorem Ea(h:0<b):lb (iD a) (iD b)=some (iD (a % b)):=by
 have h1:(0:Int)<Int.ofNat b:=by show(0:Int)<(b:Int);omega
 unfold lb gI;show(if _ then some (D.int (Int.ofNat a % Int.ofNat b))else none)=_;rw[Ql h1];rfl
def kU (H:Hs):Hs:=⟨min H.p 3,H.W.take 3⟩
def tB (h:Nat):Led->Led
 | .inl j=>.inl (j % h)
 | .inr r=>.inr r
def zN (h p:Nat)(w:Nat×Nat×Led):Nat×Nat×Led:=(w.1 % p,w.2.1 % p,tB h w.2.2)
def pJ (h:Nat)(H:Hs):Hs:=⟨H.p,H.W.map (zN h H.p)⟩
def lP (P:List Hs):List Hs:=((P.take 2).map kU).map (pJ (P.take 2).length)
theorem j0w{P:List Hs}(h1:1<=P.length)(hP:∀ H∈P,H.Ok n f P.length):0<(lP P).length/\(lP P).length<=2/\(∀ H∈lP P,H.Ok n f (lP P).length)/\∀ H∈lP P,H.p<=3/\H.W.length<=3:=by
 have hl:(lP P).length=(P.take 2).length:=by unfold lP;rw[Qg,Qg]
 have h2:(P.take 2).length<=2:=by rw[Q7];omega
 have h0:0<(P.take 2).length:=by rw[Q7];omega
 have key:∀ H∈lP P,H.Ok n f (lP P).length/\H.p<=3/\H.W.length<=3:=λH hH=>by
  obtain⟨H1,CG,rfl⟩:=Qu.mp hH;obtain⟨H0,vY,rfl⟩:=Qu.mp CG;have ok:=hP H0 (ZP vY);have p1:=ok.p1;have m1:1<=min H0.p 3:=by omega
  have wl:((kU H0).W.map (zN (P.take 2).length (kU H0).p)).length<=3:=by rw[Qg];show(H0.W.take 3).length<=3;rw[Q7];omega
  refine⟨⟨m1,by show min H0.p 3<=8;omega,QF wl (by decide),λw hw=>?_⟩,by show min H0.p 3<=3;omega,wl⟩;obtain⟨w0,hw0,rfl⟩:=Qu.mp hw;obtain⟨_,_,w3⟩:=ok.ws w0 (ZP hw0);refine⟨Y3 _ (by show 0<min H0.p 3;omega),Y3 _ (by show 0<min H0.p 3;omega),?_⟩;show mm n f (lP P).length (tB (P.take 2).length w0.2.2);cases hx:w0.2.2 with
  | inl j=>
   show j % (P.take 2).length<(lP P).length;rw[hl];exact Y3 _ h0
  | inr r=>rw[hx]at w3;exact w3
 exact⟨by omega,by omega,λH hH=>(key H hH).1,λH hH=>(key H hH).2⟩
abbrev dy (ns:List Int)(n:Nat)(f:Nat->Nat->Nat)(a2 a3 a4 a5 a6 a7 a8 a9 a10 a11 a12 a13 a14 a15 a16 a17 a18 a19:OD):aW:=[n0 ns,t9 n f,a2,a3,a4,a5,a6,a7,a8,a9,a10,a11,a12,a13,a14,a15,a16,a17,a18,a19]
abbrev dH (ns:List Int)(n:Nat)(f:Nat->Nat->Nat)(a2 a3 a4 a5 a6 a7 a8 a9:OD):aW:=dy ns n f a2 a3 a4 a5 a6 a7 a8 a9 none none none none none none none none none none
theorem z4x{P:List Hs}(hP:∀ H∈P,H.Ok n f P.length)(eP:n8 [d7 ns,.int 20,bH n f]=some (aD n P,9)) :
  aV 2 (fF (af (eO 1 (cL (lz (aE n8 3 (af (aa 0) (af (eC (.int 20)) (af (aa 1) ai)))) mU (l9 (eC (.int 2))))) (aH 20) dC (bS (af (eB uj (af (aS 20 (eC (.int 0))) (af (eC (.int 3)) ai))) (af (lz (aS 20 (eC (.int 1))) mU (l9 (eC (.int 3)))) ai))) false) ai)) (dH ns n f none none none none none none none none)=some (.nx (dH ns n f (some (aD n ((P.take 2).map kU),9)) none none none none none none none)):=by
 have e0:lz (aE n8 3 (af (aa 0) (af (eC (.int 20)) (af (aa 1) ai)))) mU (l9 (eC (.int 2))) (dH ns n f none none none none none none none none)=some (.tup ((P.map (bj n)).take 2),9,dH ns n f none none none none none none none none):=Ly (k:=2) (bh (F:=n8) (n:=3) (g:=af (aa 0) (af (eC (.int 20)) (af (aa 1) ai))) (ρ:=dH ns n f none none none none none none none none) (ds:=[d7 ns,.int 20,bH n f]) rfl rfl eP);have h2:(P.take 2).length<=2:=by rw[Q7];omega
 have hi:cL (lz (aE n8 3 (af (aa 0) (af (eC (.int 20)) (af (aa 1) ai)))) mU (l9 (eC (.int 2)))) (dH ns n f none none none none none none none none)=some ((P.take 2).map (bj n),dH ns n f none none none none none none none none):=by unfold cL;rw[e0,<- Yj];simp only[Qg];rw[Ql (by omega)]
 have ju:=jM (k:=1) (tt:=dC) (te:=bS (af (eB uj (af (aS 20 (eC (.int 0))) (af (eC (.int 3)) ai))) (af (lz (aS 20 (eC (.int 1))) mU (l9 (eC (.int 3)))) ai))) (deep:=false) (pt:=aH 20) hi (tm (bj n) (λH=>[some (bj n H,9)]) (λ_=>true) (λH=>bj n (kU H)) (λ_=>9) (P.take 2) (λH hH=>⟨rfl,rfl,λ_=>by
  have b1:eB uj (af (aS 20 (eC (.int 0))) (af (eC (.int 3)) ai)) (dH ns n f none none none none none none none none++[some (bj n H,9)])=some ((iD (min H.p 3)),9,dH ns n f none none none none none none none none++[some (bj n H,9)]):=by
   show some (D.int (if(3:Int)<Int.ofNat H.p then 3 else Int.ofNat H.p),9,_)=_;have:(if(3:Int)<Int.ofNat H.p then(3:Int)else Int.ofNat H.p)=Int.ofNat (min H.p 3):=by have e:Int.ofNat H.p=(H.p:Int):=rfl;have e':Int.ofNat (min H.p 3)=((min H.p 3:Nat):Int):=rfl;rw[e,e'];split<;>omega
   rw[this]
  have b2:=Ly (k:=3) (fa:=aS 20 (eC (.int 1))) (ρ:=dH ns n f none none none none none none none none++[some (bj n H,9)]) (q:=9) (ac:=dH ns n f none none none none none none none none++[some (bj n H,9)]) (ds:=H.W.map (cq n)) rfl;rw[<- Yj]at b2;exact km (bK b1 (bp b2)) (show 2<=1000 by decide)⟩))
 have e1:((P.take 2).filter λ_=>true).map (λH=>bj n (kU H))=((P.take 2).map kU).map (bj n):=by rw[QU,Jc.mpr λ_ _=>rfl];rfl
 rw[e1]at ju;exact cW (jN (bp ju)) rfl
theorem z5s{Q:List Hs}(h0:0<Q.length)(h2:Q.length<=2)(hQ:∀ H∈Q,0<H.p/\H.W.length<=60) :
  ∃ a b c d e g:OD,fZ (eQ (bD (aH 4) (bD (aH 5) fG))) Du (Q.map (bj n)) (dH ns n f (some (aD n Q,9)) (some (.lst [],1)) none none none none none none)=some (.nx (dH ns n f (some (aD n Q,9)) (some (.lst ((Q.map (pJ Q.length)).map (bj n)),1)) a b c d e g)):=by
 obtain⟨j,e⟩:=zG (J:=OD×OD×OD×OD×OD×OD) (pt:=eQ (bD (aH 4) (bD (aH 5) fG))) (body:=Du) (bj n) (λl j=>dH ns n f (some (aD n Q,9)) (some (.lst l,1)) j.1 j.2.1 j.2.2.1 j.2.2.2.1 j.2.2.2.2.1 j.2.2.2.2.2) (λH=>bj n (pJ Q.length H)) Q [] (none,none,none,none,none,none) (by show 0+_<=1000;omega) (λH hH l j hl=>by
  obtain⟨p1,nk⟩:=hQ H hH;obtain⟨j',e⟩:=zG (J:=OD×OD×OD) (pt:=eQ (bD (aH 7) (bD (aH 8) (bD (aH 9) fG)))) (body:=Ko) (cq n) (λrow j=>dH ns n f (some (aD n Q,9)) (some (.lst l,1)) (nD H.p) (some (.tup (H.W.map (cq n)),9)) (some (.lst row,1)) j.1 j.2.1 j.2.2) (λw=>cq n (zN Q.length H.p w)) H.W [] (j.2.2.2.1,j.2.2.2.2.1,j.2.2.2.2.2) (by show 0+_<=1000;omega) (λw hw row j Eb=>by
   refine⟨dH ns n f (some (aD n Q,9)) (some (.lst l,1)) (nD H.p) (some (.tup (H.W.map (cq n)),9)) (some (.lst row,1)) (nD w.1) (nD w.2.1) (some (cY n w.2.2,9)),(nD w.1,nD w.2.1,some (cY n (tB Q.length w.2.2),9)),?_,?_⟩
   .show eQ _ (D.tup [iD w.1,iD w.2.1,cY n w.2.2]) _=_;cases hx:w.2.2<;>rfl
   .have s1:dn (eA (mQ .int (aa 9))) (aV 9 (e2 lb (aa 9) (bE 2))) d4 (dH ns n f (some (aD n Q,9)) (some (.lst l,1)) (nD H.p) (some (.tup (H.W.map (cq n)),9)) (some (.lst row,1)) (nD w.1) (nD w.2.1) (some (cY n w.2.2,9)))=some (.nx (dH ns n f (some (aD n Q,9)) (some (.lst l,1)) (nD H.p) (some (.tup (H.W.map (cq n)),9)) (some (.lst row,1)) (nD w.1) (nD w.2.1) (some (cY n (tB Q.length w.2.2),9)))):=by
     cases hx:w.2.2 with
     | inr r=>exact(jo rfl).trans rfl
     | inl k=>
      have l2:bE 2 (dH ns n f (some (aD n Q,9)) (some (.lst l,1)) (nD H.p) (some (.tup (H.W.map (cq n)),9)) (some (.lst row,1)) (nD w.1) (nD w.2.1) (nD k))=some ((iD Q.length),9,dH ns n f (some (aD n Q,9)) (some (.lst l,1)) (nD H.p) (some (.tup (H.W.map (cq n)),9)) (some (.lst row,1)) (nD w.1) (nD w.2.1) (nD k)):=mi rfl (by show some (Q.map (bj n)).length=_;rw[Qg]);exact(lC (ac:=dH ns n f (some (aD n Q,9)) (some (.lst l,1)) (nD H.p) (some (.tup (H.W.map (cq n)),9)) (some (.lst row,1)) (nD w.1) (nD w.2.1) (nD k)) rfl).trans (cW (cm (fa:=aa 9) (q:=9) rfl l2 (Ea h0)) rfl)
    refine(aO s1).trans ?_;have v9:aa 9 (dH ns n f (some (aD n Q,9)) (some (.lst l,1)) (nD H.p) (some (.tup (H.W.map (cq n)),9)) (some (.lst row,1)) (nD w.1) (nD w.2.1) (some (cY n (tB Q.length w.2.2),9)))=some (cY n (tB Q.length w.2.2),9,dH ns n f (some (aD n Q,9)) (some (.lst l,1)) (nD H.p) (some (.tup (H.W.map (cq n)),9)) (some (.lst row,1)) (nD w.1) (nD w.2.1) (some (cY n (tB Q.length w.2.2),9))):=uQ rfl xB;exact qD (ds:=row) rfl (bp (km (bK (cm (fa:=aa 7) (fb:=aa 4) (q:=9) (q':=9) rfl rfl (Ea p1)) (bK (cm (fa:=aa 8) (fb:=aa 4) (q:=9) (q':=9) rfl rfl (Ea p1)) (bp v9))) (show 3<=1000 by decide))) rfl Eb rfl)
  have e1:[]++H.W.map (λw=>cq n (zN Q.length H.p w))=(pJ Q.length H).W.map (cq n):=by show _=(H.W.map _).map (cq n);rw[QU];rfl
  rw[e1]at e;refine⟨dH ns n f (some (aD n Q,9)) (some (.lst l,1)) (nD H.p) (some (.tup (H.W.map (cq n)),9)) j.2.2.1 j.2.2.2.1 j.2.2.2.2.1 j.2.2.2.2.2,(nD H.p,some (.tup (H.W.map (cq n)),9),some (.lst ((pJ Q.length H).W.map (cq n)),0),j'.1,j'.2.1,j'.2.2),rfl,?_⟩;refine(aO (ac:=dH ns n f (some (aD n Q,9)) (some (.lst l,1)) (nD H.p) (some (.tup (H.W.map (cq n)),9)) (some (.lst [],1)) j.2.2.2.1 j.2.2.2.2.1 j.2.2.2.2.2) rfl).trans ?_;have i1:cL (aa 5) (dH ns n f (some (aD n Q,9)) (some (.lst l,1)) (nD H.p) (some (.tup (H.W.map (cq n)),9)) (some (.lst [],1)) j.2.2.2.1 j.2.2.2.2.1 j.2.2.2.2.2)=some (H.W.map (cq n),dH ns n f (some (aD n Q,9)) (some (.lst l,1)) (nD H.p) (some (.tup (H.W.map (cq n)),9)) (some (.lst [],1)) j.2.2.2.1 j.2.2.2.2.1 j.2.2.2.2.2):=by have e:aa 5 (dH ns n f (some (aD n Q,9)) (some (.lst l,1)) (nD H.p) (some (.tup (H.W.map (cq n)),9)) (some (.lst [],1)) j.2.2.2.1 j.2.2.2.2.1 j.2.2.2.2.2)=some (.tup (H.W.map (cq n)),9,dH ns n f (some (aD n Q,9)) (some (.lst l,1)) (nD H.p) (some (.tup (H.W.map (cq n)),9)) (some (.lst [],1)) j.2.2.2.1 j.2.2.2.2.1 j.2.2.2.2.2):=rfl;unfold cL;rw[e];simp only[Qg];rw[Ql (by omega)]
  refine(aO ((kN i1).trans e)).trans ?_;exact qD (ds:=l) rfl (bp (km (bK (f:=aa 4) (q:=9) rfl (bp (jN (bp (jO (i:=6) (q:=1) (ds:=(pJ Q.length H).W.map (cq n)) rfl))))) (show 2<=1000 by decide))) rfl hl rfl)
 have e1:[]++Q.map (λH=>bj n (pJ Q.length H))=(Q.map (pJ Q.length)).map (bj n):=by rw[QU];rfl
 rw[e1]at e;exact⟨_,_,_,_,_,_,e⟩
theorem Ec{k:Nat}(h:lay (.str s)=true):Sh k (.str s):=⟨h,ZA _⟩
theorem Lz(h:lay (.str s)=true):dE (.str s) (.str s)=some (.bl true):=by unfold dE;rw[Ql ⟨(Ec (k:=0) h).ok,(Ec (k:=0) h).ok⟩];simp[nU,cP,PyData.eqv]
theorem z9e(u:List Nat):dE (.tup (ak u)) (.str "in")=some (.bl false):=by unfold dE;rw[Ql ⟨(pz u).ok,(Ec (k:=0) (by decide +kernel)).ok⟩];rfl
theorem z9a(u:List Nat):dE (.tup (ak u)) (.tup (ak u))=some (.bl true):=by unfold dE;rw[Ql ⟨(pz u).ok,(pz u).ok⟩,zk,QC rfl]
theorem LA{L:Nat}{fp:aJ}{z:Nat}(h1:bS (af fe ai) ρ=some (.tup [iD z],9,ρ))(h2:fp ρ=some ((iD p),9,ρ))(p1:1<=p)(p2:p<=1000):nW (bS (af fe ai)) fp ρ=some (.tup (ak (gS p z)),9,ρ):=by unfold nW;rw[h1];simp only[h2];rw[Ql ⟨rfl,by show(1:Int)<=(p:Int);omega,by show 1*p<=1000;omega⟩];show some (D.tup (replicate p [iD z]).flatten,9,_)=_;rw[Zd];simp[ak,gS]
theorem j6g{fc:aJ}{i j k:Int}{q2:Nat}(ha:fa ρ=some (.int i,q,ρ))(hb:fb ρ=some (.int j,q',ρ))(hc:fc ρ=some (.int k,q2,ρ)):l8 qd jk fa fb fc ρ=some (.bl (decide (i<=j/\j<k)),9,ρ):=by
 unfold l8;rw[ha];simp only[hb,qd,gI];by_cases h1:i<=j
 .rw[QC h1];simp only[hc,jk,gI];by_cases h2:j<k
  .rw[QC h2,QC ⟨h1,h2⟩]
  .rw[QB h2,QB λz=>h2 z.2]
 .rw[QB h1,QB λz=>h1 z.1]
theorem j17{i:Int}(hi:¬ (0<=i/\i<(h:Int))):jb h (.int i)=false:=by
 show(decide ((0:Int)<=i)&&decide (i<(h:Int)))=false;cases e:(decide ((0:Int)<=i)&&decide (i<(h:Int)))with
 | false=>rfl
 | true=>
  obtain⟨h1,h2⟩:=Zb.mp e;exact absurd ⟨Z4 h1,Z4 h2⟩ hi
section
variable {n:Nat}{f:Nat->Nat->Nat}(L:bF n f){z:Nat}(hz:z<n)(bz:∀ j,j<n->f z j=j){P:List Hs}(hP:∀ H∈P,H.Ok n f P.length)(hp:0<P.length)(h2:P.length<=2)(h3:∀ H∈P,H.p<=3/\H.W.length<=3)
variable (ns:List Int)(j3 j4 j6 j7 j8 j9:OD)
include L hz bz hP hp h2 h3
theorem j42{v:Nat}(hd:d<3)(hv:v<n)(pH:n<=5)(ws:List D)(hm:Nat)(hmm:hm=(bL P d v).p)(gT:OD) :
  az (aV 15 (cK (aE n6 3 (af (aa 1) (af (aa 14) (af (nW (bS (af (aE ki 1 (af (aa 1) ai)) ai)) (aa 12)) ai)))) (e2 la (cK (aS 2 (eC (.int 0))) (eC (.int 0))) (eC (.int 1)))))
 (az (dn (bf (e2 cD (cK (cK (aE nh 3 (af (aa 1) (af (aa 2) (af (aa 10) ai)))) (eC (.int 0))) (aa 11)) (aa 15))) (bG (eC (.bl false))) d4)
 (az (aV 16 (aE pD 2 (af (aa 1) (af (aa 2) ai))))
 (az (dn (iL (bf (e2 kE (aa 10) (bE 2))) (iL (iy (eA (aE mh 2 (af (aa 2) (af (eC (.int 0)) ai))))) (iy (eA (aE mh 2 (af (aa 2) (af (e2 la (bE 2) (eC (.int 1))) ai))))))) (dn (bf (e2 cD (cK (aS 16 (eC (.int 0))) (aa 11)) (aa 15))) (bG (eC (.bl false))) d4) d4)
 (az (aV 17 (e2 la (aE dG 3 (af (aa 0) (af (eC (.int 502)) (af (e2 cb (bE 2) (eC (.int 2))) ai)))) (eC (.int 1))))
 (az (aV 18 (eC (.str "no house")))
 (az (dn (bf (l8 qd jk (eC (.int 0)) (aa 17) (bE 2))) (az (aV 19 (aS 2 (aa 17)))
 (aV 18 (aE n6 3 (af (aa 1) (af (aE sZ 3 (af (aa 19) (af (aa 16) (af (aa 11) ai)))) (af (nW (bS (af (aE ki 1 (af (aa 1) ai)) ai)) (aS 19 (eC (.int 0)))) ai)))))) d4)
 (bG (e2 dE (aE qM 4 (af (aa 1) (af (aa 2) (af (aa 17) (af (aa 11) ai))))) (aa 18))))))))) (dy ns n f (some (aD n P,9)) j3 j4 (some (.lst ws,0)) j6 j7 j8 j9 (nD d) (nD v) (nD hm) gT ((c9 n (bL P d v))) none none none none none)=some (.rt (.bl true) 9):=by
 subst hmm;have hn:n<=1000:=by omega
 have zO:P.length<=3:=by omega
 have oC:=j56 L hz bz hP h3 hp hd hv;have p1:=oC.p1;have p8:=oC.p8;have q1:=(hP _ (h_ hp)).p1;obtain⟨u,hu,eu⟩:=KO L oC (zD (p:=(bL P d v).p) hz);have last:=z8s L hz bz hP hp (d:=d) hv hu;obtain⟨V,hV,eS⟩:=y7k L hz bz hP rfl zO pH;have xJ:∀ ρ:aW,ρ[1]? = some ((t9 n f))->bS (af (aE ki 1 (af (aa 1) ai)) ai) ρ=some (.tup [iD z],9,ρ):=λρ h=>km (bp (bh (ds:=[bH n f]) (bp (uQ h rfl)) rfl (Dy L hz bz hn))) (show 1<=1000 by decide);have pK:∀ ρ:aW,ρ[2]? = some (some (aD n P,9))->bE 2 ρ=some ((iD P.length),9,ρ):=λρ h=>mi h (by show some (P.map (bj n)).length=_;rw[Qg]);have Ed:u.length=(bL P d v).p:=hu.V.len;have b0:=zL hP h3 d 0 0 hp;have blo:=b0.lo;have ae:cS (.tup (ak u)) (Int.ofNat ((aK P 0).p-1))=some (iD (gv u ((aK P 0).p-1))):=C0 (by rw[Ed];show _<(b_ P (bJ P d) 0 0).1;omega);have s15:aV 15 (cK (aE n6 3 (af (aa 1) (af (aa 14) (af (nW (bS (af (aE ki 1 (af (aa 1) ai)) ai)) (aa 12)) ai)))) (e2 la (cK (aS 2 (eC (.int 0))) (eC (.int 0))) (eC (.int 1)))) (dy ns n f (some (aD n P,9)) j3 j4 (some (.lst ws,0)) j6 j7 j8 j9 (nD d) (nD v) (nD (bL P d v).p) gT ((c9 n (bL P d v))) none none none none none)=some (.nx (dy ns n f (some (aD n P,9)) j3 j4 (some (.lst ws,0)) j6 j7 j8 j9 (nD d) (nD v) (nD (bL P d v).p) gT ((c9 n (bL P d v))) (nD (gv ((b8 n f P z (d+1)).getD 0 []) v)) none none none none)):=by rw[<- last];refine cW (qQ (bh (ac:=(dy ns n f (some (aD n P,9)) j3 j4 (some (.lst ws,0)) j6 j7 j8 j9 (nD d) (nD v) (nD (bL P d v).p) gT ((c9 n (bL P d v))) none none none none none)) (bK (f:=aa 1) (q:=9) rfl (bK (f:=aa 14) (q:=9) rfl (bp (LA (L:=0) (xJ _ rfl) (fp:=aa 12) rfl p1 (by omega))))) rfl eu) (cm (qQ (qP (i:=2) (b:=eC (.int 0)) (q':=9) rfl rfl (xF (n:=n) hp) rfl) (b:=eC (.int 0)) (q':=9) rfl rfl rfl rfl) (fb:=eC (.int 1)) (q':=9) rfl (zM (a:=(aK P 0).p) (b:=1) q1)) ae rfl rfl) rfl
 refine(aO s15).trans ?_;generalize hg:gv ((b8 n f P z (d+1)).getD 0 []) v=g;have oI:=pI L hz bz hP rfl (d+1);have eB:=j66 L hz bz hP rfl zO (d:=d) (by omega);have t1:bf (e2 cD (cK (cK (aE nh 3 (af (aa 1) (af (aa 2) (af (aa 10) ai)))) (eC (.int 0))) (aa 11)) (aa 15)) (dy ns n f (some (aD n P,9)) j3 j4 (some (.lst ws,0)) j6 j7 j8 j9 (nD d) (nD v) (nD (bL P d v).p) gT ((c9 n (bL P d v))) (nD g) none none none none)=some (false,(dy ns n f (some (aD n P,9)) j3 j4 (some (.lst ws,0)) j6 j7 j8 j9 (nD d) (nD v) (nD (bL P d v).p) gT ((c9 n (bL P d v))) (nD g) none none none none)):=by refine fu (cm (qQ (qQ (bh (ds:=[bH n f,aD n P,iD d]) rfl rfl eB) (b:=eC (.int 0)) (q':=9) rfl (oI.get hp) rfl rfl) (b:=aa 11) (q':=9) rfl (zm hv) rfl rfl) (fb:=aa 15) (q':=9) rfl ?_);rw[hg,Hy,QC rfl];rfl
 refine(aO ((jo t1).trans rfl)).trans ?_;refine(aO (ac:=(dy ns n f (some (aD n P,9)) j3 j4 (some (.lst ws,0)) j6 j7 j8 j9 (nD d) (nD v) (nD (bL P d v).p) gT ((c9 n (bL P d v))) (nD g) (some (a_ V,9)) none none none)) (cW (bh (ds:=[bH n f,aD n P]) rfl rfl eS) rfl)).trans ?_;have s2:dn (iL (bf (e2 kE (aa 10) (bE 2))) (iL (iy (eA (aE mh 2 (af (aa 2) (af (eC (.int 0)) ai))))) (iy (eA (aE mh 2 (af (aa 2) (af (e2 la (bE 2) (eC (.int 1))) ai))))))) (dn (bf (e2 cD (cK (aS 16 (eC (.int 0))) (aa 11)) (aa 15))) (bG (eC (.bl false))) d4) d4 (dy ns n f (some (aD n P,9)) j3 j4 (some (.lst ws,0)) j6 j7 j8 j9 (nD d) (nD v) (nD (bL P d v).p) gT ((c9 n (bL P d v))) (nD g) (some (a_ V,9)) none none none)=some (.nx (dy ns n f (some (aD n P,9)) j3 j4 (some (.lst ws,0)) j6 j7 j8 j9 (nD d) (nD v) (nD (bL P d v).p) gT ((c9 n (bL P d v))) (nD g) (some (a_ V,9)) none none none)):=by
  have c1:=fu (cm (fa:=aa 10) (q:=9) (ρ:=(dy ns n f (some (aD n P,9)) j3 j4 (some (.lst ws,0)) j6 j7 j8 j9 (nD d) (nD v) (nD (bL P d v).p) gT ((c9 n (bL P d v))) (nD g) (some (a_ V,9)) none none none)) rfl (pK _ rfl) (rfl:kE (iD d) (iD P.length)=some (.bl (decide (Int.ofNat P.length<=Int.ofNat d)))));obtain⟨b1,e1,f1⟩:=Lx hP zO hp;obtain⟨b2,eb2,f2⟩:=Lx hP zO (k:=P.length-1) (by omega);have c2:=uP (qO (bh (F:=mh) (n:=2) (g:=af (aa 2) (af (eC (.int 0)) ai)) (ρ:=(dy ns n f (some (aD n P,9)) j3 j4 (some (.lst ws,0)) j6 j7 j8 j9 (nD d) (nD v) (nD (bL P d v).p) gT ((c9 n (bL P d v))) (nD g) (some (a_ V,9)) none none none)) (ds:=[aD n P,iD 0]) rfl rfl e1));have c3:=uP (qO (bh (F:=mh) (n:=2) (ρ:=(dy ns n f (some (aD n P,9)) j3 j4 (some (.lst ws,0)) j6 j7 j8 j9 (nD d) (nD v) (nD (bL P d v).p) gT ((c9 n (bL P d v))) (nD g) (some (a_ V,9)) none none none)) (bK (f:=aa 2) (q:=9) rfl (bp (cm (pK _ rfl) (fb:=eC (.int 1)) (q':=9) rfl (zM (a:=P.length) (b:=1) hp)))) rfl eb2));by_cases wA:Int.ofNat P.length<=Int.ofNat d
  .rw[QC wA]at c1;cases b1 with
   | true=>exact(jo ((tq c1).trans (DV c2))).trans rfl
   | false=>
    cases b2 with
    | true=>exact(jo ((tq c1).trans ((tq c2).trans c3))).trans rfl
    | false=>
     have rw0:=j1s L hz bz hP hp h2 hV (d:=d) (by have:(P.length:Int)<=(d:Int):=wA;omega) (f1 rfl).1 (f1 rfl).2 (f2 rfl).1;have t2:bf (e2 cD (cK (aS 16 (eC (.int 0))) (aa 11)) (aa 15)) (dy ns n f (some (aD n P,9)) j3 j4 (some (.lst ws,0)) j6 j7 j8 j9 (nD d) (nD v) (nD (bL P d v).p) gT ((c9 n (bL P d v))) (nD g) (some (a_ V,9)) none none none)=some (false,(dy ns n f (some (aD n P,9)) j3 j4 (some (.lst ws,0)) j6 j7 j8 j9 (nD d) (nD v) (nD (bL P d v).p) gT ((c9 n (bL P d v))) (nD g) (some (a_ V,9)) none none none)):=by refine fu (cm (qQ (qP (i:=16) (b:=eC (.int 0)) (q':=9) rfl rfl (hV.ok.get hp) rfl) (b:=aa 11) (q':=9) rfl (zm hv) rfl rfl) (fb:=aa 15) (q':=9) rfl ?_);rw[<- rw0,hg,Hy,QC rfl];rfl
     exact(lC ((tq c1).trans ((tq c2).trans c3))).trans ((jo t2).trans rfl)
  .rw[QB wA]at c1;exact(jo (DV c1)).trans rfl
 refine(aO s2).trans ?_;obtain⟨m,hm,em⟩:=mj ns (c:=502) (by decide) (n:=P.length+2) (by omega);obtain⟨i,hi⟩:∃ i:Int,i=Int.ofNat m-1:=⟨_,rfl⟩;refine(aO (ac:=(dy ns n f (some (aD n P,9)) j3 j4 (some (.lst ws,0)) j6 j7 j8 j9 (nD d) (nD v) (nD (bL P d v).p) gT ((c9 n (bL P d v))) (nD g) (some (a_ V,9)) (some (.int i,9)) none none)) (by rw[hi];exact cW (cm (bh (bK (f:=aa 0) (q:=0) rfl (bK (f:=eC (.int 502)) (q:=9) rfl (bp (cm (pK _ rfl) (fb:=eC (.int 2)) (q':=9) rfl (D0 (a:=P.length) (b:=2)))))) rfl em) (fb:=eC (.int 1)) (q':=9) rfl rfl) rfl)).trans ?_
 refine(aO (ac:=(dy ns n f (some (aD n P,9)) j3 j4 (some (.lst ws,0)) j6 j7 j8 j9 (nD d) (nD v) (nD (bL P d v).p) gT ((c9 n (bL P d v))) (nD g) (some (a_ V,9)) (some (.int i,9)) (some (.str "no house",9)) none)) rfl).trans ?_;have tc:bf (l8 qd jk (eC (.int 0)) (aa 17) (bE 2)) (dy ns n f (some (aD n P,9)) j3 j4 (some (.lst ws,0)) j6 j7 j8 j9 (nD d) (nD v) (nD (bL P d v).p) gT ((c9 n (bL P d v))) (nD g) (some (a_ V,9)) (some (.int i,9)) (some (.str "no house",9)) none)=some (decide (0<=i/\i<(P.length:Int)),(dy ns n f (some (aD n P,9)) j3 j4 (some (.lst ws,0)) j6 j7 j8 j9 (nD d) (nD v) (nD (bL P d v).p) gT ((c9 n (bL P d v))) (nD g) (some (a_ V,9)) (some (.int i,9)) (some (.str "no house",9)) none)):=by refine fu (q:=9) ?_;exact j6g (fa:=eC (.int 0)) (fb:=aa 17) (q:=9) (q':=9) rfl rfl (pK _ rfl)
 by_cases pe:0<=i/\i<(P.length:Int)
 .rw[QC pe]at tc;obtain⟨k,hk⟩:=Yu pe.1;have zP:k<P.length:=by have:=pe.2;omega
  have KJ:i=Int.ofNat k:=hk;subst KJ;have hH:=hP _ (h_ zP);have oc:=lN hV.ok hH hv;have oa:=nu L hz bz oc;obtain⟨w,hw,ew⟩:=KO L oc (zD (p:=(aK P k).p) hz);have eq:w=iC n f (fy V (aK P k) v):=L.jr hw.V oa.1.V (hw.le _ oa.1.V oa.1.cl oa.1.up) (oa.1.le w hw.V hw.cl hw.up);subst eq;have k1:=hH.p1;have k8:=hH.p8;have sh:az (aV 19 (aS 2 (aa 17))) (aV 18 (aE n6 3 (af (aa 1) (af (aE sZ 3 (af (aa 19) (af (aa 16) (af (aa 11) ai)))) (af (nW (bS (af (aE ki 1 (af (aa 1) ai)) ai)) (aS 19 (eC (.int 0)))) ai))))) (dy ns n f (some (aD n P,9)) j3 j4 (some (.lst ws,0)) j6 j7 j8 j9 (nD d) (nD v) (nD (bL P d v).p) gT ((c9 n (bL P d v))) (nD g) (some (a_ V,9)) (nD k) (some (.str "no house",9)) none)=some (.nx (dy ns n f (some (aD n P,9)) j3 j4 (some (.lst ws,0)) j6 j7 j8 j9 (nD d) (nD v) (nD (bL P d v).p) gT ((c9 n (bL P d v))) (nD g) (some (a_ V,9)) (nD k) ((v9 (iC n f (fy V (aK P k) v)))) (some (bj n (aK P k),9)))):=by refine(aO (ac:=(dy ns n f (some (aD n P,9)) j3 j4 (some (.lst ws,0)) j6 j7 j8 j9 (nD d) (nD v) (nD (bL P d v).p) gT ((c9 n (bL P d v))) (nD g) (some (a_ V,9)) (nD k) (some (.str "no house",9)) (some (bj n (aK P k),9)))) (cW (qP (i:=2) (b:=aa 17) (q':=9) rfl rfl (xF zP) rfl) rfl)).trans ?_;exact cW (bh (ac:=(dy ns n f (some (aD n P,9)) j3 j4 (some (.lst ws,0)) j6 j7 j8 j9 (nD d) (nD v) (nD (bL P d v).p) gT ((c9 n (bL P d v))) (nD g) (some (a_ V,9)) (nD k) (some (.str "no house",9)) (some (bj n (aK P k),9)))) (bK (f:=aa 1) (q:=9) rfl (bK (bh (ds:=[bj n (aK P k),a_ V,iD v]) rfl rfl (y55 hV.ok hH)) (bp (LA (L:=0) (xJ _ rfl) (fp:=aS 19 (eC (.int 0))) rfl k1 (by omega))))) rfl ew) rfl
  refine(aO ((lC tc).trans sh)).trans ?_;exact eF (cm (bh (ds:=[bH n f,aD n P,iD k,iD v]) rfl rfl (z1i zP (y6v L hz bz hP hV.ok eS zP hv))) (fb:=aa 18) (q':=9) rfl (z9a _))
 .rw[QB pe]at tc;refine(aO ((jo tc).trans rfl)).trans ?_;exact eF (cm (bh (ds:=[bH n f,aD n P,.int i,iD v]) rfl rfl (z45 (j17 pe))) (fb:=aa 18) (q':=9) rfl (Lz (by decide +kernel)))
end
theorem ny(ns:List Int)(h63:ns.length<=63):∃ q,uK [.lst (ns.map D.int)]=some (.bl true,q):=by
 obtain⟨n,f,L,hL⟩:=XB ns 0 (Int.le_refl 0);obtain⟨z,hz,bz⟩:=L.bot;have hn:n<=1000:=QF L.hi (by decide);have E7:=L.lo;refine⟨9,?_⟩;unfold uK Kp;refine dw ?_;show az _ _ [n0 ns,none,none,none,none,none,none,none,none,none,none,none,none,none,none,none,none,none,none,none]=_;refine(aO (ac:=dH ns n f none none none none none none none none) (cW (bh (ds:=[d7 ns,.int 0]) rfl rfl hL) rfl)).trans ?_;have te:bf (e2 vH (bE 1) (eC (.int 5))) (dH ns n f none none none none none none none none)=some (decide ((5:Int)<Int.ofNat n),dH ns n f none none none none none none none none):=fu (cm (mi rfl lF) (rfl:eC (.int 5) _=some (.int 5,9,_)) rfl);by_cases h5:(5:Int)<Int.ofNat n
 .rw[QC h5]at te;exact uu ((lC te).trans rfl)
 rw[QB h5]at te;have pH:n<=5:=by have:¬ (5:Int)<(n:Int):=h5;omega
 refine(aO ((jo te).trans rfl)).trans ?_;obtain⟨P0,h1,_,Ee,eP⟩:=z1e L hz bz ns 20 (by decide);refine(aO (z4x Ee eP)).trans ?_;obtain⟨hp,h2,hP,h3⟩:=j0w h1 Ee;have Ef:((P0.take 2).map kU).length=(P0.take 2).length:=Qg _;have LB:0<((P0.take 2).map kU).length:=by rw[Ef,Q7];omega
 have LC:((P0.take 2).map kU).length<=2:=by rw[Ef,Q7];omega
 have hQ:∀ H∈(P0.take 2).map kU,0<H.p/\H.W.length<=60:=λH hH=>by obtain⟨H0,vY,rfl⟩:=Qu.mp hH;have ok:=Ee H0 (ZP vY);have p1:=ok.p1;refine⟨by show 0<min H0.p 3;omega,?_⟩;show(H0.W.take 3).length<=60;rw[Q7];omega
 obtain⟨a4,a5,a6,a7,a8,a9,ef⟩:=z5s (n:=n) (f:=f) (ns:=ns) LB LC hQ;have hPe:(((P0.take 2).map kU).map (pJ ((P0.take 2).map kU).length))=lP P0:=by rw[Ef];rfl
 rw[hPe]at ef;generalize lP P0=P at hp h2 hP h3 ef;generalize (P0.take 2).map kU=Q at LB LC hQ ef;refine(aO (ac:=dH ns n f (some (aD n Q,9)) (some (.lst [],1)) none none none none none none) rfl).trans ?_;have i2:cL (aa 2) (dH ns n f (some (aD n Q,9)) (some (.lst [],1)) none none none none none none)=some (Q.map (bj n),dH ns n f (some (aD n Q,9)) (some (.lst [],1)) none none none none none none):=by
  have:Q.length<=1000:=by omega
  simp[aD,this]
 refine(aO ((kN i2).trans ef)).trans ?_;refine(aO (ac:=dH ns n f (some (aD n P,9)) (some (.lst (P.map (bj n)),0)) a4 a5 a6 a7 a8 a9) (cW (jN (bp (jO (i:=3) (q:=1) (ds:=P.map (bj n)) rfl))) rfl)).trans ?_;generalize (some (D.lst (P.map (bj n)),0):OD)=j3;obtain⟨d,hd,ed⟩:=mj ns (c:=500) (by decide) (n:=3) (by decide);obtain⟨v,hv,ev⟩:=mj ns (c:=501) (by decide) (n:=n) (by omega);refine(aO (ac:=dy ns n f (some (aD n P,9)) j3 a4 a5 a6 a7 a8 a9 (nD d) none none none none none none none none none) (cW (bh (ds:=[d7 ns,.int 500,.int 3]) rfl rfl ed) rfl)).trans ?_;refine(aO (ac:=(dy ns n f (some (aD n P,9)) j3 a4 a5 a6 a7 a8 a9 (nD d) (nD v) none none none none none none none none)) (cW (bh (bK (f:=aa 0) (q:=0) rfl (bK (f:=eC (.int 501)) (q:=9) rfl (bp (mi (i:=1) rfl lF)))) rfl ev) rfl)).trans ?_;refine(aO (ac:=(dy ns n f (some (aD n P,9)) j3 a4 (some (.lst [],1)) a6 a7 a8 a9 (nD d) (nD v) none none none none none none none none)) rfl).trans ?_;have b:=zL hP h3 d 0 0 hp;have b3:=b.len;have e36:3*fA d<=51:=by
  match d,hd with
  | 0,_=>decide
  | 1,_=>decide
  | 2,_=>decide
 have ec:=z22 hP h3 hd 0 0;refine(aO (ac:=(dy ns n f (some (aD n P,9)) j3 a4 (some (.lst ((b_ P (bJ P d) 0 0).2.map (cA n)),1)) a6 a7 a8 a9 (nD d) (nD v) (nD (bL P d v).p) none none none none none none none)) (cW (Lk (F:=uB) (d0:=.lst []) (ds0:=[]) (ds:=[aD n P,iD 0,iD d,iD 0]) (ac:=(dy ns n f (some (aD n P,9)) j3 a4 (some (.lst [],1)) a6 a7 a8 a9 (nD d) (nD v) none none none none none none none none)) rfl rfl rfl rfl (λp=>ec p [] hp (by show 0+_<=900;omega)) rfl) rfl)).trans ?_;have LD:=jN (bp (CK (og hn (i:=1) (ρ:=(dy ns n f (some (aD n P,9)) j3 a4 (some (.lst ((b_ P (bJ P d) 0 0).2.map (cA n)),1)) a6 a7 a8 a9 (nD d) (nD v) (nD (bL P d v).p) none none none none none none none)) rfl lF)));have er:D.tup (eE n)=iA n id:=by rw[UD];unfold iA;rw[List.map_id]
 rw[er]at LD;refine(aO (ac:=(dy ns n f (some (aD n P,9)) j3 a4 (some (.lst ((b_ P (bJ P d) 0 0).2.map (cA n)),1)) a6 a7 a8 a9 (nD d) (nD v) (nD (bL P d v).p) ((r9 n id)) none none none none none none)) (cW LD rfl)).trans ?_;have hws:(b_ P (bJ P d) 0 0).2.length<=1000:=by omega
 have iw:cL (aa 5) (dy ns n f (some (aD n P,9)) j3 a4 (some (.lst ((b_ P (bJ P d) 0 0).2.map (cA n)),1)) a6 a7 a8 a9 (nD d) (nD v) (nD (bL P d v).p) ((r9 n id)) none none none none none none)=some ((b_ P (bJ P d) 0 0).2.map (cA n),(dy ns n f (some (aD n P,9)) j3 a4 (some (.lst ((b_ P (bJ P d) 0 0).2.map (cA n)),0)) a6 a7 a8 a9 (nD d) (nD v) (nD (bL P d v).p) ((r9 n id)) none none none none none none)):=by unfold cL;rw[jO (i:=5) (q:=1) (ds:=(b_ P (bJ P d) 0 0).2.map (cA n)) rfl];simp only[Qg];rw[Ql hws];rfl
 have ju:=jM (k:=3) (tt:=dC) (te:=bS (af (aa 20) (af (aa 21) (af (lV (bf (e2 dE (aa 22) (eC (.str "in")))) (aa 13) (aa 22)) ai)))) (deep:=false) (pt:=eQ (bD (aH 20) (bD (aH 21) (bD (aH 22) fG)))) iw (tm (cA n) (λc=>[nD c.1,nD c.2.1,some (tu n c.2.2,9)]) (λ_=>true) (λc=>eH n (c.1,c.2.1,nv c.2.2)) (λ_=>9) (b_ P (bJ P d) 0 0).2 (λc hc=>⟨by show eQ _ (D.tup [iD c.1,iD c.2.1,tu n c.2.2]) _=_;cases hx:c.2.2<;>rfl,rfl,λ_=>by
  have e:lV (bf (e2 dE (aa 22) (eC (.str "in")))) (aa 13) (aa 22) ((dy ns n f (some (aD n P,9)) j3 a4 (some (.lst ((b_ P (bJ P d) 0 0).2.map (cA n)),0)) a6 a7 a8 a9 (nD d) (nD v) (nD (bL P d v).p) ((r9 n id)) none none none none none none)++[nD c.1,nD c.2.1,some (tu n c.2.2,9)])=some (iA n (nv c.2.2),9,(dy ns n f (some (aD n P,9)) j3 a4 (some (.lst ((b_ P (bJ P d) 0 0).2.map (cA n)),0)) a6 a7 a8 a9 (nD d) (nD v) (nD (bL P d v).p) ((r9 n id)) none none none none none none)++[nD c.1,nD c.2.1,some (tu n c.2.2,9)]):=by
   unfold lV;cases hx:c.2.2 with
   | none=>
    rw[fu (cm (fa:=aa 22) (fb:=eC (.str "in")) (x:=.str "in") (y:=.str "in") (q:=9) (q':=9) (am:=(dy ns n f (some (aD n P,9)) j3 a4 (some (.lst ((b_ P (bJ P d) 0 0).2.map (cA n)),0)) a6 a7 a8 a9 (nD d) (nD v) (nD (bL P d v).p) ((r9 n id)) none none none none none none)++[nD c.1,nD c.2.1,some (tu n none,9)]) rfl rfl (Lz (by decide +kernel)))];rfl
   | some r=>
    rw[fu (cm (fa:=aa 22) (fb:=eC (.str "in")) (x:=iA n r) (y:=.str "in") (q:=9) (q':=9) (am:=(dy ns n f (some (aD n P,9)) j3 a4 (some (.lst ((b_ P (bJ P d) 0 0).2.map (cA n)),0)) a6 a7 a8 a9 (nD d) (nD v) (nD (bL P d v).p) ((r9 n id)) none none none none none none)++[nD c.1,nD c.2.1,some (tu n (some r),9)]) rfl rfl (z9e _))];rfl
  exact km (bK (f:=aa 20) (q:=9) rfl (bK (f:=aa 21) (q:=9) rfl (bp e))) (show 3<=1000 by decide)⟩))
 have e1:((b_ P (bJ P d) 0 0).2.filter λ_=>true).map (λc=>eH n (c.1,c.2.1,nv c.2.2))=(bL P d v).W.map (eH n):=by show _=(List.map _ (b_ P (bJ P d) 0 0).2).map (eH n);rw[QU,Jc.mpr λ_ _=>rfl];rfl
 rw[e1]at ju;refine(aO (ac:=(dy ns n f (some (aD n P,9)) j3 a4 (some (.lst ((b_ P (bJ P d) 0 0).2.map (cA n)),0)) a6 a7 a8 a9 (nD d) (nD v) (nD (bL P d v).p) ((r9 n id)) ((c9 n (bL P d v))) none none none none none)) (cW (km (bK (f:=aa 12) (q:=9) rfl (bK (jN (bp ju)) (bp (f:=bS (af (bS (af (eC (.int 0)) (af (aa 11) ai))) ai)) (d:=.tup [jP (0,v)]) (q:=9) rfl))) (show 3<=1000 by decide)) rfl)).trans ?_;exact j42 L hz bz hP hp h2 h3 ns j3 a4 a6 a7 a8 a9 hd hv pH _ _ rfl _
def A0 (K:PySem.W.Frag)(mg:Str->Option Value)(x:Str)(st:Stmt):Prop:=∃ f fd,mE K x x st f fd/\mg x=some (.ref f)
theorem A0.mk{K:PySem.W.Frag}{h:Heap}{mg:Str->Option Value}{x:Str}{f:Addr}{od an:Option Addr}{sl:Array (Option Value)}{oc kV dc pm cd ct:Value}(X:K.In h)(G:h.Ns mainGlobals mg)(a:W.nsIn K mainGlobals x=some (some (.ref f)))(l:K.lookup f=some ⟨oc,od,.func (W.fnOf x x (pV st) (i5 st) (aZ st) .none kV dc pm an cd ct),sl⟩)(c:W.codeIn K cd x=true)(k:W.keepIn K (.ref f)=true):A0 K mg x st:=⟨_,_,E_ l c k,QY X G a⟩
theorem A0.at{K:PySem.W.Frag}{mg:Str->Option Value}{x:Str}{ps:List Str}(a:A0 K mg x st)(h:∀ (kV doc pm:Value) (an:Option Addr) (bA ct:Value) (us:List Value),us.length=ps.length->bindArgs (W.fnOf x x (pV st) (i5 st) (aZ st) .none kV doc pm an bA ct) ⟨us,[]⟩=pure (ps.zip us):=by intro _ _ _ _ _ _ us h;first|(obtain⟨_,rfl⟩:=L3.nY h;rfl)|(obtain⟨_,_,rfl⟩:=L3.gk h;rfl)|(obtain⟨_,_,_,rfl⟩:=L3.lG h;rfl)|(obtain⟨_,_,_,_,rfl⟩:=L3.uy h;rfl)|(obtain⟨_,_,_,_,_,rfl⟩:=L3.UT h;rfl)):At K mg x st ps:=by obtain⟨f,fd,F,m⟩:=a;exact⟨f,fd,F,m,F.binds h⟩
theorem all_mk{l:PySem.W.OpenLaw}{w:World}{K:PySem.W.Frag}{h:Heap}{mg:Str->Option Value}{fa:Addr}{Eg:Addr}{Eh xK:Option Addr}{Ei:Array (Option Value)}{Ej xM xN xO tE xP:Value}{xr fR y0 y1 y2 y3 y4:Addr}(X:K.In h)(G:h.Ns mainGlobals mg)(hfa:mg "law" = some (.ref fa))
  (A1:A0 K mg "_law_cell" (top 46))
  (A2:A0 K mg "_law_pick" (top 47))
  (A3:A0 K mg "_law_chain" (top 48))
  (A4:A0 K mg "_law_couples" (top 49))
  (A5:A0 K mg "_law_side_by_side" (top 50))
  (A6:A0 K mg "_law_base" (top 51))
  (A7:A0 K mg "_law_ladder" (top 52))
  (A8:A0 K mg "_law_copied" (top 66))
  (A9:A0 K mg "steady" (top 16))
  (A10:A0 K mg "row_of_least" (top 13))
  (A11:A0 K mg "least_of" (top 14))
  (A12:A0 K mg "least_rules" (top 38))
  (A13:A0 K mg "is_whole" (top 9))
  (A14:A0 K mg "is_number_of" (top 10))
  (A15:A0 K mg "is_named_number" (top 11))
  (A16:A0 K mg "is_step" (top 27))
  (A17:A0 K mg "refuse_no_step" (top 28))
  (A18:A0 K mg "place_and_worth" (top 29))
  (A19:A0 K mg "worths_behind" (top 30))
  (A20:A0 K mg "risen" (top 31))
  (A21:A0 K mg "lowest" (top 24))
  (A22:A0 K mg "least_by" (top 32))
  (A23:A0 K mg "all_steps" (top 26))
  (A24:A0 K mg "least" (top 25))
  (A25:A0 K mg "called_chart" (top 35))
  (A26:A0 K mg "house_rule" (top 36))
  (A27:A0 K mg "one_call_deeper" (top 37))
  (A28:A0 K mg "summaries_by" (top 40))
  (A29:A0 K mg "summaries" (top 39))
  (A30:A0 K mg "_law_raised" (top 60))
  (A31:A0 K mg "_law_lowest" (top 61))
  (A32:A0 K mg "_law_word" (top 65))
  (A33:A0 K mg "refuse_no_house" (top 34))
  (A34:A0 K mg "answer_in" (top 41))
  (A35:A0 K mg "_law_answer" (top 67))
  (A36:A0 K mg "chart_of_calls" (top 43))
  (A37:A0 K mg "goals_from" (top 21))
  (A38:A0 K mg "all_reached" (top 22))
  (A39:A0 K mg "refuse_no_place" (top 18))
  (A40:A0 K mg "goals_of" (top 20))
  (A41:A0 K mg "called_by" (top 42))
  (A42:A0 K mg "calls_itself" (top 44))
  (A43:A0 K mg "_law_house_chart" (top 63))
  (A44:A0 K mg "_law_low" (top 53))
  (A45:A0 K mg "_law_join" (top 54))
  (A46:A0 K mg "_law_under" (top 55))
  (A47:A0 K mg "_law_rule" (top 56))
  (A48:A0 K mg "_law_program" (top 59))
  (a49:W.nsIn K mainGlobals "law" = some (some (.ref Eg))) (l49:K.lookup Eg=some ⟨Ej,Eh,.func (W.fnOf "law" "law" (pV (top 68)) (i5 (top 68)) (aZ (top 68)) .none xM xN xO xK tE xP),Ei⟩) (c49:W.codeIn K tE "law" = true) (k49:W.keepIn K (.ref Eg)=true)
  (z1:W.nsIn K mainGlobals "ValueError" = some none) (z2:W.nsIn K mainGlobals "all" = some none) (z3:W.nsIn K mainGlobals "bool" = some none) (z4:W.nsIn K mainGlobals "enumerate" = some none) (z5:W.nsIn K mainGlobals "int" = some none) (z6:W.nsIn K mainGlobals "isinstance" = some none) (z7:W.nsIn K mainGlobals "len" = some none) (z8:W.nsIn K mainGlobals "list" = some none) (z9:W.nsIn K mainGlobals "max" = some none) (z10:W.nsIn K mainGlobals "min" = some none) (z11:W.nsIn K mainGlobals "range" = some none) (z12:W.nsIn K mainGlobals "set" = some none) (z13:W.nsIn K mainGlobals "sorted" = some none) (z14:W.nsIn K mainGlobals "str" = some none) (z15:W.nsIn K mainGlobals "tuple" = some none) (xrN:W.nsIn K mainGlobals "RiseError" = some (some (.ref xr))) (xcg:W.specialIn K (.builtin "object.__class__") "__get__" = some (some (.builtin "getset_descriptor.__get__"))) (xct:W.takesIn K (.builtin "object.__class__")=some true) (xrg:W.findIn K (.ref xr) "__getattribute__" = some (some (.builtin "BaseException.__getattribute__"))) (xrt:W.findIn K (.ref xr) "__getattr__" = some none) (xrc:W.findIn K (.ref xr) "__class__" = some (some (.builtin "object.__class__"))) (xro:W.mroIn K xr (.type "object")=some true) (xrb:W.mroIn K xr (.type "BaseException")=some true) (xrT:W.typeIn K (.ref xr)=some (.type "type")) (xe0N:W.nsIn K mainGlobals "NoHouse" = some (some (.ref fR))) (xe0g:W.findIn K (.ref fR) "__getattribute__" = some (some (.builtin "BaseException.__getattribute__"))) (xe0t:W.findIn K (.ref fR) "__getattr__" = some none) (xe0c:W.findIn K (.ref fR) "__class__" = some (some (.builtin "object.__class__"))) (xe0o:W.mroIn K fR (.type "object")=some true) (xe0b:W.mroIn K fR (.type "BaseException")=some true) (xe0V:W.mroIn K fR (.type "ValueError")=some true) (xe0n0:W.mroIn K fR (.type "int")=some false) (xe0n1:W.mroIn K fR (.type "bool")=some false) (xe0n2:W.mroIn K fR (.type "tuple")=some false) (xe0n3:W.mroIn K fR (.type "list")=some false) (xe0n4:W.mroIn K fR (.type "str")=some false) (xe0R:W.mroIn K fR (.ref xr)=some true) (xe0X:W.excIn K fR L3.Ba "ValueError.__new__" = true) (y0N:W.nsIn K mainGlobals "NoMap" = some (some (.ref y0))) (y0O:W.mroIn K y0 (.type "object")=some true) (y0T:W.typeIn K (.ref y0)=some (.type "type")) (y0Sxe0:W.mroIn K fR (.ref y0)=some false) (y0Dxe0:fR≠y0) (y1N:W.nsIn K mainGlobals "NoPlace" = some (some (.ref y1))) (y1O:W.mroIn K y1 (.type "object")=some true) (y1T:W.typeIn K (.ref y1)=some (.type "type")) (y1Sxe0:W.mroIn K fR (.ref y1)=some false) (y1Dxe0:fR≠y1) (y2N:W.nsIn K mainGlobals "NoRule" = some (some (.ref y2))) (y2O:W.mroIn K y2 (.type "object")=some true) (y2T:W.typeIn K (.ref y2)=some (.type "type")) (y2Sxe0:W.mroIn K fR (.ref y2)=some false) (y2Dxe0:fR≠y2) (y3N:W.nsIn K mainGlobals "NoStep" = some (some (.ref y3))) (y3O:W.mroIn K y3 (.type "object")=some true) (y3T:W.typeIn K (.ref y3)=some (.type "type")) (y3Sxe0:W.mroIn K fR (.ref y3)=some false) (y3Dxe0:fR≠y3) (y4N:W.nsIn K mainGlobals "TooGreat" = some (some (.ref y4))) (y4O:W.mroIn K y4 (.type "object")=some true) (y4T:W.typeIn K (.ref y4)=some (.type "type")) (y4Sxe0:W.mroIn K fR (.ref y4)=some false) (y4Dxe0:fR≠y4) :
  ∃ fd:FuncData,(∀ (s:Shared) (v:Value),BindsTo s fd ⟨[v],[]⟩ [("_law_script",v)])/\∀ base:Heap,K.In base->base.Ns mainGlobals mg->dS l.prog w K mg base fX 14 fa fd [bi] (lg K 1 uK):=by have e:=hfa.symm.trans (QY X G a49);cases e;have B:Bt mg:=⟨QP X G z1,QP X G z2,QP X G z3,QP X G z4,QP X G z5,QP X G z6,QP X G z7,QP X G z8,QP X G z9,QP X G z10,QP X G z11,QP X G z12,QP X G z13,QP X G z14,QP X G z15⟩;have nz:ji K "NoHouse" fR:=ji.of xe0N ⟨L3.CJ xe0o,xe0g,xe0t,xe0c,xcg,xct,xe0o,xe0b⟩ xe0X xe0V xe0n0 xe0n1 xe0n2 xe0n3 xe0n4;have T:Xt K mg:=⟨ph.cons (ph.nil ⟨L3.CJ xro,xrg,xrt,xrc,xcg,xct,xro,xrb⟩ xrT (QY X G xrN)) (QY X G xrN) nz xe0R,⟨fR,⟨nz,QY X G xe0N⟩⟩,fI.self (fI.nil (QY X G xe0N)) xe0N (QY X G xe0N),fI.other (fI.nil (QY X G y0N)) xe0N (QY X G y0N) (by decide) y0Dxe0 y0T y0O y0Sxe0,fI.other (fI.nil (QY X G y1N)) xe0N (QY X G y1N) (by decide) y1Dxe0 y1T y1O y1Sxe0,fI.other (fI.nil (QY X G y2N)) xe0N (QY X G y2N) (by decide) y2Dxe0 y2T y2O y2Sxe0,fI.other (fI.nil (QY X G y3N)) xe0N (QY X G y3N) (by decide) y3Dxe0 y3T y3O y3Sxe0,fI.other (fI.nil (QY X G y4N)) xe0N (QY X G y4N) (by decide) y4Dxe0 y4T y4O y4Sxe0⟩;refine⟨W.fnOf "law" "law" (pV (top 68)) (i5 (top 68)) (aZ (top 68)) .none xM xN xO xK tE xP,λs v=>.of_eq rfl,λbase KX NG=>?_⟩;have jw:=U0 (P:=l.prog) (w:=w) (base:=base) B A1.at;have cy:=U1 B jw A2.at;have iW:=U6 (P:=l.prog) (w:=w) (base:=base) B A3.at;have gG:=U_ (P:=l.prog) (w:=w) (base:=base) B A4.at;have dZ:=Ve (P:=l.prog) (w:=w) (base:=base) B A5.at;have jx:=Vf B cy iW gG dZ A6.at;have ia:=Vk B jx cy A7.at;have bY:At K mg "_law_copied" (top 66) [db,dL,ms,t3,li]:=A8.at;have ib:kM l.prog w K mg base 3 "_law_copied" 5 uB:=C7 B (C7 B (C7 B (kM.zero (k:=0) bY) bY) bY) bY;have nA:=Vo (P:=l.prog) (w:=w) (base:=base) B A9.at;have gH:=Vq (P:=l.prog) (w:=w) (base:=base) B A10.at;have gJ:=Vs B gH A11.at;have ic:=Vv B nA gJ A12.at;have eJ:=Vy (P:=l.prog) (w:=w) (base:=base) B A13.at;have bZ:=VA B eJ A14.at;have fi:=VC B bZ A15.at;have lQ:=VE B fi A16.at;have fK:=VI B lQ A17.at;have fj:=VL (P:=l.prog) (w:=w) (base:=base) B A18.at;have gh:=VM B fj A19.at;have pL:=VO B gh A20.at;have nB:=VR B gJ A21.at;have kn:=VS B fK pL nB A22.at;have jy:=VX (P:=l.prog) (w:=w) (base:=base) B A23.at;have kW:=VZ B kn jy A24.at;have dO:=V2 B eJ A25.at;have iX:=V5 B kW dO A26.at;have fk:=V8 B iX A27.at;have dP:=V_ B ic fk A28.at;have fS:=Wd B dP A29.at;have ig:=We (P:=l.prog) (w:=w) (base:=base) B A30.at;have ij:=Wf B ig A31.at;have jz:=Wh (P:=l.prog) (w:=w) (base:=base) B T A32.at;have cX:=Wi B bZ A33.at;have eK:=Wk B T bZ A33.at;have jA:=Wl B cX kW dO fS A34.at;have iY:=Wo B T eK A34.at;have il:=Wq B T jA jz iY A35.at;have fL:=Ww B eJ A36.at;have fm:=Wy (P:=l.prog) (w:=w) (base:=base) B A37.at;have ip:=WA B fm A38.at;have fq:=WC B bZ A39.at;have ko:=WE B fq fm A40.at;have jB:=WH B cX fL ip ko A41.at;have gK:=WN B jB A42.at;have eL:=WQ (P:=l.prog) (w:=w) (base:=base) B A43.at;have eM:=WT (P:=l.prog) (w:=w) (base:=base) B A44.at;have jC:=WV B eM A45.at;have iZ:=WY (P:=l.prog) (w:=w) (base:=base) B A46.at;have jD:=W0 B eM cy jC iZ A47.at;have gL:=W3 B cy jD A48.at;exact W6 B ia gL cy ib ij eM dP fS gK eL il (E_ (st:=top 68) l49 c49 k49)
theorem walk{l:PySem.W.OpenLaw}{q:Program}{loose:List Str}{XP:(Str->Option Value)->Heap->Prop}{YP:World->Heap->Prop}{d:DefRec}{K:Params->PySem.W.Frag}(hn:l.most=some 63)(vk:d.params.defaults=[])
  (hY:∀ (w:World) (h:Heap),YP w h->(K w.params).In h)
  (F:∀ (w:World) (mg:Str->Option Value) (fa:Addr) (h:Heap),(K w.params).In h->h.Ns mainGlobals mg->mg d.name=some (.ref fa)->(∀ x∈tT,W.tabIn (K w.params) x=none) /\
    ∃ fd:FuncData,(∀ (s:Shared) (u:Value),BindsTo s fd ⟨[u],[]⟩ [("_law_script",u)])/\∀ base:Heap,(K w.params).In base->base.Ns mainGlobals mg->dS l.prog w (K w.params) mg base fX 14 fa fd [bi] (lg (K w.params) 1 uK)) :
  PySem.W.WalkO q loose XP YP l.row.toRowW d [] (λf vs=>PySem.call f vs):=
 UA (n:=63) (k:=14) (x:="_law_script") (F0:=uK) hn (by decide) vk ⟨rfl,by decide,by decide⟩ hY F λ_ _ a ns hl tb hS=>Ri ny hl hS tb
end My
namespace PySem.W
structure Fast:Prop where(tw10100349394711198067 tw10105830067689072099 tw10177093156265386960 tw1018768124310906129 tw10202069942512655009 tw1022613664763580200 tw10236778795108938317 tw10268777822014350993 tw1027781364740639056 tw10286290952114078472 tw10289658984228676937 tw10326179431153876588 tw1035604507357440403 tw10370127635069636758 tw10440589192202444055 tw10448385196162806357 tw10449776091267967631 tw10457948603656890893 tw10461062099886889127 tw1046989396033546351 tw10486212531848654598 tw10524766971542490553 tw1059663574003128023 tw10601241876089572885 tw1061640107144526602 tw10678211447497405272 tw10682935817142825184 tw10710133315893749012 tw10720617492556256948 tw10787083775805845275 tw10817403865326042693 tw10846410187093706630 tw10940056514359922958 tw1100553152957762378 tw11092202935535829488 tw11200919643628297696 tw11229664044026911790 tw11371363408400698350 tw11387277861416168279 tw11387685022396756736 tw11425223333292282441 tw11565156856195689559 tw11623747269833779708 tw11643780326072484122 tw11710961895004075621 tw11718067300321886735 tw11760862173789340337 tw1178287203117364175 tw11823250291395449090 tw118294937496320728 tw11843257152198976998 tw11901399644686526240 tw11901788375088288514 tw11910076810456774362 tw11939678789372689239 tw12016982653938029288 tw12017421780981093683 tw12202124155985514919 tw12375196011201721314 tw12464412295577544953 tw12475774319239726740 tw12536831273000317445 tw12578168118400203252 tw12628857130566851624 tw1263872078322405373 tw1273803015937711304 tw1273841588042218905 tw12754214287833772748 tw12776285560948233280 tw12815896083095493275 tw1281874057631380849 tw12827308507554984579 tw12831419423037995510 tw12850232592515852646 tw12864287234931678965 tw12873423739850118536 tw12883417768837520112 tw12917015227222731518 tw13019856132978870350 tw13105888602359856338 tw1310706274519710814 tw1317354172130223465 tw13198713345656274586 tw13227161831007199978 tw13261124052741111928 tw13354796010662192994 tw13412108560024806405 tw13444258434508513956 tw13467313082780259631 tw13469115089803354108 tw13573680546409951739 tw13590758601883271495 tw13623386255019639051 tw13632838716195961473 tw13738730457071508101 tw13750247297972271821 tw13780296693118517258 tw13832666375661017164 tw1384051895751616856 tw13890049868931079920 tw13924916775457900408 tw13935709638065049672 tw14022737744414376307 tw14095942641298520529 tw14168801294707277459 tw14184420053335507873 tw14236762796542955570 tw14315417571081202346 tw14319812058204711425 tw14345107270183171145 tw14358164337664631568 tw14373736426636650043 tw14400451177407869440 tw14410687057543493017 tw14428583571324966866 tw14431976145661840569 tw14450069175036205815 tw14465184728135394318 tw14494626317977291335 tw14521171816649056309 tw14527384517666296023 tw14528854291425042688 tw1458130997564596233 tw14615273469341385331 tw14645880449371296874 tw14687373707642841301 tw14767000632142720974 tw14771194476812390978 tw1486001762032019070 tw14948670225375986171 tw14960136507516362091 tw14968606707822176475 tw14974577933290497865 tw14980146305435878046 tw15007469281340432047 tw15016716742911075894 tw15037825717537104206 tw15076465326216447150 tw15196468056826306771 tw15227299428767479060 tw1524385727134012005 tw15296578566324323405 tw15326806589821550551 tw15392442370618105884 tw1540885646167529289 tw15429783850084492085 tw15502706060637603399 tw15619908077602745160 tw15681838236906912160 tw15723183347826863884 tw1574554933768650021 tw15788318413632782899 tw15803580286940608089 tw15808050478195411317 tw15835875978733678173 tw15837049417655105528 tw15845968640548136452 tw15899516471920970157 tw15920403418776074581 tw15932806772930538722 tw16040954641081684768 tw16102792011182653627 tw16113578101281224693 tw16123706061227935147 tw16145870109912378808 tw16162324596023095769 tw16222405114127125483 tw16245844773629932244 tw16260700333889268051 tw16275201087098180800 tw16333718432424521876 tw16438907679624788982 tw16455153635638296718 tw16479560791014597319 tw16592410618809612662 tw16611275913453518083 tw16612857258632697684 tw16626886843267319023 tw16662152997198902403 tw16682204004371677600 tw16692365048374139365 tw16712930316828201406 tw16715953708338384724 tw1673932397173297292 tw16766562919334946804 tw16769553041169836224 tw16778841740515414265 tw1678754481938013414 tw16847232321776734297 tw16852736419409472037 tw16866654251240624616 tw16946522640097460823 tw16998777015898378105 tw17012949113104740367 tw170481377645382037 tw17087978618350155027 tw17088145655432252673 tw17202700598719110475 tw17283433697567062396 tw17305430465169417415 tw17318887580713637300 tw17332726799289340015 tw17392486143370499038 tw17437928980114793246 tw17491849908917737234 tw17518007242518433219 tw17590608258044673982 tw17609356950043341744 tw17736985171800348117 tw17753922343547750061 tw1775631305265927521 tw17768451322946822548 tw17802169345767699648 tw17846903274874084865 tw17890388758922548201 tw17906672006527986377 tw17943528140099505672 tw18007241813520863728 tw18026407280220342886 tw18030032105822732017 tw18098149323494453632 tw18099192855531953982 tw1811008683637030070 tw18122533195436481337 tw18123178240855201308 tw1812580673382350530 tw18136218729673274766 tw18148409050605809479 tw18183457186746378088 tw18200599765246627509 tw1821759060853430801 tw18235183288458740079 tw18263820214265182056 tw1826424845923471253 tw18274148260311630419 tw183172081542136249 tw18362255410851490727 tw1848959891119096448 tw1874459512479432856 tw2057230186429204015 tw2057397219169377885 tw2067334104349322805 tw2114643011322831205 tw2116202260500529535 tw2167771725561714451 tw2215643241658008351 tw2216147565531455072 tw2309524397165947961 tw2312763432115650317 tw2336324646146192943 tw2376966481096764029 tw2424673968456826473 tw2433359238370992097 tw2439840102978505240 tw2447217688968630776 tw2485140230879082831 tw2497213117842105474 tw2521405726235250084 tw257639195317733142 tw2597071294977325942 tw2662034127502615070 tw2704703042658151123 tw271381172012910679 tw2729259065964942341 tw2729857585028776857 tw2779130092337584897 tw2834512184089363072 tw2909784415105977658 tw2979059371257242639 tw3017430658364790308 tw3057832822039022516 tw3084406902706109701 tw3213441544579065615 tw3253429971884025120 tw3297860787814953763 tw3339100678472730664 tw3361648363171779504 tw3386350058284207764 tw3407556611964936539 tw3438120256602550866 tw3450678993029773507 tw3564265689990037831 tw3654174360841016966 tw3661110615994395510 tw3679146632666979665 tw3686732248489701709 tw378137654943766295 tw3914034493490791189 tw3946669690403426964 tw3962755940963316329 tw4012207065846682950 tw401972729140784864 tw4089050615854206501 tw4097206688400433288 tw4229332799340881958 tw4236155027761981966 tw4238010909314261667 tw428570185828075811 tw4291362842106962269 tw4406103689402495382 tw4428826026255189107 tw4580681436326108240 tw4582224239644866498 tw4598293536446971262 tw4621529921098611121 tw4632420204568872771 tw4643025442472766940 tw4755764510864073437 tw4803169026511228032 tw4905382579059512637 tw4964226108130145861 tw4967373598129013469 tw4989768768345158271 tw5020075609123432142 tw5034096383980273087 tw5082883836103852694 tw5104748291393954557 tw5114857577227599441 tw5130796500878743660 tw5149549890656136469 tw51917208933780822 tw5211288028416578643 tw5251190035503668443 tw5261275019590686274 tw532161770779429344 tw5390388910553898298 tw543725898445843886 tw5458169170210233843 tw5497385999063446381 tw5498095218600230750 tw5502544925738376081 tw5528122979669579618 tw5530972655426137998 tw5592133438822673418 tw5628626106261571772 tw5654473198414149509 tw566089393523684407 tw5719914235516506099 tw593107835434599404 tw5946987945863662919 tw5983968698888982026 tw6177675577686467457 tw6186793793647218138 tw620308747946818720 tw6333499434104271885 tw6339423364897806793 tw6373859538010734682 tw6423496841290441907 tw6509727946564786117 tw6538340589442424417 tw6545854264065204788 tw6545867626632308224 tw6553687745271861396 tw6634463546205349344 tw669737074550998862 tw6745906817905359030 tw6815409239720353653 tw6841469374701734018 tw6936006629027379371 tw697940211061974544 tw6990805357616480268 tw7023903396517856568 tw7163546281009841816 tw7263382411892792939 tw7268974598043330630 tw7342760114366915818 tw7396492549351936410 tw7415135794048881921 tw744389389449599767 tw7471663353379551237 tw7482745430121951442 tw749702784858305667 tw7565878655590302095 tw7641711765597169677 tw7801128836113518840 tw7837070172643371029 tw7895395991937640311 tw7986132572475739170 tw8007479226216795376 tw8036903373307922448 tw8047611910362059578 tw8214280206152908048 tw8229623213590816587 tw8279530055364257271 tw82802387647536822 tw8302730274413158862 tw830693774114571306 tw8353647084508048409 tw8354376530656018610 tw8391587307362025259 tw8412738039270398849 tw8438255106392338708 tw8473921011145863367 tw8508115599507169361 tw8510573035919376369 tw8546319355994795320 tw8623044633277119674 tw8636069575173759403 tw8677999496367682842 tw8774041609174136053 tw8916943568795841057 tw8992270242482057082 tw9090253661650247678 tw9121211997759089025 tw9157716636536018409 tw9225936985953922980 tw9232692634129666630 tw9249694278599493028 tw9307747981055833393 tw9329428864074308283 tw9333722104832985721 tw9368184072951512914 tw9496982930915772327 tw9546393463782140248 tw9551645171240654464 tw9657888885924391141 tw9781408653924127544 tw9854826583093550240:True)
end PySem.W
open PySem PySem.W PyProof.Rows
set_option maxRecDepth 100000 in
set_option maxHeartbeats 0 in
theorem PySem.Challenge.cw_ladderhall_k83_whole_copies_holds : PySem.Challenge.rw_ladderhall_k83_whole_copies.Holds := by
  w_on; o_law; k_head; (case hw => w_witness2)
  k_fill
  refine My.walk (l := PySem.Challenge.rw_ladderhall_k83_whole_copies) rfl rfl (fun w h Y => PySem.W.kIn_of Y) ?F
  case F =>
    intro w mg fa h KX G hmg
    refine' ⟨L3.T0.of ?r1 ?r2 ?r3 ?r4 ?r5 ?r6, ?al⟩
    (case r1 => refine' L3.j5p ?_; k_is)
    (case r2 => refine' L3.j5p ?_; k_is)
    (case r3 => refine' L3.j5p ?_; k_is)
    (case r4 => refine' L3.j5p ?_; k_is)
    (case r5 => refine' L3.j5p ?_; k_is)
    (case r6 => refine' L3.j5p ?_; k_is)
    refine' My.all_mk KX G hmg ?A1 ?A2 ?A3 ?A4 ?A5 ?A6 ?A7 ?A8 ?A9 ?A10 ?A11 ?A12 ?A13 ?A14 ?A15 ?A16 ?A17 ?A18 ?A19 ?A20 ?A21 ?A22 ?A23 ?A24 ?A25 ?A26 ?A27 ?A28 ?A29 ?A30 ?A31 ?A32 ?A33 ?A34 ?A35 ?A36 ?A37 ?A38 ?A39 ?A40 ?A41 ?A42 ?A43 ?A44 ?A45 ?A46 ?A47 ?A48 ?a49 ?l49 ?c49 ?k49 ?z1 ?z2 ?z3 ?z4 ?z5 ?z6 ?z7 ?z8 ?z9 ?z10 ?z11 ?z12 ?z13 ?z14 ?z15 ?xrN ?xcg ?xct ?xrg ?xrt ?xrc ?xro ?xrb ?xrT ?xe0N ?xe0g ?xe0t ?xe0c ?xe0o ?xe0b ?xe0V ?xe0n0 ?xe0n1 ?xe0n2 ?xe0n3 ?xe0n4 ?xe0R ?xe0X ?y0N ?y0O ?y0T ?y0Sxe0 ?y0Dxe0 ?y1N ?y1O ?y1T ?y1Sxe0 ?y1Dxe0 ?y2N ?y2O ?y2T ?y2Sxe0 ?y2Dxe0 ?y3N ?y3O ?y3T ?y3Sxe0 ?y3Dxe0 ?y4N ?y4O ?y4T ?y4Sxe0 ?y4Dxe0
    (case A1 | A2 | A3 | A4 | A5 | A6 | A7 | A8 | A9 | A10 | A11 | A12 | A13 | A14 | A15 | A16 | A17 | A18 | A19 | A20 | A21 | A22 | A23 | A24 | A25 | A26 | A27 | A28 | A29 | A30 | A31 | A32 | A33 | A34 | A35 | A36 | A37 | A38 | A39 | A40 | A41 | A42 | A43 | A44 | A45 | A46 | A47 | A48 => refine' My.A0.mk KX G ?a ?l ?c ?k; (case a => k_is); (case l => k_is); (case c => k_is); (case k => k_is))
    (case a49 | l49 | c49 | k49 | z1 | z2 | z3 | z4 | z5 | z6 | z7 | z8 | z9 | z10 | z11 | z12 | z13 | z14 | z15 | xrN | xcg | xct | xrg | xrt | xrc | xro | xrb | xrT | xe0N | xe0g | xe0t | xe0c | xe0o | xe0b | xe0V | xe0n0 | xe0n1 | xe0n2 | xe0n3 | xe0n4 | xe0R | y0N | y0O | y0T | y0Sxe0 | y1N | y1O | y1T | y1Sxe0 | y2N | y2O | y2T | y2Sxe0 | y3N | y3O | y3T | y3Sxe0 | y4N | y4O | y4T | y4Sxe0 => k_is)
    (case xe0X => k_exc)
    (case y0Dxe0 | y1Dxe0 | y2Dxe0 | y3Dxe0 | y4Dxe0 => decide)
