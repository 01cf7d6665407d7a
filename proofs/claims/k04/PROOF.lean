import PyProof.Rows.All
import Wide.All
import OpenK.AllK
import Wide.FinOn
import Lean
import PyProof.EqAt
import PyProof.EqKinds
import PyProof.TupleCall
import KE.KIsNot
import PyProof.ExcArgs
import OpenK.KOwn
import KE.LcSums
import PyProof.EnumMake
import PyProof.Draws
import PyProof.Rows.EnumRows
import PyProof.ExcBaseAll.ValueError
import PyProof.NsDelKeeps
import PyProof.Rows.SetFrom
import PyProof.WalksMore
import KE.KDictSum
import PyProof.Rows.MinMaxN
import PyProof.Rows.CallKwBuiltin
import KE.KMinKey
import KE.KSortKey
import PyProof.DictWalks
import PySem.Challenge.RW_ladderhall_k04_whole_heights
set_option Elab.async false
set_option linter.all false
set_option Elab.async false
set_option linter.all false
set_option maxRecDepth 100000
namespace L2
open PySem PySem.Spec PyProof.Rows
noncomputable abbrev Key := Sum Int Str
noncomputable def keyIs : Key → Value → Bool
  | .inl k, v => Value.isInt k v
  | .inr x, v => Value.isStrOf x v
noncomputable def keyH (w : World) : Key → Int
  | .inl k => hashInt k
  | .inr x => hashStr w x
theorem keyIs_shape : ∀ {k : Key} {v : Value}, keyIs k v = true → (∃ i t, k = Sum.inl i ∧ v = Value.int i t) ∨ (∃ x t, k = Sum.inr x ∧ v = Value.str x t)
  | .inl i, v, h => by
    obtain ⟨t, e⟩ := Value.isInt_shape (k := i) (v := v) h
    exact .inl ⟨i, t, rfl, e⟩
  | .inr x, v, h => by
    obtain ⟨t, e⟩ := Value.isStrOf_shape (x := x) (v := v) h
    exact .inr ⟨x, t, rfl, e⟩
theorem keyIs_int (i : Int) (t : Tok) : keyIs (.inl i) (.int i t) = true := by simp [keyIs, Value.isInt]
theorem keyIs_str (x : Str) (t : Tok) : keyIs (.inr x) (.str x t) = true := by simp [keyIs, Value.isStrOf]
theorem key_ll (a b : Int) : decide ((Sum.inl a : Key) = Sum.inl b) = (a == b) := by
  by_cases e : a = b
  · subst e; simp
  · have h : ¬ (Sum.inl a : Key) = Sum.inl b := fun q => e (Sum.inl.inj q)
    rw [decide_eq_false h]
    exact (beq_eq_false_iff_ne.mpr e).symm
theorem key_rr (a b : Str) : decide ((Sum.inr a : Key) = Sum.inr b) = decide (a = b) := by
  by_cases e : a = b
  · subst e; simp
  · have h : ¬ (Sum.inr a : Key) = Sum.inr b := fun q => e (Sum.inr.inj q)
    rw [decide_eq_false h, decide_eq_false e]
theorem key_lr (a : Int) (b : Str) : decide ((Sum.inl a : Key) = Sum.inr b) = false := decide_eq_false (fun q => nomatch q)
theorem key_rl (a : Str) (b : Int) : decide ((Sum.inr a : Key) = Sum.inl b) = false := decide_eq_false (fun q => nomatch q)
noncomputable def mixKind (prog : Program) (w : World) : PySem.KeyKind prog w Key where
  is := keyIs
  hash := keyH w
  inj := fun v a b ha hb => by
    rcases keyIs_shape ha with ⟨i, t, rfl, rfl⟩ | ⟨x, t, rfl, rfl⟩
    · rcases keyIs_shape hb with ⟨j, u, rfl, e⟩ | ⟨y, u, rfl, e⟩
      · injection e with e1 _; rw [e1]
      · exact nomatch e
    · rcases keyIs_shape hb with ⟨j, u, rfl, e⟩ | ⟨y, u, rfl, e⟩
      · exact nomatch e
      · injection e with e1 _; rw [e1]
  byValue := fun k v h => by
    rcases keyIs_shape h with ⟨i, t, rfl, rfl⟩ | ⟨x, t, rfl, rfl⟩ <;> rfl
  pyHash := fun hv h => by
    rcases keyIs_shape hv with ⟨i, t, rfl, rfl⟩ | ⟨x, t, rfl, rfl⟩
    · exact wpAny_pyHash_int h
    · exact wpAny_pyHash_str h
  eqBool := fun hu hv h => by
    rcases keyIs_shape hu with ⟨i, t, rfl, rfl⟩ | ⟨x, t, rfl, rfl⟩
    · rcases keyIs_shape hv with ⟨j, u, rfl, rfl⟩ | ⟨y, u, rfl, rfl⟩
      · rw [key_ll] at h; exact wpAny_eqBool_int h
      · rw [key_lr] at h; exact SeqAt.EqAt.int_str i t y u _ _ _ _ h
    · rcases keyIs_shape hv with ⟨j, u, rfl, rfl⟩ | ⟨y, u, rfl, rfl⟩
      · rw [key_rl] at h; exact SeqAt.EqAt.str_int x t j u _ _ _ _ h
      · rw [key_rr] at h; exact wpAny_eqBool_str h
  «strs» := fun k x t v h => by
    rcases keyIs_shape h with ⟨i, u, rfl, e⟩ | ⟨y, u, rfl, e⟩
    · exact nomatch e
    · injection e with e1 _
      subst e1
      cases v <;> rfl
theorem mixKind_int (prog : Program) (w : World) (i : Int) (t : Tok) : (mixKind prog w).is (.inl i) (.int i t) = true := keyIs_int i t
theorem mixKind_str (prog : Program) (w : World) (x : Str) (t : Tok) : (mixKind prog w).is (.inr x) (.str x t) = true := keyIs_str x t
end L2
namespace L2
open PySem PySem.Spec PyProof.Rows
inductive V where
  | non | bl (b : Bool) | int (i : Int) | str (x : Str) | byt (b : Array UInt8) | flt (b : UInt64) | ref (a : Addr) | ty (n : String)
  deriving DecidableEq
noncomputable def RelV : V → Value → Prop
  | .non, u => u = Value.none
  | .bl b, u => u = Value.bool b
  | .int i, u => ∃ t, u = Value.int i t
  | .str x, u => ∃ t, u = Value.str x t
  | .byt b, u => ∃ t, u = Value.bytes b t
  | .flt b, u => ∃ t, u = Value.float b t
  | .ref a, u => u = Value.ref a
  | .ty n, u => u = Value.type n
noncomputable abbrev Vals : List V → List Value → Prop := Paired RelV
theorem Vals.length {xs : List V} {us : List Value} (r : Vals xs us) : xs.length = us.length := Paired.length r
theorem Vals.get : ∀ {xs : List V} {us : List Value} {i : Nat} {x : V}, Vals xs us → xs[i]? = some x → ∃ u, us[i]? = some u ∧ RelV x u
  | _, _, _, _, .nil, e => by simp at e
  | _, _, 0, _, .cons r _, e => by simp at e; subst e; exact ⟨_, rfl, r⟩
  | _, _, i + 1, x, .cons _ t, e => by
    obtain ⟨u, h1, h2⟩ := Vals.get (i := i) (x := x) t (by simpa using e)
    exact ⟨u, by simpa using h1, h2⟩
theorem Vals.set {x : V} {u : Value} (r : RelV x u) : ∀ {xs : List V} {us : List Value} (i : Nat), Vals xs us → Vals (xs.set i x) (us.set i u)
  | _, _, _, .nil => .nil
  | _, _, 0, .cons _ t => .cons r t
  | _, _, i + 1, .cons q t => .cons q (Vals.set r i t)
theorem Vals.append : ∀ {xs ys : List V} {us ws : List Value}, Vals xs us → Vals ys ws → Vals (xs ++ ys) (us ++ ws)
  | _, _, _, _, .nil, s => s
  | _, _, _, _, .cons r t, s => .cons r (Vals.append t s)
theorem Vals.take : ∀ {xs : List V} {us : List Value} (n : Nat), Vals xs us → Vals (xs.take n) (us.take n)
  | _, _, 0, _ => .nil
  | _, _, _ + 1, .nil => .nil
  | _, _, n + 1, .cons r t => .cons r (Vals.take n t)
theorem Vals.drop : ∀ {xs : List V} {us : List Value} (n : Nat), Vals xs us → Vals (xs.drop n) (us.drop n)
  | _, _, 0, r => r
  | _, _, _ + 1, .nil => .nil
  | _, _, n + 1, .cons _ t => Vals.drop n t
noncomputable def RelO : Option V → Option Value → Prop
  | some v, some u => RelV v u
  | none, none => True
  | _, _ => False
noncomputable def KV {κ : Type} : List (κ × V) → List (κ × Value) → Prop := Paired fun (p : κ × V) (q : κ × Value) => p.1 = q.1 ∧ RelV p.2 q.2
noncomputable def kV : Key → V
  | .inl i => .int i
  | .inr x => .str x
inductive HO where
  /-- a list -/
  | lst (xs : List V)
  /-- a tuple (never changes) -/
  | tup (xs : List V)
  /-- a dict whose keys are ints and texts; one whose keys are tuples of ints and texts (the empty one is both) -/
  | dK (kvs : List (Key × V)) | dT (kvs : List (List Key × V))
  /-- a set of ints: its members, its size -/
  | set (S : Int → Bool) (n : Nat)
  /-- an instance of the class at C, its dict at dx, its attributes -/
  | ins (C dx : Addr) (fs : List (Str × V))
  /-- the dict of the instance at x -/
  | own (x : Addr)
  /-- the dict of an exception -/
  | xd (fs : List (Str × V))
  /-- a bound method, f of x -/
  | met (f x : Addr)
  /-- a range object lo, lo + 1, .. below hi -/
  | rng (lo hi : Int)
  /-- a thing that is known to the object (the script; a dict while a loop walks it): read, never written while it is so -/
  | frz (o : Obj) (u : HO)
  /-- a code object's table -/
  | tbl (ps : Array Value)
  /-- any other thing, by what is true of its one object (a def of one's own: SetO a S n := HO.ext fun h => ..) -/
  | ext (φ : Heap → Prop)
noncomputable abbrev Hp := Addr → Option HO
noncomputable def upd (H : Hp) (a : Addr) (o : HO) : Hp := fun b => if b = a then some o else H b
theorem upd_same {H : Hp} {a : Addr} {o : HO} : upd H a o a = some o := by unfold upd; rw [if_pos rfl]
theorem upd_ne {H : Hp} {a b : Addr} {o : HO} (h : b ≠ a) : upd H a o b = H b := by unfold upd; rw [if_neg h]
theorem ne_of {H : Hp} {a b : Addr} {o u : HO} (h : H a = some o) (h' : H b = some u) (d : o ≠ u) : a ≠ b := by
  intro e; subst e; rw [h] at h'; exact d (Option.some.inj h')
theorem ne_of_none {H : Hp} {a b : Addr} {o : HO} (h : H a = some o) (h' : H b = none) : a ≠ b := by
  intro e; subst e; rw [h] at h'; cases h'
noncomputable def IsTupD (h : Heap) (a : Addr) (items : Array Value) : Prop := ∃ o, h.get? a = some o ∧ o.cls = .type "tuple" ∧ (∃ n, o.data = .seq items n) ∧ o.dict = none
theorem IsTupD.tup {h : Heap} {a : Addr} {items : Array Value} (x : IsTupD h a items) : IsTup h a items := let ⟨o, e, c, n, _⟩ := x; ⟨o, e, c, n⟩
theorem IsTupD.new (h : Heap) (items : Array Value) : IsTupD (h.push { cls := .type "tuple", data := .seq items }) h.objs.size items := ⟨_, Heap.get?_push_size _ rfl, rfl, ⟨_, rfl⟩, rfl⟩
theorem IsTupD.lt {h : Heap} {a : Addr} {items : Array Value} (x : IsTupD h a items) : a < h.objs.size := let ⟨_, e, _⟩ := x; Heap.lt_size e
section
variable (P : Program) (w : World)
noncomputable def ObjOk (H : Hp) (h : Heap) (a : Addr) : HO → Prop
  | .lst xs => xs.length ≤ sizeLine ∧ ∃ (its : List Value) (n : Nat), Vals xs its ∧ h.get? a = some { cls := .type "list", data := .seq its.toArray n }
  | .tup xs => xs.length ≤ sizeLine ∧ ∃ its : List Value, Vals xs its ∧ IsTupD h a its.toArray
  | .dK kvs => kvs.length ≤ sizeLine ∧ (a == sysModules) = false ∧ ∃ vs, KV kvs vs ∧ h.DictOf (mixKind P w) a vs
  | .dT kvs => kvs.length ≤ sizeLine ∧ (a == sysModules) = false ∧ ∃ xs : List (List Key × Addr × Value),
      Paired (fun (p : List Key × V) (q : List Key × Addr × Value) => p.1 = q.1 ∧ H q.2.1 = some (.tup (p.1.map kV)) ∧ RelV p.2 q.2.2) kvs xs ∧
      ∃ o es ep, h.get? a = some o ∧ o.ExactDict ∧ o.data = .dict es ep ∧ es.toList = xs.map (entryOfKey (tupleKind (mixKind P w))) ∧ (xs.map (·.1)).Nodup
  | .set S n => h.SetOf (intKind P w) a S n
  | .ins C dx fs => H dx = some (.own a) ∧ fs.length ≤ 1000 ∧ dx ≠ a ∧ h.get? a = some (PySem.W.instObj C dx) ∧
      ∃ mA, h.Ns1 dx mA ∧ (∀ f, RelO (fs.lookup f) (mA f)) ∧ PySem.Within mA (fs.map (·.1))
  | .own _ => ∃ o, h.get? a = some o
  | .xd fs => ∃ mA, h.Ns1 a mA ∧ ∀ f, RelO (fs.lookup f) (mA f)
  | .rng lo hi => ∃ t u v, h.get? a = some { cls := .type "range", data := .fields #[.int lo t, .int hi u, .int 1 v] }
  | .frz o u => h.get? a = some o ∧ ObjOk H h a u
  | .tbl ps => h.get? a = some { cls := .none, data := .fields ps }
  | .met f x => h.get? a = some (PySem.W.methodObj (.ref f) (.ref x))
  | .ext φ => φ h ∧ (∃ o, h.get? a = some o) ∧ ∀ h1 h2 : Heap, φ h1 → (∀ o, h1.get? a = some o → h2.get? a = some o) → φ h2
noncomputable def HOk (H : Hp) (h : Heap) : Prop := ∀ a o, H a = some o → ObjOk P w H h a o
end
section
variable {P : Program} {w : World} {H H' : Hp} {h h' : Heap} {a : Addr} {o : HO}
theorem ObjOk.lt (x : ObjOk P w H h a o) : a < h.objs.size := by
  cases o with
  | lst xs => obtain ⟨_, _, _, _, e⟩ := x; exact Heap.lt_size e
  | tup xs => obtain ⟨_, _, _, p⟩ := x; exact p.lt
  | dK kvs => obtain ⟨_, _, _, _, o, _, _, e, _⟩ := x; exact Heap.lt_size e
  | dT kvs => obtain ⟨_, _, _, _, o, _, _, e, _⟩ := x; exact Heap.lt_size e
  | set S n => obtain ⟨o, _, _, _, e, _⟩ := x; exact Heap.lt_size e
  | ins C dx fs => obtain ⟨_, _, _, e, _⟩ := x; exact Heap.lt_size e
  | own y => obtain ⟨_, e⟩ := x; exact Heap.lt_size e
  | xd fs => obtain ⟨_, ⟨_, _, _, e, _⟩, _⟩ := x; exact Heap.lt_size e
  | rng lo hi => obtain ⟨_, _, _, e⟩ := x; exact Heap.lt_size e
  | frz ob u => obtain ⟨e, _⟩ := x; exact Heap.lt_size e
  | tbl ps => exact Heap.lt_size (show h.get? a = some _ from x)
  | met f y => exact Heap.lt_size (show h.get? a = some _ from x)
  | ext φ => obtain ⟨_, ⟨_, e⟩, _⟩ := x; exact Heap.lt_size e
theorem Paired.mapP {α β : Type} {F G : α → β → Prop} : ∀ {l₁ : List α} {l₂ : List β}, Paired F l₁ l₂ → (∀ a b, F a b → G a b) → Paired G l₁ l₂
  | _, _, .nil, _ => .nil
  | _, _, .cons r t, f => .cons (f _ _ r) (Paired.mapP t f)
theorem ObjOk.stay (x : ObjOk P w H h a o) (k : ∀ b u, (b = a ∨ H b = some (.own a)) → h.get? b = some u → h'.get? b = some u)
    (ho : ∀ b, H b = some (.own a) → H' b = some (.own a)) (ht : ∀ b xs, H b = some (.tup xs) → H' b = some (.tup xs)) : ObjOk P w H' h' a o := by
  induction o with
  | lst xs => obtain ⟨z, its, n, r, e⟩ := x; exact ⟨z, its, n, r, k _ _ (.inl rfl) e⟩
  | tup xs => obtain ⟨z, its, r, ob, e, c⟩ := x; exact ⟨z, its, r, ob, k _ _ (.inl rfl) e, c⟩
  | dK kvs => obtain ⟨z, y, vs, r, ob, es, ep, e, c⟩ := x; exact ⟨z, y, vs, r, ob, es, ep, k _ _ (.inl rfl) e, c⟩
  | dT kvs =>
    obtain ⟨z, y, xs, r, ob, es, ep, e, c⟩ := x
    exact ⟨z, y, xs, Paired.mapP r fun p q z => ⟨z.1, ht _ _ z.2.1, z.2.2⟩, ob, es, ep, k _ _ (.inl rfl) e, c⟩
  | set S n => obtain ⟨ob, es, ep, t, e, c⟩ := x; exact ⟨ob, es, ep, t, k _ _ (.inl rfl) e, c⟩
  | ins C dx fs =>
    obtain ⟨d, z, ne, e, mA, ⟨od, es, ep, e2, c⟩, r⟩ := x
    exact ⟨ho _ d, z, ne, k _ _ (.inl rfl) e, mA, ⟨od, es, ep, k _ _ (.inr d) e2, c⟩, r⟩
  | own y => obtain ⟨ob, e⟩ := x; exact ⟨ob, k _ _ (.inl rfl) e⟩
  | xd fs => obtain ⟨mA, ⟨od, es, ep, e, c⟩, r⟩ := x; exact ⟨mA, ⟨od, es, ep, k _ _ (.inl rfl) e, c⟩, r⟩
  | rng lo hi => obtain ⟨t, u, v, e⟩ := x; exact ⟨t, u, v, k _ _ (.inl rfl) e⟩
  | frz ob u ih => obtain ⟨e, q⟩ := x; exact ⟨k _ _ (.inl rfl) e, ih q⟩
  | tbl ps =>
    have e : h.get? a = some { cls := .none, data := .fields ps } := x
    show h'.get? a = some { cls := .none, data := .fields ps }
    exact k a _ (.inl rfl) e
  | met f y =>
    have e : h.get? a = some (PySem.W.methodObj (.ref f) (.ref y)) := x
    show h'.get? a = some (PySem.W.methodObj (.ref f) (.ref y))
    exact k a _ (.inl rfl) e
  | ext φ => obtain ⟨p, ⟨o, e⟩, st⟩ := x; exact ⟨st _ _ p fun o q => k _ _ (.inl rfl) q, ⟨o, k _ _ (.inl rfl) e⟩, st⟩
theorem HOk.lt (x : HOk P w H h) (e : H a = some o) : a < h.objs.size := (x a o e).lt
theorem HOk.fresh (x : HOk P w H h) (e : h.objs.size ≤ a) : H a = none := by
  cases q : H a with
  | none => rfl
  | some u => exact absurd (Nat.lt_of_lt_of_le (x.lt q) e) (Nat.lt_irrefl _)
theorem HOk.kept (x : HOk P w H h) (k : ∀ b u, h.get? b = some u → h'.get? b = some u) : HOk P w H h' := fun a o e =>
  (x a o e).stay (fun b u _ q => k b u q) (fun _ q => q) fun _ _ q => q
theorem HOk.laid (x : HOk P w H h) (k : ∀ b u, h.get? b = some u → h'.get? b = some u) (hp : h.objs.size ≤ a) (new : ObjOk P w (upd H a o) h' a o) : HOk P w (upd H a o) h' := fun b u e => by
  have hn := x.fresh hp
  by_cases hb : b = a
  · subst hb; rw [upd_same] at e; cases e; exact new
  · rw [upd_ne hb] at e
    exact (x b u e).stay (fun c v _ q => k c v q) (fun c q => by rw [upd_ne (ne_of_none q hn)]; exact q) fun c xs q => by rw [upd_ne (ne_of_none q hn)]; exact q
end
noncomputable def Rd (H : Hp) (a : Addr) (u : HO) : Prop := H a = some u ∨ ∃ o, H a = some (.frz o u)
theorem Rd.of {H : Hp} {a : Addr} {u : HO} (h : H a = some u) : Rd H a u := .inl h
theorem Rd.ok {P : Program} {w : World} {H : Hp} {h : Heap} {a : Addr} {u : HO} (r : Rd H a u) (x : HOk P w H h) : ObjOk P w H h a u := by
  rcases r with r | ⟨o, r⟩
  · exact x a u r
  · obtain ⟨_, q⟩ := x a _ r
    exact q
noncomputable def Mut : Option HO → Prop
  | some (.lst _) => True
  | some (.dK _) => True
  | some (.dT _) => True
  | some (.set _ _) => True
  | some (.ins _ _ _) => True
  | some (.ext _) => True
  | _ => False
section
variable {P : Program} {w : World} {H : Hp} {h h' : Heap} {x e : Addr} {o' : HO}
theorem HOk.write (ok : HOk P w H h) (mu : Mut (H x)) (he : e = x ∨ H e = some (.own x)) (k : ∀ b u, b ≠ e → h.get? b = some u → h'.get? b = some u) (heo : ∃ u, h'.get? e = some u)
    (new : ObjOk P w (upd H x o') h' x o') : HOk P w (upd H x o') h' := fun b u q => by
  have nown : ∀ c y, H c = some (.own y) → c ≠ x := fun c y r z => by subst z; rw [r] at mu; exact mu
  have ntup : ∀ c xs, H c = some (.tup xs) → c ≠ x := fun c xs r z => by subst z; rw [r] at mu; exact mu
  by_cases hb : b = x
  · subst hb; rw [upd_same] at q; cases q; exact new
  · rw [upd_ne hb] at q
    by_cases hbe : b = e
    · have q' : H b = some (.own x) := by
        rcases he with z | z
        · exact absurd (hbe.trans z) hb
        · rw [hbe]; exact z
      rw [q] at q'; cases q'
      obtain ⟨v, hv⟩ := heo
      exact ⟨v, by rw [hbe]; exact hv⟩
    · refine (ok b u q).stay (fun c v hc r => k c v ?_ r) (fun c r => by rw [upd_ne (nown c b r)]; exact r) fun c xs r => by rw [upd_ne (ntup c xs r)]; exact r
      rcases hc with rfl | hc
      · exact hbe
      · rintro rfl
        rcases he with z | z
        · exact nown c b hc z
        · rw [hc] at z; cases z; exact hb rfl
end
structure Un (fs ex : List Addr) (H H' : Hp) (h h' : Heap) : Prop where
  keep : ∀ b o, h.get? b = some o → H b = none → b ∉ fs → b ∉ ex → h'.get? b = some o
  slot : ∀ b o, h.get? b = some o → H b = none → b ∈ fs → b ∉ ex → ∃ sl, h'.get? b = some { o with slots := sl }
  free : ∀ b o, h.get? b = some o → H b = none → b ∉ ex → H' b = none
  there : ∀ b o, h.get? b = some o → b ∉ ex → ∃ o', h'.get? b = some o'
  tups : ∀ b xs, H b = some (.tup xs) → H' b = some (.tup xs)
  frzs : ∀ b o u, H b = some (.frz o u) → H' b = some (.frz o u)
  tbls : ∀ b ps, H b = some (.tbl ps) → ∃ more, H' b = some (.tbl (ps ++ more))
section
variable {fs fs' ex ex' : List Addr} {H H1 H2 : Hp} {h h1 h2 h' : Heap} {a x e : Addr} {o : HO}
theorem Un.any (u : Un fs ex H H1 h h1) {b : Addr} {ob : Obj} (q : h.get? b = some ob) (n : H b = none) (hx : b ∉ ex) : ∃ sl, h1.get? b = some { ob with slots := sl } := by
  by_cases hb : b ∈ fs
  · exact u.slot b ob q n hb hx
  · exact ⟨ob.slots, u.keep b ob q n hb hx⟩
theorem Un.kept (k : ∀ b u, h.get? b = some u → h'.get? b = some u) : Un fs ex H H h h' :=
  ⟨fun b ob q _ _ _ => k b ob q, fun b ob q _ _ _ => ⟨ob.slots, k b ob q⟩, fun _ _ _ n _ => n, fun b ob q _ => ⟨ob, k b ob q⟩, fun _ _ q => q, fun _ _ _ q => q, fun _ ps q => ⟨#[], by rw [q]; simp⟩⟩
theorem Un.refl : Un fs ex H H h h := Un.kept fun _ _ q => q
theorem Un.laid (k : ∀ b u, h.get? b = some u → h'.get? b = some u) (hp : h.objs.size ≤ a) (hn : H a = none) : Un fs ex H (upd H a o) h h' where
  keep := fun b u q _ _ _ => k b u q
  slot := fun b u q _ _ _ => ⟨u.slots, k b u q⟩
  free := fun b u q n _ => by rw [upd_ne (Nat.ne_of_lt (Nat.lt_of_lt_of_le (Heap.lt_size q) hp))]; exact n
  there := fun b u q _ => ⟨u, k b u q⟩
  tups := fun b xs q => by rw [upd_ne (ne_of_none q hn)]; exact q
  frzs := fun b u xs q => by rw [upd_ne (ne_of_none q hn)]; exact q
  tbls := fun b ps q => ⟨#[], by rw [upd_ne (ne_of_none q hn), q]; simp⟩
theorem Un.write (mu : Mut (H x)) (he : e = x ∨ H e = some (.own x)) (k : ∀ b u, b ≠ e → h.get? b = some u → h'.get? b = some u) (heo : ∃ u, h'.get? e = some u) : Un fs ex H (upd H x o) h h' := by
  have hx : ∀ b, H b = none → b ≠ x := fun b n z => by subst z; rw [n] at mu; exact mu
  have hb : ∀ b, H b = none → b ≠ e := fun b n z => by
    subst z
    rcases he with r | r
    · exact hx b n r
    · rw [n] at r; cases r
  have hm : ∀ b u, H b = some u → ¬ Mut (some u) → b ≠ x := fun b u q nm z => by subst z; rw [q] at mu; exact nm mu
  refine ⟨fun b u q n _ _ => k b u (hb b n) q, fun b u q n _ _ => ⟨u.slots, k b u (hb b n) q⟩, fun b u q n _ => by rw [upd_ne (hx b n)]; exact n, fun b u q _ => ?_,
    fun b xs q => by rw [upd_ne (hm b _ q fun z => z)]; exact q, fun b u xs q => by rw [upd_ne (hm b _ q fun z => z)]; exact q, fun b ps q => ⟨#[], by rw [upd_ne (hm b _ q fun z => z), q]; simp⟩⟩
  by_cases hbe : b = e
  · subst hbe; exact heo
  · exact ⟨u, k b u hbe q⟩
end
noncomputable def trk (h : Heap) (H : Hp) : List Addr := (List.range h.objs.size).filter fun a => (H a).isSome
noncomputable def hidT (h : Heap) (H : Hp) : Heap := PySem.W.hideAll h (trk h H)
theorem hidT_size (h : Heap) (H : Hp) : (hidT h H).objs.size = h.objs.size := PySem.W.hideAll_size _ _
theorem hidT_get {h : Heap} {H : Hp} {b : Addr} {o : Obj} (e : h.get? b = some o) (n : H b = none) : (hidT h H).get? b = some o :=
  PySem.W.hideAll_get _ e fun hm => by
    have q : (H b).isSome = true := (List.mem_filter.mp hm).2
    rw [n] at q; simp at q
theorem of_hidT {h : Heap} {H : Hp} {b : Addr} {o : Obj} (e : (hidT h H).get? b = some o) : h.get? b = some o ∧ H b = none := by
  have e' : h.get? b = some o := PySem.W.of_hideAll (trk h H) e
  refine ⟨e', ?_⟩
  cases q : H b with
  | none => rfl
  | some x =>
    have hm : b ∈ trk h H := List.mem_filter.mpr ⟨List.mem_range.mpr (Heap.lt_size e'), by simp [q]⟩
    have z : (hidT h H).get? b = none := PySem.W.hideAll_none (trk h H) hm
    rw [z] at e; cases e
noncomputable def allNews (g h : Heap) (L : Addr) : List (Addr × Obj) := (List.range h.objs.size).filterMap fun a => if a = L ∨ (g.get? a).isSome = true then none else (h.get? a).map fun o => (a, o)
noncomputable def rest (g h : Heap) (L d : Addr) : List (Addr × Obj) := (allNews g h L).filter fun p => decide (p.1 ≠ d)
end L2
namespace L2
open PySem PySem.Spec PyProof.Rows
structure Mod (K : PySem.W.Frag) (mg : Str → Option Value) (base : Heap) : Prop where
  kin : K.In base
  glob : base.Ns mainGlobals mg
  blt : ∃ mb, base.Ns builtinsNs mb ∧ ∀ x : Str, x ≠ "__name__" → mb x = bootBuiltins x
  nolimit : base.NoLimit
structure Cx where
  prog : Program
  w : World
  K : PySem.W.Frag
  mg : Str → Option Value
  base : Heap
  A : Around
  N : List Str
  s₀ : Shared
  H₀ : Hp
  env : Env
  outer : List Env
  stack : List Env
  ex : List Addr
  fn : Str → Bool
  calm : Bool
  pn : List (Addr × Obj)
  xe : Value → Shared → Prop
noncomputable def frs (l : List Env) : List Addr := l.filterMap (·.frame)
noncomputable abbrev Cx.fs (X : Cx) : List Addr := frs X.outer
noncomputable def Vis (sc : Scope) (x : Str) : Prop := sc.names.lookup x = some .local ∨ sc.names.lookup x = some .cell ∨ sc.names.lookup x = some .free
noncomputable def Loc (sc : Scope) (x : Str) : Prop := sc.names.lookup x = some .local ∨ sc.names.lookup x = some .cell
noncomputable def Look (env : Env) (h : Heap) (m : Str → Option Value) (x : Str) (u : Value) : Prop :=
  (env.kindOf x = some .local ∧ m x = some u) ∨ ((env.kindOf x = some .cell ∨ env.kindOf x = some .free) ∧ ∃ c, env.cells.lookup x = some c ∧ h.IsCell c (some u))
structure Cx.Ok (X : Cx) : Prop where
  mod : Mod X.K X.mg X.base
  kind : X.env.scope.kind = .function
  glob : X.env.globals = mainGlobals
  blt : X.env.builtins = builtinsNs
  above : X.s₀.heap.objs.size ≤ X.env.locals
  inj : ∀ x y c, X.env.cells.lookup x = some c → X.env.cells.lookup y = some c → x = y
  has : ∀ x, (X.env.kindOf x = some .cell ∨ X.env.kindOf x = some .free) → ∃ c, X.env.cells.lookup x = some c
  cab : ∀ x c, X.fn x = true → X.env.cells.lookup x = some c → X.s₀.heap.objs.size ≤ c
  hd : X.calm = true → X.A.handled = none
  frames : X.A.frames = some X.stack
  stk : X.stack = X.outer ∨ (X.stack = X.env :: X.outer ∧ X.env.frame = some X.env.locals)
  exf : ∀ b ∈ X.ex, b ≠ X.env.locals ∧ ∀ x c, X.env.cells.lookup x = some c → c ≠ b
  bs : ∀ b o, X.base.get? b = some o → X.s₀.heap.get? b = some o ∧ X.H₀ b = none
  bsz : X.base.objs.size ≤ X.s₀.heap.objs.size
  noex : ∀ b o, X.base.get? b = some o → b ∉ X.ex
  exfs : ∀ b ∈ X.ex, b ∉ X.fs
  funs : X.s₀.heap.FunFrames X.base X.outer
  frf : ∀ b ∈ X.fs, X.H₀ b = none
structure Inv (X : Cx) (pins : List (Addr × Obj)) (σ : List (Option V)) (H : Hp) (s : Shared) : Prop where
  ok : X.Ok
  os : s.os = X.s₀.os
  bare : AllBare s.gens
  base : Un X.fs X.ex X.H₀ H X.s₀.heap s.heap
  loc : ∃ m, s.heap.Ns X.env.locals m ∧ ∀ (i : Nat) (x : Str) (v : V), X.N[i]? = some x → σ[i]? = some (some v) → Vis X.env.scope x → ∃ u, RelV v u ∧ Look X.env s.heap m x u
  cell : ∀ x c, X.env.cells.lookup x = some c → ∃ v, s.heap.IsCell c v
  free : H X.env.locals = none
  freeC : ∀ x c, X.env.cells.lookup x = some c → H c = none
  pin : ∀ p ∈ X.pn ++ pins, s.heap.get? p.1 = some p.2 ∧ H p.1 = none ∧ p.1 ≠ X.env.locals ∧ p.1 ∉ X.fs ∧ ∀ v, p.2.data ≠ .cell v
  hok : HOk X.prog X.w H s.heap
  len : σ.length = X.N.length
section
variable {X : Cx} {pins : List (Addr × Obj)} {σ : List (Option V)} {H H' : Hp} {s : Shared} {h' : Heap}
theorem Cx.Ok.nofr (ok : X.Ok) {b : Addr} {o : Obj} (e : X.base.get? b = some o) : b ∉ X.fs := fun hb => by
  have := (ok.funs.mem hb).1
  rw [e] at this; cases this
theorem Inv.bs (I : Inv X pins σ H s) : ∀ b o, X.base.get? b = some o → s.heap.get? b = some o ∧ H b = none := fun b o e =>
  ⟨I.base.keep b o (I.ok.bs b o e).1 (I.ok.bs b o e).2 (I.ok.nofr e) (I.ok.noex b o e), I.base.free b o (I.ok.bs b o e).1 (I.ok.bs b o e).2 (I.ok.noex b o e)⟩
theorem Inv.bk (I : Inv X pins σ H s) : ∀ b o, X.base.get? b = some o → s.heap.get? b = some o := fun b o e => (I.bs b o e).1
theorem Inv.mod (I : Inv X pins σ H s) : Mod X.K X.mg X.base := I.ok.mod
theorem Inv.kIn (I : Inv X pins σ H s) : X.K.In s.heap := I.ok.mod.kin.keeps I.bk
theorem Inv.fr (I : Inv X pins σ H s) : ∃ m, Fr X.base X.env.locals s.heap m :=
  let ⟨m, hn, _⟩ := I.loc
  ⟨m, hn, I.bk, Nat.le_trans I.ok.bsz I.ok.above⟩
theorem Inv.lt (I : Inv X pins σ H s) : X.env.locals < s.heap.objs.size := let ⟨_, hn, _⟩ := I.loc; hn.lt
theorem Inv.sz (I : Inv X pins σ H s) : X.s₀.heap.objs.size ≤ s.heap.objs.size := Nat.le_trans I.ok.above (Nat.le_of_lt I.lt)
theorem Inv.nofs (I : Inv X pins σ H s) {a : Addr} (h : s.heap.objs.size ≤ a) : a ∉ X.fs := fun hb => by
  obtain ⟨_, o, ho, _⟩ := I.ok.funs.mem hb
  exact absurd (Nat.lt_of_lt_of_le (Heap.lt_size ho) (Nat.le_trans I.sz h)) (Nat.lt_irrefl _)
theorem Inv.cne (I : Inv X pins σ H s) : ∀ x c, X.env.cells.lookup x = some c → c ≠ X.env.locals := fun x c e z => by
  obtain ⟨v, o, ho, hd⟩ := I.cell x c e
  obtain ⟨m, ⟨o', es, ep, ho', hd', _⟩, _⟩ := I.loc
  rw [z, ho'] at ho; cases ho; rw [hd'] at hd; cases hd
theorem Inv.funs (I : Inv X pins σ H s) : s.heap.FunFrames X.base X.outer := by
  have all : ∀ (l : List Env), (∀ b ∈ frs l, b ∈ X.fs) → X.s₀.heap.FunFrames X.base l → s.heap.FunFrames X.base l := by
    intro l
    induction l with
    | nil => intro _ _; trivial
    | cons env r ih =>
      intro hs hl
      obtain ⟨hk, ⟨L, o, hf, hn, ho, hd⟩, hr⟩ := hl
      have hL : L ∈ X.fs := hs L (by unfold frs; rw [List.filterMap_cons, hf]; exact List.mem_cons_self)
      obtain ⟨sl, e⟩ := I.base.slot L o ho (I.ok.frf L hL) hL fun z => I.ok.exfs L z hL
      exact ⟨hk, ⟨L, _, hf, hn, e, hd⟩, ih (fun b hb => hs b (by unfold frs; rw [List.filterMap_cons, hf]; exact List.mem_cons_of_mem _ hb)) hr⟩
  exact all X.outer (fun _ hb => hb) I.ok.funs
theorem Inv.stack (I : Inv X pins σ H s) : s.heap.FunFrames X.base X.stack := by
  rcases I.ok.stk with e | ⟨e, hf⟩
  · rw [e]; exact I.funs
  · rw [e]
    obtain ⟨m, hn, _⟩ := I.loc
    refine .cons (by rw [I.ok.kind]; decide) hf hn ?_ I.funs
    exact Heap.get?_none_of_le (Nat.le_trans I.ok.bsz I.ok.above)
theorem Inv.stkSub (I : Inv X pins σ H s) : ∀ b ∈ frs X.stack, b ∈ X.env.locals :: X.fs := fun b hb => by
  rcases I.ok.stk with e | ⟨e, hf⟩
  · rw [e] at hb; exact List.mem_cons_of_mem _ hb
  · rw [e] at hb
    unfold frs at hb
    rw [List.filterMap_cons, hf] at hb
    exact hb
theorem Inv.stkFree (I : Inv X pins σ H s) : ∀ b ∈ frs X.stack, H b = none := fun b hb => by
  rcases List.mem_cons.mp (I.stkSub b hb) with e | hb
  · rw [e]; exact I.free
  · obtain ⟨_, o, ho, _⟩ := I.ok.funs.mem hb
    exact I.base.free b o ho (I.ok.frf b hb) fun z => I.ok.exfs b z hb
theorem Inv.step {g' : Array GenState} {t' : Nat} {d' : Drawn} {ch : List Addr} (I : Inv X pins σ H s)
    (hch : ∀ b ∈ ch, (b ∈ X.ex ∨ X.s₀.heap.objs.size ≤ b) ∧ b ≠ X.env.locals ∧ (∀ x c, X.env.cells.lookup x = some c → c ≠ b) ∧ ∀ p ∈ X.pn ++ pins, p.1 ≠ b)
    (keep : ∀ b o, b ≠ X.env.locals → b ∉ X.fs → b ∉ ch → s.heap.get? b = some o → H b = none → h'.get? b = some o)
    (slot : ∀ b o, b ≠ X.env.locals → b ∈ X.fs → b ∉ ch → s.heap.get? b = some o → H b = none → ∃ sl, h'.get? b = some { o with slots := sl }) (free : ∀ b o, b ∉ ch → s.heap.get? b = some o → H b = none → H' b = none)
    (there : ∀ b o, b ∉ ch → s.heap.get? b = some o → ∃ o', h'.get? b = some o')
    (tups : ∀ b xs, H b = some (.tup xs) → H' b = some (.tup xs)) (frzs : ∀ b o u, H b = some (.frz o u) → H' b = some (.frz o u)) (tbls : ∀ b ps, H b = some (.tbl ps) → ∃ more, H' b = some (.tbl (ps ++ more)))
    (ns : ∀ m, s.heap.Ns X.env.locals m → h'.Ns X.env.locals m) (hok : HOk X.prog X.w H' h') (hg : AllBare g') :
    Inv X pins σ H' { s with heap := h', gens := g', drawn := d', toks := t' } := by
  have neL : ∀ b o, X.s₀.heap.get? b = some o → b ≠ X.env.locals := fun b o e => Nat.ne_of_lt (Nat.lt_of_lt_of_le (Heap.lt_size e) I.ok.above)
  have neC : ∀ b o, X.s₀.heap.get? b = some o → b ∉ X.ex → b ∉ ch := fun b o e hx hb => by
    rcases (hch b hb).1 with z | z
    · exact hx z
    · exact absurd (Nat.lt_of_lt_of_le (Heap.lt_size e) z) (Nat.lt_irrefl _)
  have cellK : ∀ x c, X.env.cells.lookup x = some c → ∀ v, s.heap.IsCell c v → h'.IsCell c v := fun x c e v hh0 => by
    obtain ⟨o, ho, hd⟩ := hh0
    have nch : c ∉ ch := fun z => (hch c z).2.2.1 x c e rfl
    by_cases hc : c ∈ X.fs
    · obtain ⟨sl, q⟩ := slot c o (I.cne x c e) hc nch ho (I.freeC x c e)
      exact ⟨_, q, hd⟩
    · exact ⟨o, keep c o (I.cne x c e) hc nch ho (I.freeC x c e), hd⟩
  refine ⟨I.ok, I.os, hg, ⟨fun b o e n hb hx => ?_, fun b o e n hb hx => ?_, fun b o e n hx => ?_, fun b o e hx => ?_, fun b xs e => tups b xs (I.base.tups b xs e), fun b o xs e => frzs b o xs (I.base.frzs b o xs e), fun b ps e => ?_⟩, ?_, fun x c e => ?_, ?_, fun x c e => ?_, fun p hp => ?_, hok, I.len⟩
  · exact keep b o (neL b o e) hb (neC b o e hx) (I.base.keep b o e n hb hx) (I.base.free b o e n hx)
  · obtain ⟨sl, e1⟩ := I.base.slot b o e n hb hx
    obtain ⟨sl', e2⟩ := slot b _ (neL b o e) hb (neC b o e hx) e1 (I.base.free b o e n hx)
    exact ⟨sl', e2⟩
  · obtain ⟨o', e1⟩ := I.base.there b o e hx
    exact free b o' (neC b o e hx) e1 (I.base.free b o e n hx)
  · obtain ⟨o', e1⟩ := I.base.there b o e hx
    exact there b o' (neC b o e hx) e1
  · obtain ⟨m1, e1⟩ := I.base.tbls b ps e
    obtain ⟨m2, e2⟩ := tbls b _ e1
    exact ⟨m1 ++ m2, by rw [e2, Array.append_assoc]⟩
  · obtain ⟨m, hn, hl⟩ := I.loc
    refine ⟨m, ns m hn, fun i x v e1 e2 e3 => ?_⟩
    obtain ⟨u, r, l⟩ := hl i x v e1 e2 e3
    refine ⟨u, r, ?_⟩
    rcases l with l | ⟨k, c, e, z⟩
    · exact .inl l
    · exact .inr ⟨k, c, e, cellK x c e _ z⟩
  · obtain ⟨v, z⟩ := I.cell x c e
    exact ⟨v, cellK x c e v z⟩
  · obtain ⟨m, ⟨o, _, _, ho, _⟩, _⟩ := I.loc
    exact free _ o (fun z => (hch _ z).2.1 rfl) ho I.free
  · obtain ⟨v, o, ho, hd⟩ := I.cell x c e
    exact free c o (fun z => (hch c z).2.2.1 x c e rfl) ho (I.freeC x c e)
  · obtain ⟨e, n, ne, nf, d⟩ := I.pin p hp
    have nch : p.1 ∉ ch := fun z => (hch p.1 z).2.2.2 p hp rfl
    exact ⟨keep p.1 p.2 ne nf nch e n, free p.1 p.2 nch e n, ne, nf, d⟩
theorem Inv.un {t' : Nat} (I : Inv X pins σ H s) (u : Un X.fs [] H H' s.heap h') (hok : HOk X.prog X.w H' h') : Inv X pins σ H' { s with heap := h', toks := t' } := by
  obtain ⟨m, ⟨o, es, ep, ho, r⟩, _⟩ := id I.loc
  obtain ⟨sl, hL⟩ := u.any ho I.free (by simp)
  exact I.step (g' := s.gens) (d' := s.drawn) (ch := []) (fun _ z => nomatch z) (fun b o _ hb _ e n => u.keep b o e n hb (by simp)) (fun b o _ hb _ e n => u.slot b o e n hb (by simp)) (fun b o _ e n => u.free b o e n (by simp)) (fun b o _ e => u.there b o e (by simp)) u.tups u.frzs u.tbls (fun m' hm => by
    obtain ⟨o', es', ep', ho', r'⟩ := hm
    rw [ho] at ho'; cases ho'
    exact ⟨_, es', ep', hL, r'⟩) hok I.bare
theorem Inv.call {g' : Array GenState} {t' : Nat} {d' : Drawn} {ch : List Addr} (I : Inv X pins σ H s) (u : Un (frs X.stack) ch H H' s.heap h') (hok : HOk X.prog X.w H' h') (hg : AllBare g')
    (hch : ∀ b ∈ ch, (b ∈ X.ex ∨ X.s₀.heap.objs.size ≤ b) ∧ b ≠ X.env.locals ∧ (∀ x c, X.env.cells.lookup x = some c → c ≠ b) ∧ ∀ p ∈ X.pn ++ pins, p.1 ≠ b) :
    Inv X pins σ H' { s with heap := h', gens := g', drawn := d', toks := t' } := by
  obtain ⟨m, ⟨o, es, ep, ho, r⟩, _⟩ := id I.loc
  obtain ⟨sl, hL⟩ := u.any ho I.free fun z => (hch _ z).2.1 rfl
  exact I.step (ch := ch) hch (fun b o hL hb hc e n => u.keep b o e n (fun z => (List.mem_cons.mp (I.stkSub b z)).elim hL hb) hc) (fun b o _ _ hc e n => u.any e n hc) (fun b o hc e n => u.free b o e n hc) (fun b o hc e => u.there b o e hc) u.tups u.frzs u.tbls (fun m' hm => by
    obtain ⟨o', es', ep', ho', r'⟩ := hm
    rw [ho] at ho'; cases ho'
    exact ⟨_, es', ep', hL, r'⟩) hok hg
theorem Inv.turned {t' : Nat} {it : Addr} (I : Inv X pins σ H s) (k : ∀ b o, b ≠ it → s.heap.get? b = some o → h'.get? b = some o) (hn : H it = none) (hL : it ≠ X.env.locals)
    (h1 : it ∈ X.ex ∨ X.s₀.heap.objs.size ≤ it) (h2 : ∀ x c, X.env.cells.lookup x = some c → c ≠ it) (h3 : ∀ p ∈ X.pn ++ pins, p.1 ≠ it) : Inv X pins σ H { s with heap := h', toks := t' } := by
  have nit : ∀ b u, H b = some u → b ≠ it := fun b u e z => by rw [z, hn] at e; cases e
  refine I.step (g' := s.gens) (d' := s.drawn) (ch := [it]) (fun b hb => ?_) (fun b o _ _ hc e _ => k b o (fun z => hc (by simp [z])) e) (fun b o _ _ hc e _ => ⟨o.slots, k b o (fun z => hc (by simp [z])) e⟩) (fun _ _ _ _ n => n)
    (fun b o hc e => ⟨o, k b o (fun z => hc (by simp [z])) e⟩) (fun _ _ e => e) (fun _ _ _ e => e) (fun b ps e => ⟨#[], by rw [e]; simp⟩) (fun m hm => ?_) (fun b u e => ?_) I.bare
  · have e : b = it := by simpa using hb
    subst e
    exact ⟨h1, hL, h2, h3⟩
  · obtain ⟨o, es, ep, ho, r⟩ := hm
    exact ⟨o, es, ep, k _ o (Ne.symm hL) ho, r⟩
  · refine (I.hok b u e).stay (fun c v hc q => k c v ?_ q) (fun _ q => q) fun _ _ q => q
    rcases hc with z | z
    · rw [z]; exact nit b u e
    · exact nit c _ z
theorem Inv.tok (I : Inv X pins σ H s) (t : Nat) : Inv X pins σ H { s with toks := t } := I.un (h' := s.heap) (t' := t) Un.refl I.hok
theorem Inv.kept {t' : Nat} (I : Inv X pins σ H s) (k : ∀ b u, s.heap.get? b = some u → h'.get? b = some u) : Inv X pins σ H { s with heap := h', toks := t' } := I.un (Un.kept k) (I.hok.kept k)
theorem Inv.laid {a : Addr} {o : HO} {t' : Nat} (I : Inv X pins σ H s) (k : ∀ b u, s.heap.get? b = some u → h'.get? b = some u) (hp : s.heap.objs.size ≤ a) (new : ObjOk X.prog X.w (upd H a o) h' a o) :
    Inv X pins σ (upd H a o) { s with heap := h', toks := t' } := I.un (Un.laid k hp (I.hok.fresh hp)) (I.hok.laid k hp new)
theorem Inv.write {x e : Addr} {o : HO} {t' : Nat} (I : Inv X pins σ H s) (mu : Mut (H x)) (he : e = x ∨ H e = some (.own x)) (k : ∀ b u, b ≠ e → s.heap.get? b = some u → h'.get? b = some u) (heo : ∃ u, h'.get? e = some u)
    (new : ObjOk X.prog X.w (upd H x o) h' x o) : Inv X pins σ (upd H x o) { s with heap := h', toks := t' } := I.un (Un.write mu he k heo) (I.hok.write mu he k heo new)
theorem Inv.weak {σ' : List (Option V)} (I : Inv X pins σ H s) (hl : σ'.length = σ.length) (w : ∀ (i : Nat) v, σ'[i]? = some (some v) → σ[i]? = some (some v)) : Inv X pins σ' H s :=
  ⟨I.ok, I.os, I.bare, I.base, let ⟨m, hn, hl'⟩ := I.loc; ⟨m, hn, fun i x v e1 e2 e3 => hl' i x v e1 (w i v e2) e3⟩, I.cell, I.free, I.freeC, I.pin, I.hok, hl.trans I.len⟩
theorem Inv.pins_of {pins' : List (Addr × Obj)} (I : Inv X pins σ H s) (h : ∀ p ∈ pins', s.heap.get? p.1 = some p.2 ∧ H p.1 = none ∧ p.1 ≠ X.env.locals ∧ p.1 ∉ X.fs ∧ ∀ v, p.2.data ≠ .cell v) : Inv X pins' σ H s :=
  ⟨I.ok, I.os, I.bare, I.base, I.loc, I.cell, I.free, I.freeC, fun p hp => (List.mem_append.mp hp).elim (fun z => I.pin p (List.mem_append_left _ z)) (h p), I.hok, I.len⟩
theorem nodup_ix {N : List Str} (hN : N.Nodup) {i j : Nat} {x : Str} (a : N[i]? = some x) (b : N[j]? = some x) : i = j := by
  obtain ⟨h1, e1⟩ := List.getElem?_eq_some_iff.mp a
  obtain ⟨h2, e2⟩ := List.getElem?_eq_some_iff.mp b
  exact (List.getElem_inj hN).mp (e1.trans e2.symm)
theorem store_ok2 {M : Model} {A : Around} {E : Value → Shared → Prop} {i : Nat} {x : Str} {v : V} {u : Value} {Q : Unit → Shared → Prop} (I : Inv X pins σ H s) (hN : X.N.Nodup) (hi : X.N[i]? = some x) (hx : Loc X.env.scope x) (r : RelV v u)
    (h : ∀ s', Inv X pins (σ.set i (some v)) H s' → (∃ a, Heap.SameBut a s.heap s'.heap ∧ (a = X.env.locals ∨ X.env.cells.lookup x = some a)) → Q () s') (hf : X.fn x = true ∨ X.env.scope.names.lookup x = some .local := by first | exact .inl rfl | exact .inr rfl | assumption) : wpAny M A (storeName X.env x u) Q E s := by
  obtain ⟨m, hn, hl⟩ := id I.loc
  have hcls : (X.env.scope.kind == .class || (X.env.scope.kind == .module && X.env.locals != X.env.globals)) = false := by rw [I.ok.kind]; rfl
  have hiσ : i < σ.length := by rw [I.len]; exact (List.getElem?_eq_some_iff.mp hi).1
  have cne := I.cne
  have tracked : ∀ {a : Addr} {h' : Heap}, (∃ o, s.heap.get? a = some o ∧ H a = none) → Heap.SameBut a s.heap h' → HOk X.prog X.w H h' := fun {a h'} ha hs b ob e => by
    obtain ⟨_, _, hfree⟩ := ha
    refine (I.hok b ob e).stay (fun c w' hc q => (hs.2 c ?_).trans q) (fun _ q => q) fun _ _ q => q
    rintro rfl
    rcases hc with rfl | hc
    · rw [hfree] at e; cases e
    · rw [hfree] at hc; cases hc
  rcases hx with hk | hk
  · refine wpAny_storeName_local hk hn (fun h' hn' hs => ?_) hcls
    obtain ⟨oL, _, _, hoL, _⟩ := id hn
    refine h _ ⟨I.ok, I.os, I.bare, ⟨fun b o e n hb hx => ?_, fun b o e n hb hx => ?_, I.base.free, fun b o e hx => ?_, I.base.tups, I.base.frzs, I.base.tbls⟩, ⟨_, hn', fun j y v' e1 e2 e3 => ?_⟩, fun y c e => ?_, I.free, I.freeC, fun p hp => ?_, tracked ⟨oL, hoL, I.free⟩ hs, by simpa using I.len⟩ ⟨_, hs, .inl rfl⟩
    · exact (hs.2 b (Nat.ne_of_lt (Nat.lt_of_lt_of_le (Heap.lt_size e) I.ok.above))).trans (I.base.keep b o e n hb hx)
    · obtain ⟨sl, e1⟩ := I.base.slot b o e n hb hx
      exact ⟨sl, (hs.2 b (Nat.ne_of_lt (Nat.lt_of_lt_of_le (Heap.lt_size e) I.ok.above))).trans e1⟩
    · obtain ⟨o', e1⟩ := I.base.there b o e hx
      exact ⟨o', (hs.2 b (Nat.ne_of_lt (Nat.lt_of_lt_of_le (Heap.lt_size e) I.ok.above))).trans e1⟩
    · by_cases hj : j = i
      · subst hj
        rw [hi] at e1; cases e1
        rw [List.getElem?_set_self hiσ] at e2
        cases e2
        exact ⟨u, r, .inl ⟨hk, by simp⟩⟩
      · rw [List.getElem?_set_ne (Ne.symm hj)] at e2
        obtain ⟨u', r', q⟩ := hl j y v' e1 e2 e3
        refine ⟨u', r', ?_⟩
        rcases q with ⟨k, e⟩ | ⟨k, c, e, z⟩
        · refine .inl ⟨k, ?_⟩
          have : y ≠ x := fun e => hj (nodup_ix hN e1 (e ▸ hi))
          simp [this, e]
        · exact .inr ⟨k, c, e, z.sameBut hs (cne y c e)⟩
    · obtain ⟨w', z⟩ := I.cell y c e
      exact ⟨w', z.sameBut hs (cne y c e)⟩
    · obtain ⟨e, n, ne, nf, d⟩ := I.pin p hp
      exact ⟨(hs.2 p.1 ne).trans e, n, ne, nf, d⟩
  · have hfn : X.fn x = true := by
      rcases hf with z | z
      · exact z
      · rw [z] at hk; cases hk
    obtain ⟨c, hc⟩ := I.ok.has x (.inl hk)
    obtain ⟨w', z⟩ := I.cell x c hc
    refine wpAny_storeName_cell I.ok.kind hk hc z (fun h' hc' hs => ?_)
    obtain ⟨oc, hoc, hocd⟩ := id z
    refine h { s with heap := h' } ⟨I.ok, I.os, I.bare, ⟨fun b o e n hb hx => ?_, fun b o e n hb hx => ?_, I.base.free, fun b o e hx => ?_, I.base.tups, I.base.frzs, I.base.tbls⟩, ⟨m, hn.sameBut hs (Ne.symm (cne x c hc)), fun j y v' e1 e2 e3 => ?_⟩, fun y c' e => ?_, I.free, I.freeC, fun p hp => ?_, tracked ⟨oc, hoc, I.freeC x c hc⟩ hs, by simpa using I.len⟩ ⟨c, hs, .inr hc⟩
    · exact (hs.2 b (Nat.ne_of_lt (Nat.lt_of_lt_of_le (Heap.lt_size e) (I.ok.cab x c hfn hc)))).trans (I.base.keep b o e n hb hx)
    · obtain ⟨sl, e1⟩ := I.base.slot b o e n hb hx
      exact ⟨sl, (hs.2 b (Nat.ne_of_lt (Nat.lt_of_lt_of_le (Heap.lt_size e) (I.ok.cab x c hfn hc)))).trans e1⟩
    · obtain ⟨o', e1⟩ := I.base.there b o e hx
      exact ⟨o', (hs.2 b (Nat.ne_of_lt (Nat.lt_of_lt_of_le (Heap.lt_size e) (I.ok.cab x c hfn hc)))).trans e1⟩
    · by_cases hj : j = i
      · subst hj
        rw [hi] at e1; cases e1
        rw [List.getElem?_set_self hiσ] at e2
        cases e2
        exact ⟨u, r, .inr ⟨.inl hk, c, hc, hc'⟩⟩
      · rw [List.getElem?_set_ne (Ne.symm hj)] at e2
        obtain ⟨u', r', q⟩ := hl j y v' e1 e2 e3
        refine ⟨u', r', ?_⟩
        rcases q with q | ⟨k, c', e, z'⟩
        · exact .inl q
        · refine .inr ⟨k, c', e, z'.sameBut hs ?_⟩
          rintro rfl
          exact hj (nodup_ix hN e1 (I.ok.inj _ _ _ e hc ▸ hi))
    · by_cases hcc : c' = c
      · subst hcc; exact ⟨_, hc'⟩
      · obtain ⟨w2, z2⟩ := I.cell y c' e
        exact ⟨w2, z2.sameBut hs hcc⟩
    · obtain ⟨e, n, ne, nf, d⟩ := I.pin p hp
      refine ⟨(hs.2 p.1 ?_).trans e, n, ne, nf, d⟩
      intro q
      rw [q, hoc] at e
      have q' : oc = p.2 := Option.some.inj e
      exact d w' (by rw [← q']; exact hocd)
theorem store_ok {M : Model} {A : Around} {E : Value → Shared → Prop} {i : Nat} {x : Str} {v : V} {u : Value} {Q : Unit → Shared → Prop} (I : Inv X pins σ H s) (hN : X.N.Nodup) (hi : X.N[i]? = some x) (hx : Loc X.env.scope x) (r : RelV v u)
    (h : ∀ s', Inv X pins (σ.set i (some v)) H s' → Q () s') (hf : X.fn x = true ∨ X.env.scope.names.lookup x = some .local := by first | exact .inl rfl | exact .inr rfl | assumption) : wpAny M A (storeName X.env x u) Q E s :=
  store_ok2 I hN hi hx r (fun s' I' _ => h s' I') hf
theorem Inv.call' {s' : Shared} {ch : List Addr} (I : Inv X pins σ H s) (ho : s'.os = s.os) (u : Un (frs X.stack) ch H H' s.heap s'.heap) (hok : HOk X.prog X.w H' s'.heap) (hg : AllBare s'.gens)
    (hch : ∀ b ∈ ch, (b ∈ X.ex ∨ X.s₀.heap.objs.size ≤ b) ∧ b ≠ X.env.locals ∧ (∀ x c, X.env.cells.lookup x = some c → c ≠ b) ∧ ∀ p ∈ X.pn ++ pins, p.1 ≠ b) : Inv X pins σ H' s' := by
  obtain ⟨h', g', d', t', o'⟩ := s'
  have e : o' = s.os := ho
  subst e
  exact I.call (g' := g') (t' := t') (d' := d') u hok hg hch
end
noncomputable abbrev XK := Value → Option Addr → Hp → Prop
noncomputable abbrev St := List (Option V)
noncomputable abbrev VK := V → Hp → Prop
noncomputable abbrev TE := St → Hp → VK → Prop
noncomputable abbrev TT := St → Hp → (Bool → Hp → Prop) → Prop
noncomputable abbrev TA := St → Hp → (List V → Hp → Prop) → Prop
structure Ends where
  nx : St → Hp → Prop
  rt : VK
  bk : St → Hp → Prop := fun _ _ => False
  ct : St → Hp → Prop := fun _ _ => False
noncomputable abbrev TS := Ends → St → Hp → Prop
noncomputable def EP (X : Cx) (pins : List (Addr × Obj)) (σ : St) (Q : VK) (u : Value) (s' : Shared) : Prop := ∃ v H', Inv X pins σ H' s' ∧ RelV v u ∧ Q v H'
noncomputable def TP (X : Cx) (pins : List (Addr × Obj)) (σ : St) (Q : Bool → Hp → Prop) (b : Bool) (s' : Shared) : Prop := ∃ H', Inv X pins σ H' s' ∧ Q b H'
noncomputable def AP (X : Cx) (pins : List (Addr × Obj)) (σ : St) (Q : List V → Hp → Prop) (us : List Value) (s' : Shared) : Prop := ∃ vs H', Inv X pins σ H' s' ∧ Vals vs us ∧ Q vs H'
noncomputable def SP (X : Cx) (pins : List (Addr × Obj)) (D : Ends) (f : Flow) (s' : Shared) : Prop :=
  match f with
  | .next => ∃ σ' H', Inv X pins σ' H' s' ∧ D.nx σ' H'
  | .brk => ∃ σ' H', Inv X pins σ' H' s' ∧ D.bk σ' H'
  | .cont => ∃ σ' H', Inv X pins σ' H' s' ∧ D.ct σ' H'
  | .ret u => ∃ v σ' H', Inv X pins σ' H' s' ∧ RelV v u ∧ D.rt v H'
noncomputable def PE (X : Cx) (e : Expr) (t : TE) : Prop :=
  ∀ (pins : List (Addr × Obj)) (s : Shared) (σ : St) (H : Hp) (Q : VK), Inv X pins σ H s → t σ H Q → wpAny (model X.prog X.w) X.A (eval e X.env) (EP X pins σ Q) X.xe s
noncomputable def PT (X : Cx) (e : Expr) (t : TT) : Prop :=
  ∀ (pins : List (Addr × Obj)) (s : Shared) (σ : St) (H : Hp) (Q : Bool → Hp → Prop), Inv X pins σ H s → t σ H Q → wpAny (model X.prog X.w) X.A (isTrue e X.env (eval e X.env)) (TP X pins σ Q) X.xe s
noncomputable def PW (X : Cx) (e : Expr) (t : TT) : Prop :=
  ∀ (whole : Sem Value) (pins : List (Addr × Obj)) (s : Shared) (σ : St) (H : Hp) (Q : Bool → Hp → Prop), Inv X pins σ H s → t σ H Q → wpAny (model X.prog X.w) X.A (isTrue e X.env whole) (TP X pins σ Q) X.xe s
theorem PW.pt {X : Cx} {e : Expr} {t : TT} (h : PW X e t) : PT X e t := h _
noncomputable def PA (X : Cx) (es : List Expr) (t : TA) : Prop :=
  ∀ (pos : Pos) (pins : List (Addr × Obj)) (s : Shared) (σ : St) (H : Hp) (Q : List V → Hp → Prop), Inv X pins σ H s → t σ H Q → wpAny (model X.prog X.w) X.A (spliced (backTo pos (starEach es X.env))) (AP X pins σ Q) X.xe s
noncomputable def PS (X : Cx) (st : Stmt) (t : TS) : Prop :=
  ∀ (pins : List (Addr × Obj)) (s : Shared) (σ : St) (H : Hp) (D : Ends), Inv X pins σ H s → t D σ H → wpAny (model X.prog X.w) X.A (exec st X.env) (SP X pins D) X.xe s
noncomputable def PSs (X : Cx) (st : List Stmt) (t : TS) : Prop :=
  ∀ (pins : List (Addr × Obj)) (s : Shared) (σ : St) (H : Hp) (D : Ends), Inv X pins σ H s → t D σ H → wpAny (model X.prog X.w) X.A (execs st X.env) (SP X pins D) X.xe s
theorem thn {α : Type} {t : Sem α} {Q Q' : α → Shared → Prop} {M : Model} {A : Around} {E : Value → Shared → Prop} {s : Shared} (h : wpAny M A t Q E s) (hQ : ∀ a s, Q a s → Q' a s) : wpAny M A t Q' E s := wpAny_mono h hQ fun _ _ x => x
end L2
namespace L2
open PySem PySem.Spec PyProof.Rows
section
variable {X : Cx}
noncomputable def tVar (i : Nat) : TE := fun σ H Q => ∃ v, σ[i]? = some (some v) ∧ Q v H
noncomputable def tC (v : V) : TE := fun _ H Q => Q v H
theorem pe_var {i : Nat} {x : Str} {pos : Pos} (hN : X.N[i]? = some x) (hv : Vis X.env.scope x) (hd : (x == ("__debug__" : Str)) = false := by decide) (hcd : (x == ("__classdict__" : Str)) = false := by decide) : PE X (.Name x pos) (tVar i) := by
  intro pins s σ H Q I h
  obtain ⟨v, e, h⟩ := h
  obtain ⟨m, hn, hl⟩ := I.loc
  obtain ⟨u, r, l⟩ := hl i x v hN e hv
  have fin : EP X pins σ Q u s := ⟨v, H, I, r, h⟩
  rcases l with ⟨hk, hm⟩ | ⟨hk, c, hc, hcell⟩
  · exact wpAny_Name (wpAny_loadName_local I.ok.kind hk hn hm fin) hd
  · rcases hk with hk | hk
    · exact wpAny_Name (wpAny_loadName_cell I.ok.kind hk hc hcell fin) hd
    · exact wpAny_Name (wpAny_loadName_free I.ok.kind hk hc hcell fin hcd) hd
theorem pe_int {i j pos} : PE X (.Constant (.int i) j pos) (tC (.int i)) := fun _ _ _ H _ I h => wpAny_Constant_int ⟨.int i, H, I.tok _, ⟨_, rfl⟩, h⟩
theorem pe_bl {b j pos} : PE X (.Constant (.bool b) j pos) (tC (.bl b)) := fun _ _ _ H _ I h => Constant_bool ⟨.bl b, H, I, rfl, h⟩
noncomputable def Gl (X : Cx) (x : Str) : Prop := X.env.kindOf x = some .globalImplicit
theorem ld_glob {E : Value → Shared → Prop} {pins : List (Addr × Obj)} {s : Shared} {σ : St} {H : Hp} {x : Str} {u : Value} {pos : Pos} {Q : Value → Shared → Prop} (I : Inv X pins σ H s) (hg : Gl X x) (hm : X.mg x = some u) (h : Q u s)
    (hd : (x == ("__debug__" : Str)) = false := by decide) : wpAny (model X.prog X.w) X.A (eval (.Name x pos) X.env) Q E s :=
  Calls.Name_function_global I.ok.kind hg (Calls.loadGlobal_global (by rw [I.ok.glob]; exact I.mod.glob.keeps I.bk) hm h) hd
theorem ld_blt {E : Value → Shared → Prop} {pins : List (Addr × Obj)} {s : Shared} {σ : St} {H : Hp} {x : Str} {u : Value} {pos : Pos} {Q : Value → Shared → Prop} (I : Inv X pins σ H s) (hg : Gl X x) (hm : X.mg x = none) (hv : bootBuiltins x = some u) (h : Q u s)
    (hn : x ≠ "__name__" := by decide) (hd : (x == ("__debug__" : Str)) = false := by decide) : wpAny (model X.prog X.w) X.A (eval (.Name x pos) X.env) Q E s := by
  obtain ⟨mb, h1, h2⟩ := I.mod.blt
  exact Calls.Name_function_global I.ok.kind hg (Calls.loadGlobal_builtin (by rw [I.ok.glob]; exact I.mod.glob.keeps I.bk) hm (by rw [I.ok.blt]; exact h1.keeps I.bk) ((h2 x hn).trans hv) h) hd
variable {a b : Expr} {ta tb : TE} {pos : Pos}
variable {tA tB' : TT} {rest : List Expr}
noncomputable def tAnd (t u : TT) : TT := fun σ H Q => t σ H fun c H1 => if c = true then u σ H1 Q else Q false H1
noncomputable def tOr (t u : TT) : TT := fun σ H Q => t σ H fun c H1 => if c = true then Q true H1 else u σ H1 Q
theorem pw_and1 (ha : PT X a tA) : PW X (.BoolOp .And [a] pos) tA := by
  intro wh pins s σ H Q I h
  refine isTrue_and (thn (ha pins s σ H Q I h) fun c s1 e => ?_)
  cases c with
  | true => exact isTrue_and_nil e
  | false => exact e
theorem pw_or1 (ha : PT X a tA) : PW X (.BoolOp .Or [a] pos) tA := by
  intro wh pins s σ H Q I h
  refine isTrue_or (thn (ha pins s σ H Q I h) fun c s1 e => ?_)
  cases c with
  | false => exact isTrue_or_nil e
  | true => exact e
theorem pw_and (ha : PT X a tA) (hb : PW X (.BoolOp .And (b :: rest) pos) tB') : PW X (.BoolOp .And (a :: b :: rest) pos) (tAnd tA tB') := by
  intro wh pins s σ H Q I h
  refine isTrue_and (thn (ha pins s σ H _ I h) fun c s1 hh0 => ?_)
  obtain ⟨H1, I1, q1⟩ := hh0
  cases c with
  | true => exact hb wh pins s1 σ H1 Q I1 q1
  | false => exact ⟨H1, I1, q1⟩
theorem pw_or (ha : PT X a tA) (hb : PW X (.BoolOp .Or (b :: rest) pos) tB') : PW X (.BoolOp .Or (a :: b :: rest) pos) (tOr tA tB') := by
  intro wh pins s σ H Q I h
  refine isTrue_or (thn (ha pins s σ H _ I h) fun c s1 hh0 => ?_)
  obtain ⟨H1, I1, q1⟩ := hh0
  cases c with
  | true => exact ⟨H1, I1, q1⟩
  | false => exact hb wh pins s1 σ H1 Q I1 q1
noncomputable def tIf (t : TT) (ta tb : TE) : TE := fun σ H Q => t σ H fun c H1 => if c = true then ta σ H1 Q else tb σ H1 Q
theorem pe_ifExp {c : Expr} (hc : PT X c tA) (ha : PE X a ta) (hb : PE X b tb) : PE X (.IfExp c a b pos) (tIf tA ta tb) := by
  intro pins s σ H Q I h
  refine wpAny_IfExp (thn (hc pins s σ H _ I h) fun d s1 hh0 => ?_)
  obtain ⟨H1, I1, q1⟩ := hh0
  cases d with
  | true => exact ha pins s1 σ H1 Q I1 q1
  | false => exact hb pins s1 σ H1 Q I1 q1
end
end L2
namespace L2
open PySem PySem.Spec PyProof.Rows
noncomputable def SqL (K : PySem.W.Frag) (H : Hp) (a : Addr) (xs : List V) : Prop :=
  Rd H a (.lst xs) ∨
    ∃ (o : Obj) (its : Array Value) (n : Nat), K.lookup a = some o ∧ o.cls = .type "list" ∧ o.dict = none ∧ o.data = .seq its n ∧ its.size ≤ sizeLine ∧ Vals xs its.toList
noncomputable def SqT (K : PySem.W.Frag) (H : Hp) (a : Addr) (xs : List V) : Prop :=
  Rd H a (.tup xs) ∨
    ∃ (o : Obj) (its : Array Value) (n : Nat), K.lookup a = some o ∧ o.cls = .type "tuple" ∧ o.data = .seq its n ∧ its.size ≤ sizeLine ∧ Vals xs its.toList
noncomputable def absV : Value → Option V
  | .none => some .non
  | .bool b => some (.bl b)
  | .int i _ => some (.int i)
  | .str x _ => some (.str x)
  | .bytes b _ => some (.byt b)
  | .float b _ => some (.flt b)
  | .ref a => some (.ref a)
  | .type n => some (.ty n)
  | _ => none
theorem RelV.abs {x : V} {u : Value} (r : RelV x u) : absV u = some x := by
  cases x with
  | non => cases r; rfl
  | bl _ => cases r; rfl
  | int _ => obtain ⟨t, rfl⟩ := r; rfl
  | str _ => obtain ⟨t, rfl⟩ := r; rfl
  | byt _ => obtain ⟨t, rfl⟩ := r; rfl
  | flt _ => obtain ⟨t, rfl⟩ := r; rfl
  | ref _ => cases r; rfl
  | ty _ => cases r; rfl
theorem RelV.inj {x y : V} {u : Value} (r : RelV x u) (q : RelV y u) : x = y := Option.some.inj (r.abs.symm.trans q.abs)
theorem Vals.inj : ∀ {xs ys : List V} {us : List Value}, Vals xs us → Vals ys us → xs = ys
  | _, _, _, .nil, .nil => rfl
  | _, _, _, .cons r t, .cons r' t' => by rw [r.inj r', Vals.inj t t']
section
variable {X : Cx} {pins : List (Addr × Obj)} {σ : St} {H : Hp} {s : Shared} {a : Addr} {xs ys : List V}
theorem SqL.of {K : PySem.W.Frag} (h : H a = some (.lst xs)) : SqL K H a xs := .inl (.inl h)
theorem SqT.of {K : PySem.W.Frag} (h : H a = some (.tup xs)) : SqT K H a xs := .inl (.inl h)
theorem Inv.list (I : Inv X pins σ H s) (h : SqL X.K H a xs) : ∃ its : List Value, Vals xs its ∧ PlainL s.heap a its.toArray ∧ xs.length ≤ sizeLine := by
  rcases h with h | ⟨o, its, n, hk, hc, hd, hs, hz, r⟩
  · obtain ⟨z, its, n, r, e⟩ := h.ok I.hok
    exact ⟨its, r, ⟨_, n, e, rfl, rfl, rfl⟩, z⟩
  · refine ⟨its.toList, r, ⟨o, n, I.kIn a o hk, hc, hd, by simpa using hs⟩, ?_⟩
    have e := r.length
    simp only [Array.length_toList] at e
    omega
theorem Inv.tuple (I : Inv X pins σ H s) (h : SqT X.K H a xs) : ∃ its : List Value, Vals xs its ∧ IsTup s.heap a its.toArray ∧ xs.length ≤ sizeLine := by
  rcases h with h | ⟨o, its, n, hk, hc, hs, hz, r⟩
  · obtain ⟨z, its, r, p⟩ := h.ok I.hok
    exact ⟨its, r, p.tup, z⟩
  · refine ⟨its.toList, r, ⟨o, I.kIn a o hk, hc, n, by simpa using hs⟩, ?_⟩
    have e := r.length
    simp only [Array.length_toList] at e
    omega
theorem Inv.list_inj (I : Inv X pins σ H s) (h : SqL X.K H a xs) (h' : SqL X.K H a ys) : xs = ys := by
  obtain ⟨its, r, ⟨o, n, e, _, _, d⟩, _⟩ := I.list h
  obtain ⟨its', r', ⟨o', n', e', _, _, d'⟩, _⟩ := I.list h'
  rw [e] at e'; cases e'
  rw [d] at d'
  injection d' with d1 _
  have : its = its' := by simpa using congrArg Array.toList d1
  subst this
  exact r.inj r'
theorem Inv.tuple_inj (I : Inv X pins σ H s) (h : SqT X.K H a xs) (h' : SqT X.K H a ys) : xs = ys := by
  obtain ⟨its, r, ⟨o, e, _, n, d⟩, _⟩ := I.tuple h
  obtain ⟨its', r', ⟨o', e', _, n', d'⟩, _⟩ := I.tuple h'
  rw [e] at e'; cases e'
  rw [d] at d'
  injection d' with d1 _
  have : its = its' := by simpa using congrArg Array.toList d1
  subst this
  exact r.inj r'
end
noncomputable abbrev Cx.wish (X : Cx) (E : Value → Shared → Prop) : Cx := { X with xe := E }
noncomputable abbrev Cx.nox (X : Cx) : Cx := X.wish fun _ _ => False
theorem Cx.Ok.wish {X : Cx} (ok : X.Ok) (E : Value → Shared → Prop) : (X.wish E).Ok :=
  ⟨ok.mod, ok.kind, ok.glob, ok.blt, ok.above, ok.inj, ok.has, ok.cab, ok.hd, ok.frames, ok.stk, ok.exf, ok.bs, ok.bsz, ok.noex, ok.exfs, ok.funs, ok.frf⟩
theorem Cx.Ok.unwish {X : Cx} {E : Value → Shared → Prop} (ok : (X.wish E).Ok) : X.Ok :=
  ⟨ok.mod, ok.kind, ok.glob, ok.blt, ok.above, ok.inj, ok.has, ok.cab, ok.hd, ok.frames, ok.stk, ok.exf, ok.bs, ok.bsz, ok.noex, ok.exfs, ok.funs, ok.frf⟩
section
variable {X : Cx} {pins : List (Addr × Obj)} {σ : St} {H : Hp} {s : Shared} {E : Value → Shared → Prop}
theorem Inv.wish (I : Inv X pins σ H s) (E : Value → Shared → Prop) : Inv (X.wish E) pins σ H s := ⟨I.ok.wish E, I.os, I.bare, I.base, I.loc, I.cell, I.free, I.freeC, I.pin, I.hok, I.len⟩
theorem Inv.unwish (I : Inv (X.wish E) pins σ H s) : Inv X pins σ H s := ⟨I.ok.unwish, I.os, I.bare, I.base, I.loc, I.cell, I.free, I.freeC, I.pin, I.hok, I.len⟩
theorem SP.unwish {D : Ends} {f : Flow} {s' : Shared} (h : SP (X.wish E) pins D f s') : SP X pins D f s' := by
  cases f with
  | next => obtain ⟨σ', H', I, q⟩ := h; exact ⟨σ', H', I.unwish, q⟩
  | brk => obtain ⟨σ', H', I, q⟩ := h; exact ⟨σ', H', I.unwish, q⟩
  | cont => obtain ⟨σ', H', I, q⟩ := h; exact ⟨σ', H', I.unwish, q⟩
  | ret u => obtain ⟨v, σ', H', I, r, q⟩ := h; exact ⟨v, σ', H', I.unwish, r, q⟩
theorem PSs.nox {st : List Stmt} {t : TS} (h : PSs X.nox st t) : PSs X st t := fun pins s σ H D I hw =>
  wpAny_mono (h pins s σ H D (I.wish _) hw) (fun _ _ q => q.unwish) fun _ _ z => False.elim z
end
section
variable {X : Cx} {st : Stmt} {rest : List Stmt} {t u : TS} {e : Expr} {te : TE} {pos : Pos}
noncomputable def tNext : TS := fun D σ H => D.nx σ H
noncomputable def tSeq (t u : TS) : TS := fun D σ H => t { D with nx := u D } σ H
theorem pss_nil : PSs X [] tNext := fun _ _ σ H _ I h => wpAny_execs_nil ⟨σ, H, I, h⟩
theorem pss_cons (h1 : PS X st t) (h2 : PSs X rest u) : PSs X (st :: rest) (tSeq t u) := by
  intro pins s σ H D I h
  refine wpAny_execs_cons (thn (h1 pins s σ H { D with nx := u D } I h) fun f s1 q => ?_)
  cases f with
  | next =>
    obtain ⟨σ', H', I', q⟩ := q
    exact h2 pins s1 σ' H' D I' q
  | ret v => exact q
  | brk => exact q
  | cont => exact q
theorem pss_one (h1 : PS X st t) : PSs X [st] t := by
  intro pins s σ H D I h
  refine wpAny_execs_cons (thn (h1 pins s σ H D I h) fun f s1 q => ?_)
  cases f with
  | next => exact wpAny_execs_nil q
  | ret v => exact q
  | brk => exact q
  | cont => exact q
theorem Inv.quiet {pins : List (Addr × Obj)} {σ : St} {H : Hp} {s : Shared} (I : Inv X pins σ H s) : interactive X.env = false := by simp [interactive, I.ok.kind]
noncomputable def tDrop (te : TE) : TS := fun D σ H => te σ H fun _ H1 => D.nx σ H1
theorem ps_expr (he : PE X e te) (hs : swapsWith e none pos.line X.env = pure false := by rfl) : PS X (.Expr e pos) (tDrop te) := by
  intro pins s σ H D I h
  exact wpAny_Expr_any (thn (he pins s σ H _ I h) fun v s1 ⟨x, H1, I1, r1, q1⟩ => ⟨σ, H1, I1, q1⟩) I.quiet hs
noncomputable def tRet (te : TE) : TS := fun D σ H => te σ H D.rt
theorem ps_ret (he : PE X e te) : PS X (.Return (some e) pos) (tRet te) := by
  intro pins s σ H D I h
  exact wpAny_Return_some (thn (he pins s σ H _ I h) fun v s1 ⟨x, H1, I1, r1, q1⟩ => ⟨x, σ, H1, I1, r1, q1⟩)
noncomputable def tIfS (c : TT) (t u : TS) : TS := fun D σ H => c σ H fun b H1 => if b = true then t D σ H1 else u D σ H1
theorem ps_if {c : Expr} {a b : List Stmt} {tc : TT} (hc : PT X c tc) (ha : PSs X a t) (hb : PSs X b u) : PS X (.If c a b pos) (tIfS tc t u) := by
  intro pins s σ H D I h
  refine wpAny_If (thn (hc pins s σ H _ I h) fun d s1 hh0 => ?_)
  obtain ⟨H1, I1, q1⟩ := hh0
  cases d with
  | true => exact ha pins s1 σ H1 D I1 q1
  | false => exact hb pins s1 σ H1 D I1 q1
end
noncomputable abbrev TG := V → St → Hp → (St → Hp → Prop) → Prop
noncomputable def PG (X : Cx) (target : Expr) (t : TG) : Prop :=
  ∀ (pins : List (Addr × Obj)) (s : Shared) (σ : St) (H : Hp) (v : V) (u : Value) (Q : St → Hp → Prop), Inv X pins σ H s → RelV v u → t v σ H Q →
    wpAny (model X.prog X.w) X.A (assign target X.env u) (fun _ s' => ∃ σ' H', Inv X pins σ' H' s' ∧ Q σ' H') X.xe s
noncomputable abbrev TSet := V → V → V → Hp → (Hp → Prop) → Prop
noncomputable def PSet (X : Cx) (t : TSet) : Prop :=
  ∀ (pins : List (Addr × Obj)) (s : Shared) (σ : St) (H : Hp) (o i v : V) (ov iv u : Value) (Q : Hp → Prop), Inv X pins σ H s → RelV o ov → RelV i iv → RelV v u → t o i v H Q →
    wpAny (model X.prog X.w) X.A (setItem ov iv u) (fun _ s' => ∃ H', Inv X pins σ H' s' ∧ Q H') X.xe s
section
variable {X : Cx} {pos : Pos}
noncomputable def gName (i : Nat) : TG := fun v σ H Q => Q (σ.set i (some v)) H
theorem pg_name {i : Nat} {x : Str} (hN : X.N.Nodup) (hi : X.N[i]? = some x) (hx : Loc X.env.scope x) (hf : X.fn x = true ∨ X.env.scope.names.lookup x = some .local := by first | exact .inl rfl | exact .inr rfl | assumption) : PG X (.Name x pos) (gName i) := by
  intro pins s σ H v u Q I r h
  exact wpAny_assign_Name (store_ok I hN hi hx r (fun s' I' => ⟨_, H, I', h⟩) hf)
noncomputable def gSub (to ti : TE) (t : TSet) : TG := fun v σ H Q => to σ H fun o H1 => ti σ H1 fun i H2 => t o i v H2 fun H3 => Q σ H3
theorem pg_sub {o i : Expr} {to ti : TE} {t : TSet} (ho : PE X o to) (hi : PE X i ti) (hs : PSet X t)
    (ha : ∀ v, assign (.Subscript o i pos) X.env v = (do
      let ov ← holding [v] (eval o X.env)
      let iv ← holding [v, ov] (eval i X.env)
      standAt pos
      holding [v, ov, iv] (setItem ov iv v)
      release [v, ov, iv] []) := by intro _; rfl) : PG X (.Subscript o i pos) (gSub to ti t) := by
  intro pins s σ H v u Q I r h
  rw [ha]
  refine wpAny_bind (wpAny_holding (thn (ho pins s σ H _ I h) fun ov s1 hh0 => ?_))
  obtain ⟨x, H1, I1, r1, q1⟩ := hh0
  refine wpAny_bind (wpAny_holding (thn (hi pins s1 σ H1 _ I1 q1) fun iv s2 hh0 => ?_))
  obtain ⟨y, H2, I2, r2, q2⟩ := hh0
  refine wpAny_bind (wpAny_standAt (wpAny_bind (wpAny_holding (thn (hs pins s2 σ H2 x y v ov iv u _ I2 r1 r2 r q2) fun _ s3 hh0 => ?_))))
  obtain ⟨H3, I3, q3⟩ := hh0
  exact wpAny_release ⟨σ, H3, I3, q3⟩
noncomputable def tAsg (te : TE) (g : TG) : TS := fun D σ H => te σ H fun x H1 => g x σ H1 D.nx
theorem ps_asg {tg e : Expr} {te : TE} {g : TG} (he : PE X e te) (hg : PG X tg g) (hs : swapsWithSole [tg] e pos.line X.env = pure false := by rfl) (hw : swappedStores [tg] e X.env = pure none := by rfl)
    (h1 : (assignEach [tg] X.env).map (·.2) = [assign tg X.env] := by rfl) : PS X (.Assign [tg] e pos) (tAsg te g) := by
  intro pins s σ H D I h
  refine wpAny_Assign_stores (thn (he pins s σ H _ I h) fun v s1 ⟨x, H1, I1, r1, q1⟩ => ?_) hs hw
  rw [h1]
  exact thn (hg pins s1 σ H1 x v _ I1 r1 q1) fun _ s2 q => q
theorem ps_set {i : Nat} {x : Str} {e : Expr} {te : TE} {pos' : Pos} (hN : X.N.Nodup) (hi : X.N[i]? = some x) (hx : Loc X.env.scope x) (he : PE X e te) (hs : swapsWith e (some (.Name x pos')) pos.line X.env = pure false := by rfl) (hf : X.fn x = true ∨ X.env.scope.names.lookup x = some .local := by first | exact .inl rfl | exact .inr rfl | assumption) :
    PS X (.Assign [.Name x pos'] e pos) (tAsg te (gName i)) := by
  intro pins s σ H D I h
  refine wpAny_Assign_Name (thn (he pins s σ H _ I h) fun v s1 ⟨y, H1, I1, r1, q1⟩ => ?_) hs
  exact store_ok I1 hN hi hx r1 (fun s2 I2 => ⟨_, H1, I2, q1⟩) hf
end
structure It where
  go : Nat → Hp → Prop
  yld : Nat → Hp → V → Hp → Prop
  stop : Nat → Hp → Prop
noncomputable def FpOk (X : Cx) (pins : List (Addr × Obj)) (H : Hp) (b : Addr) : Prop :=
  H b = none ∧ b ≠ X.env.locals ∧ b ∉ X.fs ∧ (b ∈ X.ex ∨ X.s₀.heap.objs.size ≤ b) ∧ (∀ x c, X.env.cells.lookup x = some c → c ≠ b) ∧ ∀ p ∈ X.pn ++ pins, p.1 ≠ b
theorem Inv.fpOk {X : Cx} {pins : List (Addr × Obj)} {σ : St} {H H' : Hp} {s : Shared} {b : Addr} (I : Inv X pins σ H s) (hb : s.heap.objs.size ≤ b) (hn : H' b = none) : FpOk X pins H' b := by
  refine ⟨hn, Nat.ne_of_gt (Nat.lt_of_lt_of_le I.lt hb), I.nofs hb, .inr (Nat.le_trans I.sz hb), fun x c e z => ?_, fun p hp z => ?_⟩
  · obtain ⟨v, q⟩ := I.cell x c e
    exact absurd (Nat.lt_of_lt_of_le q.lt (by rw [z]; exact hb)) (Nat.lt_irrefl _)
  · exact absurd (Nat.lt_of_lt_of_le (Heap.lt_size (I.pin p hp).1) (by rw [z]; exact hb)) (Nat.lt_irrefl _)
structure Turn (P : Program) (w : World) (K : PySem.W.Frag) (tg : Expr) (J : It) (fp : List Addr) (it : Addr) (tn : Nat → Heap → Prop) : Prop where
  mem : it ∈ fp
  obj : ∀ i h, tn i h → ∀ b ∈ fp, ∃ o, h.get? b = some o ∧ ∀ v, o.data ≠ .cell v
  keep : ∀ i h h', tn i h → (∀ b ∈ fp, ∀ o, h.get? b = some o → h'.get? b = some o) → tn i h'
  item : ∀ (X : Cx), X.prog = P → X.w = w → X.K = K → X.calm = true → ∀ (i : Nat) (pins : List (Addr × Obj)) (s : Shared) (σ : St) (H : Hp) (E : Value → Shared → Prop), Inv X pins σ H s → (∀ b ∈ fp, FpOk X pins H b) → tn i s.heap → J.go i H →
    wpAny (model P w) X.A (pyNext (.ref it)) (fun r s1 => ∃ u, r = some u ∧
      wpAny (model P w) X.A (letOwnedTupleGo tg (.ref it) u) (fun _ s2 => ∃ x H', Inv X pins σ H' s2 ∧ RelV x u ∧ J.yld i H x H' ∧ tn (i + 1) s2.heap ∧ ∀ b ∈ fp, H' b = none) E s1) E s
  done : ∀ (X : Cx), X.prog = P → X.w = w → X.K = K → X.calm = true → ∀ (i : Nat) (pins : List (Addr × Obj)) (s : Shared) (σ : St) (H : Hp) (E : Value → Shared → Prop), Inv X pins σ H s → (∀ b ∈ fp, FpOk X pins H b) → tn i s.heap → J.stop i H →
    wpAny (model P w) X.A (pyNext (.ref it)) (fun r s1 => r = none ∧ Inv X pins σ H s1) E s
  self : ∀ (A : Around) (i : Nat) (s : Shared) (Q : Value → Shared → Prop) (E : Value → Shared → Prop), tn i s.heap → Q (.ref it) s → wpAny (model P w) A (pyIter (.ref it)) Q E s
noncomputable abbrev TI := St → Hp → (It → Hp → Prop) → Prop
noncomputable def PIE (X : Cx) (pins : List (Addr × Obj)) (σ : St) (tg : Expr) (R : It → Hp → Prop) (itv : Value) (s2 : Shared) : Prop :=
  ∃ (it : Addr) (fp : List Addr) (tn : Nat → Heap → Prop) (J : It) (H' : Hp), itv = .ref it ∧ Inv X pins σ H' s2 ∧ Turn X.prog X.w X.K tg J fp it tn ∧ tn 0 s2.heap ∧ (∀ b ∈ fp, FpOk X pins H' b) ∧ R J H'
noncomputable def PI (X : Cx) (tg iter : Expr) (wi : TI) : Prop :=
  ∀ (pins : List (Addr × Obj)) (s : Shared) (σ : St) (H : Hp) (R : It → Hp → Prop), Inv X pins σ H s → wi σ H R →
    wpAny (model X.prog X.w) X.A (eval iter X.env) (fun v s1 => wpAny (model X.prog X.w) X.A (pyIter v) (PIE X pins σ tg R) X.xe s1) X.xe s
theorem go_of {M : Model} {A : Around} {E : Value → Shared → Prop} {s : Shared} {tg : Expr} {it : Addr} {u : Value} {o : Obj} {n : String} {vs : Array Value} {Q : Unit → Shared → Prop} (ho : s.heap.get? it = some o) (hc : o.cls = .type n) (hd : o.data = .fields vs)
    (hn : ["enumerate", "zip", "dict_itemiterator", "dict_reverseitemiterator", "odict_iterator", "itertools.zip_longest", "itertools.pairwise"].contains n = false) (hQ : Q () s) : wpAny M A (letOwnedTupleGo tg (.ref it) u) Q E s := by
  unfold letOwnedTupleGo
  cases tg <;> first
    | exact wpAny_pure hQ
    | (cases u <;> first
        | exact wpAny_pure hQ
        | (refine wpAny_bind (wpAny_load ho ?_)
           rw [hc, hd]
           show wpAny M A (if (["enumerate", "zip", "dict_itemiterator", "dict_reverseitemiterator", "odict_iterator", "itertools.zip_longest", "itertools.pairwise"].contains n && vs[0]? == some (rawInt _)) = true then _ else _) Q E s
           rw [if_neg (by intro h; rw [hn, Bool.false_and] at h; cases h)]
           exact wpAny_pure hQ))
noncomputable def Itl (K : PySem.W.Frag) (a : Addr) : It :=
  ⟨fun i H => ∃ xs x, SqL K H a xs ∧ xs[i]? = some x, fun i H x H' => H' = H ∧ ∀ xs, SqL K H a xs → xs[i]? = some x, fun i H => ∃ xs, SqL K H a xs ∧ xs.length ≤ i⟩
noncomputable def Itt (K : PySem.W.Frag) (a : Addr) : It :=
  ⟨fun i H => ∃ xs x, SqT K H a xs ∧ xs[i]? = some x, fun i H x H' => H' = H ∧ ∀ xs, SqT K H a xs → xs[i]? = some x, fun i H => ∃ xs, SqT K H a xs ∧ xs.length ≤ i⟩
noncomputable def Itr (lo : Int) (n : Nat) : It := ⟨fun i _ => i < n, fun i H x H' => H' = H ∧ x = .int (lo + i), fun i _ => n ≤ i⟩
theorem turn_list {P : Program} {w : World} {K : PySem.W.Frag} {tg : Expr} (a it : Addr) : Turn P w K tg (Itl K a) [it] it (fun i h => h.IsListIter it a i) where
  mem := by simp
  obj := fun i h st b hb => by
    have e : b = it := by simpa using hb
    subst e
    obtain ⟨o, e, c, d⟩ := st
    exact ⟨o, e, fun v z => by rw [d] at z; cases z⟩
  keep := fun i h h' st k => st.at fun o e => k it (by simp) o e
  item := by
    intro X hP hw hK hc i pins s σ H E I hf st hg
    subst hP hw hK
    obtain ⟨xs, x, hq, hx⟩ := hg
    obtain ⟨its, rv, p, hz⟩ := I.list hq
    obtain ⟨u, hu, ru⟩ := rv.get hx
    obtain ⟨f0, f1, f2, f3, f4, f5⟩ := hf it (by simp)
    refine wpAny_pyNext_list_item st p.isList (x := u) (by simpa using hu) fun h' st' sb => ?_
    have I1 : Inv X pins σ H { s with heap := h' } := I.turned (t' := s.toks) (fun b o hb e => (sb.2 b hb).trans e) f0 f1 f3 f4 f5
    obtain ⟨o, e, c, d⟩ := id st'
    exact ⟨u, rfl, go_of (s := { s with heap := h' }) e c d (by decide) ⟨x, H, I1, ru, ⟨rfl, fun ys hy => by rw [I.list_inj hy hq]; exact hx⟩, st', fun b hb => (hf b hb).1⟩⟩
  done := by
    intro X hP hw hK hc i pins s σ H E I hf st hg
    subst hP hw hK
    obtain ⟨xs, hq, hx⟩ := hg
    obtain ⟨its, rv, p, hz⟩ := I.list hq
    obtain ⟨f0, f1, f2, f3, f4, f5⟩ := hf it (by simp)
    have hl := rv.length
    exact wpAny_pyNext_list_end (I.ok.hd hc) st p.isList (by simp; omega) fun h' eb => ⟨rfl, I.turned (t' := s.toks) (fun b o hb e => eb b o hb e) f0 f1 f3 f4 f5⟩
  self := fun _ _ _ _ _ st h => wpAny_pyIter_listiter st h
theorem turn_tuple {P : Program} {w : World} {K : PySem.W.Frag} {tg : Expr} (a it : Addr) : Turn P w K tg (Itt K a) [it] it (fun i h => h.IsTupleIter it a i) where
  mem := by simp
  obj := fun i h st b hb => by
    have e : b = it := by simpa using hb
    subst e
    obtain ⟨o, e, c, d⟩ := st
    exact ⟨o, e, fun v z => by rw [d] at z; cases z⟩
  keep := fun i h h' st k => st.at fun o e => k it (by simp) o e
  item := by
    intro X hP hw hK hc i pins s σ H E I hf st hg
    subst hP hw hK
    obtain ⟨xs, x, hq, hx⟩ := hg
    obtain ⟨its, rv, p, hz⟩ := I.tuple hq
    obtain ⟨u, hu, ru⟩ := rv.get hx
    obtain ⟨f0, f1, f2, f3, f4, f5⟩ := hf it (by simp)
    refine wpAny_pyNext_tuple_item st (show s.heap.IsTuple a its.toArray from p) (x := u) (by simpa using hu) fun h' st' sb => ?_
    have I1 : Inv X pins σ H { s with heap := h' } := I.turned (t' := s.toks) (fun b o hb e => (sb.2 b hb).trans e) f0 f1 f3 f4 f5
    obtain ⟨o, e, c, d⟩ := id st'
    exact ⟨u, rfl, go_of (s := { s with heap := h' }) e c d (by decide) ⟨x, H, I1, ru, ⟨rfl, fun ys hy => by rw [I.tuple_inj hy hq]; exact hx⟩, st', fun b hb => (hf b hb).1⟩⟩
  done := by
    intro X hP hw hK hc i pins s σ H E I hf st hg
    subst hP hw hK
    obtain ⟨xs, hq, hx⟩ := hg
    obtain ⟨its, rv, p, hz⟩ := I.tuple hq
    obtain ⟨f0, f1, f2, f3, f4, f5⟩ := hf it (by simp)
    have hl := rv.length
    exact wpAny_pyNext_tuple_end (I.ok.hd hc) st (show s.heap.IsTuple a its.toArray from p) (by simp; omega) fun h' eb => ⟨rfl, I.turned (t' := s.toks) (fun b o hb e => eb b o hb e) f0 f1 f3 f4 f5⟩
  self := fun _ _ _ _ _ st h => wpAny_pyIter_tupleiter st h
theorem turn_range {P : Program} {w : World} {K : PySem.W.Frag} {tg : Expr} (it : Addr) (lo : Int) (n : Nat) : Turn P w K tg (Itr lo n) [it] it (fun i h => IsRangeIter h it (lo + (i : Nat) * 1) ((n : Int) - (i : Nat)) 1) where
  mem := by simp
  obj := fun i h st b hb => by
    have e : b = it := by simpa using hb
    subst e
    exact ⟨_, st, fun v z => by
      have z' : Data.fields _ = Data.cell v := z
      cases z'⟩
  keep := fun i h h' st k => k it (by simp) _ st
  item := by
    intro X hP hw hK hc i pins s σ H E I hf st hg
    subst hP hw hK
    obtain ⟨f0, f1, f2, f3, f4, f5⟩ := hf it (by simp)
    have W := Walks.range (prog := X.prog) (w := X.w) (I.ok.hd hc) it lo 1 n
    refine W.item i s _ _ hg st fun v h' tk hv st' kk => ?_
    obtain ⟨t, rfl⟩ := hv
    have I1 : Inv X pins σ H { s with heap := h', toks := tk } := I.turned (fun b o hb e => kk b o (by simpa using hb) e) f0 f1 f3 f4 f5
    refine ⟨_, rfl, go_of (s := { s with heap := h', toks := tk }) (n := "range_iterator") st' rfl rfl (by decide) ⟨.int (lo + i), H, I1, ⟨t, ?_⟩, ⟨rfl, rfl⟩, st', fun b hb => (hf b hb).1⟩⟩
    rw [Int.mul_one]
  done := by
    intro X hP hw hK hc i pins s σ H E I hf st hg
    subst hP hw hK
    obtain ⟨f0, f1, f2, f3, f4, f5⟩ := hf it (by simp)
    exact wpAny_pyNext_range_end (I.ok.hd hc) st (by have : n ≤ i := hg; omega) fun h' eb => ⟨rfl, I.turned (t' := s.toks) (fun b o hb e => eb b o hb e) f0 f1 f3 f4 f5⟩
  self := fun _ _ _ _ _ st h => wpAny_pyIter_rangeiter st h
end L2
namespace L2
open PySem PySem.Spec PyProof.Rows
section
variable {X : Cx} {tg : Expr}
theorem range_it {pins : List (Addr × Obj)} {σ : St} {H : Hp} {s : Shared} {R : It → Hp → Prop} {E : Value → Shared → Prop} {lo hi : Int} {t u v : Tok} {tk : Nat} (I : Inv X pins σ H s) (h1 : -(2 ^ 62) ≤ lo) (h2 : lo < 2 ^ 62) (h3 : -(2 ^ 62) ≤ hi) (h4 : hi < 2 ^ 62)
    (q : R (Itr lo (hi - lo).toNat) H) : wpAny (model X.prog X.w) X.A (pyIter (.ref s.heap.objs.size)) (PIE X pins σ tg R) E { s with heap := s.heap.push { cls := .type "range", data := .fields #[.int lo t, .int hi u, .int 1 v] }, toks := tk } := by
  refine wpAny_pyIter_range (IsRange.new ..) (small_one h1 h2 h3 h4) ?_
  have I1 : Inv X pins σ H { s with heap := s.heap.push { cls := .type "range", data := .fields #[.int lo t, .int hi u, .int 1 v] }, toks := tk } := I.kept fun b o e => Heap.get?_push_of_some _ e
  refine ⟨(s.heap.push { cls := .type "range", data := .fields #[.int lo t, .int hi u, .int 1 v] }).objs.size, [(s.heap.push { cls := .type "range", data := .fields #[.int lo t, .int hi u, .int 1 v] }).objs.size], _, _, H, rfl,
    I1.kept (t' := tk) fun b o e => Heap.get?_push_of_some _ e, turn_range _ lo (hi - lo).toNat, ?_, fun b hb => ?_, q⟩
  · have e1 : lo + ((0 : Nat) : Int) * 1 = lo := by simp
    have e2 : (((hi - lo).toNat : Nat) : Int) - ((0 : Nat) : Int) = Builtin.Range.rangeSize lo hi 1 := by rw [rangeSize_one]; split <;> omega
    show IsRangeIter _ _ (lo + ((0 : Nat) : Int) * 1) ((((hi - lo).toNat : Nat) : Int) - ((0 : Nat) : Int)) 1
    rw [e1, e2]
    exact Heap.get?_push_size _ rfl
  · have e : b = (s.heap.push { cls := .type "range", data := .fields #[.int lo t, .int hi u, .int 1 v] }).objs.size := by simpa using hb
    subst e
    exact I1.fpOk (Nat.le_refl _) (I1.hok.fresh (Nat.le_refl _))
noncomputable def iRng1 (ta : TA) : TI := fun σ H R => ta σ H fun vs H1 => ∃ j : Int, vs = [.int j] ∧ -(2 ^ 62) ≤ j ∧ j < 2 ^ 62 ∧ R (Itr 0 j.toNat) H1
theorem pi_range1 {a : Expr} {ta : TA} {p pos : Pos} (hg : Gl X "range") (hm : X.mg "range" = none) (ha : PA X [a] ta) (hs : starEach [a] X.env = [(false, eval a X.env)] := by rfl) : PI X tg (.Call (.Name "range" p) [a] [] pos) (iRng1 ta) := by
  intro pins s σ H R I h
  refine Call_ (ld_blt I hg hm boot_range (PyProof.Rows.callWith_type1 (thn (ha pos pins s σ H _ I h) fun us s1 ⟨vs, H1, I1, r1, q1⟩ => ?_) hs rfl))
  obtain ⟨j, e, q1, q2, q⟩ := q1
  subst e
  cases r1 with
  | cons r rr =>
    cases rr
    obtain ⟨t, rfl⟩ := r
    exact call_range_1 (range_it I1 (by omega) (by omega) q1 q2 (by simpa using q))
noncomputable def tFor (wi : TI) (g : TG) (tb : TS) : TS := fun D σ H => wi σ H fun J H1 => ∃ W : Nat → Nat → St → Hp → Prop, (∃ m, W 0 m σ H1) ∧ ∀ i m σ H, W i m σ H →
  (J.stop i H ∧ D.nx σ H) ∨ (J.go i H ∧ ∃ N : St → Hp → Prop, (∀ σ' H', N σ' H' → ∃ m', m' < m ∧ W (i + 1) m' σ' H') ∧ ∀ x H', J.yld i H x H' → g x σ H' fun σ2 H2 => tb { D with nx := N, ct := N, bk := D.nx } σ2 H2)
noncomputable def pinsAt (fp : List Addr) (h : Heap) : List (Addr × Obj) := fp.filterMap fun b => (h.get? b).map fun o => (b, o)
theorem mem_pinsAt {fp : List Addr} {h : Heap} {b : Addr} {o : Obj} (hb : b ∈ fp) (e : h.get? b = some o) : (b, o) ∈ pinsAt fp h := List.mem_filterMap.mpr ⟨b, hb, by rw [e]; rfl⟩
theorem of_pinsAt {fp : List Addr} {h : Heap} {p : Addr × Obj} (hp : p ∈ pinsAt fp h) : p.1 ∈ fp ∧ h.get? p.1 = some p.2 := by
  obtain ⟨b, hb, e⟩ := List.mem_filterMap.mp hp
  cases q : h.get? b with
  | none => rw [q] at e; cases e
  | some o =>
    rw [q] at e
    have e' : (b, o) = p := Option.some.inj e
    subst e'
    exact ⟨hb, q⟩
theorem Inv.pinned {pins : List (Addr × Obj)} {σ : St} {H : Hp} {s : Shared} {fp : List Addr} (I : Inv X pins σ H s) (hf : ∀ b ∈ fp, FpOk X pins H b) (ho : ∀ b ∈ fp, ∃ o, s.heap.get? b = some o ∧ ∀ v, o.data ≠ .cell v) : Inv X (pins ++ pinsAt fp s.heap) σ H s :=
  I.pins_of fun p hp => (List.mem_append.mp hp).elim (fun z => I.pin p (List.mem_append_right _ z)) fun z => by
    obtain ⟨hb, e⟩ := of_pinsAt z
    obtain ⟨f0, f1, f2, _⟩ := hf p.1 hb
    obtain ⟨o, e', d⟩ := ho p.1 hb
    rw [e] at e'; cases e'
    exact ⟨e, f0, f1, f2, d⟩
theorem Inv.unpinned {pins pl : List (Addr × Obj)} {σ : St} {H : Hp} {s : Shared} (I : Inv X (pins ++ pl) σ H s) : Inv X pins σ H s := I.pins_of fun p hp => I.pin p (List.mem_append_right _ (List.mem_append_left _ hp))
theorem ps_for {iter : Expr} {body : List Stmt} {wi : TI} {g : TG} {tb : TS} {pos : Pos} (hp : PassesOwn (model X.prog X.w) X.A X.env X.xe) (hc : X.calm = true) (hi : PI X tg iter wi) (hg : PG X tg g) (hb : PSs X body tb)
    (hs : ∀ x, foldedSetIterable iter X.env x = pure x := by intro _; rfl) : PS X (.For tg iter body [] pos) (tFor wi g tb) := by
  intro pins s σ H D I h
  refine wpAny_For (thn (hi pins s σ H _ I h) fun v s1 h1 => thn h1 fun itv s2 h2 => ?_) hs
  obtain ⟨it, fp, tn, J, H2, e, I2, T, st2, f2, W, ⟨m0, w0⟩, turn⟩ := h2
  subst e
  -- what stays true of the iterator's objects through the loop
  have stat : ∀ {H' : Hp}, (∀ b ∈ fp, H' b = none) → ∀ b ∈ fp, FpOk X pins H' b := fun hn b hb => ⟨hn b hb, (f2 b hb).2⟩
  refine codeAny_forLoop_any (fun n s' => ∃ i σ' H', Inv X pins σ' H' s' ∧ tn i s'.heap ∧ (∀ b ∈ fp, H' b = none) ∧ W i n σ' H') ?_ m0 ⟨0, σ, H2, I2, st2, fun b hb => (f2 b hb).1, w0⟩
  rintro n s3 ⟨i, σ3, H3, I3, st3, fr3, w3⟩
  rcases turn i n σ3 H3 w3 with ⟨stop, qn⟩ | ⟨go, N, hN, step⟩
  · refine wpAny_passesOwn hp (thn (T.done X rfl rfl rfl hc i pins s3 σ3 H3 X.xe I3 (stat fr3) st3 stop) fun r s4 ⟨hr, I4⟩ => ?_)
    subst hr
    exact wpAny_execs_nil ⟨σ3, H3, I4, qn⟩
  · refine wpAny_passesOwn hp (thn (T.item X rfl rfl rfl hc i pins s3 σ3 H3 X.xe I3 (stat fr3) st3 go) fun r s4 ⟨u, hr, h4⟩ => ?_)
    subst hr
    refine wpAny_passesOwn hp (thn h4 fun _ s5 hh0 => ?_)
    obtain ⟨x, H5, I5, r5, y5, st5, fr5⟩ := hh0
    have I5' := I5.pinned (stat fr5) (T.obj _ _ st5)
    refine wpAny_passesOwn hp (thn (hg _ s5 σ3 H5 x u _ I5' r5 (step x H5 y5)) fun _ s6 hh0 => ?_)
    obtain ⟨σ6, H6, I6, q6⟩ := hh0
    refine wpAny_passesOwn hp (thn (hb _ s6 σ6 H6 _ I6 q6) fun f s7 q7 => ?_)
    have again : ∀ {σ7 : St} {H7 : Hp}, Inv X (pins ++ pinsAt fp s5.heap) σ7 H7 s7 → N σ7 H7 → ∃ m, m < n ∧ ∃ i σ' H', Inv X pins σ' H' s7 ∧ tn i s7.heap ∧ (∀ b ∈ fp, H' b = none) ∧ W i m σ' H' := fun {σ7 H7} I7 n7 => by
      obtain ⟨m', hm, w7⟩ := hN σ7 H7 n7
      refine ⟨m', hm, i + 1, σ7, H7, I7.unpinned, T.keep _ _ _ st5 fun b hb o e => (I7.pin (b, o) (List.mem_append_right _ (List.mem_append_right _ (mem_pinsAt hb e)))).1, fun b hb => ?_, w7⟩
      obtain ⟨o, e, d⟩ := T.obj _ _ st5 b hb
      exact (I7.pin (b, o) (List.mem_append_right _ (List.mem_append_right _ (mem_pinsAt hb e)))).2.1
    cases f with
    | next => obtain ⟨σ7, H7, I7, n7⟩ := q7; exact again I7 n7
    | cont => obtain ⟨σ7, H7, I7, n7⟩ := q7; exact again I7 n7
    | brk => obtain ⟨σ7, H7, I7, q7⟩ := q7; exact ⟨σ7, H7, I7.unpinned, q7⟩
    | ret v => obtain ⟨x7, σ7, H7, I7, r7, q7⟩ := q7; exact ⟨x7, σ7, H7, I7.unpinned, r7, q7⟩
end
end L2
namespace L2
open PySem PySem.Spec PyProof.Rows
noncomputable abbrev R2 := V → V → Hp → VK → Prop
noncomputable def OpR (X : Cx) (f : Value → Value → Sem Value) (r : R2) : Prop :=
  ∀ (pins : List (Addr × Obj)) (s : Shared) (σ : St) (H : Hp) (x y : V) (v u : Value) (Q : VK), Inv X pins σ H s → RelV x v → RelV y u → r x y H Q →
    wpAny (model X.prog X.w) X.A (f v u) (EP X pins σ Q) X.xe s
noncomputable def CallR (X : Cx) (f : Value) (r : List V → Hp → VK → Prop) : Prop :=
  ∀ (pins : List (Addr × Obj)) (s : Shared) (σ : St) (H : Hp) (xs : List V) (us : List Value) (Q : VK), Inv X pins σ H s → Vals xs us → r xs H Q →
    wpAny (model X.prog X.w) X.A (call f us) (EP X pins σ Q) X.xe s
noncomputable def TruR (X : Cx) (r : V → Hp → (Bool → Hp → Prop) → Prop) : Prop :=
  ∀ (pins : List (Addr × Obj)) (s : Shared) (σ : St) (H : Hp) (x : V) (v : Value) (Q : Bool → Hp → Prop), Inv X pins σ H s → RelV x v → r x H Q →
    wpAny (model X.prog X.w) X.A (truthy v) (TP X pins σ Q) X.xe s
noncomputable def tOp (r : R2) (ta tb : TE) : TE := fun σ H Q => ta σ H fun x H1 => tb σ H1 fun y H2 => r x y H2 Q
noncomputable def rI (C : Int → Int → Prop) (g : Int → Int → V) : R2 := fun x y H Q => ∃ i j, x = .int i ∧ y = .int j ∧ C i j ∧ Q (g i j) H
noncomputable def rI0 (g : Int → Int → V) : R2 := fun x y H Q => ∃ i j, x = .int i ∧ y = .int j ∧ Q (g i j) H
section
variable {X : Cx} {a b c : Expr} {ta tb tc : TE} {pos : Pos}
theorem binT (ha : PE X a ta) (hb : PE X b tb) {pins : List (Addr × Obj)} {s : Shared} {σ : St} {H : Hp} {R : V → V → Hp → Prop} (I : Inv X pins σ H s)
    (h : ta σ H fun x H1 => tb σ H1 fun y H2 => R x y H2) {Q : Value → Shared → Prop} {f : Value → Value → Sem Value}
    (hf : ∀ v u s2 x y H2, Inv X pins σ H2 s2 → RelV x v → RelV y u → R x y H2 → wpAny (model X.prog X.w) X.A (f v u) Q X.xe s2) :
    wpAny (model X.prog X.w) X.A (eval a X.env) (fun v s₁ => wpAny (model X.prog X.w) X.A (eval b X.env) (fun u s₂ => wpAny (model X.prog X.w) X.A (f v u) Q X.xe s₂) X.xe s₁) X.xe s := by
  refine thn (ha pins s σ H _ I h) fun v s1 hh0 => ?_
  obtain ⟨x, H1, I1, r1, q1⟩ := hh0
  refine thn (hb pins s1 σ H1 _ I1 q1) fun u s2 hh0 => ?_
  obtain ⟨y, H2, I2, r2, q2⟩ := hh0
  exact hf v u s2 x y H2 I2 r1 r2 q2
theorem pe_op {op : Operator} {r : R2} (ho : OpR X (binaryOp op) r) (ha : PE X a ta) (hb : PE X b tb) : PE X (.BinOp a op b pos) (tOp r ta tb) := by
  intro pins s σ H Q I h
  exact wpAny_BinOp (binT ha hb I h fun v u s2 x y H2 I2 rx ry q => ho pins s2 σ H2 x y v u Q I2 rx ry q)
theorem opI {f : Value → Value → Sem Value} {C : Int → Int → Prop} {g : Int → Int → Int}
    (rule : ∀ (i j : Int) (t u : Tok) (s : Shared) (Q : Value → Shared → Prop) (E : Value → Shared → Prop), C i j → Q (.int (g i j) s.toks) { s with toks := s.toks + 1 } → wpAny (model X.prog X.w) X.A (f (.int i t) (.int j u)) Q E s) :
    OpR X f (rI C fun i j => .int (g i j)) := by
  intro pins s σ H x y v u Q I rx ry h
  obtain ⟨i, j, rfl, rfl, hc, q⟩ := h
  obtain ⟨t, rfl⟩ := rx
  obtain ⟨t', rfl⟩ := ry
  exact rule i j t t' s _ _ hc ⟨.int (g i j), H, I.tok _, ⟨_, rfl⟩, q⟩
theorem opI0 {f : Value → Value → Sem Value} {g : Int → Int → Int}
    (rule : ∀ (i j : Int) (t u : Tok) (s : Shared) (Q : Value → Shared → Prop) (E : Value → Shared → Prop), Q (.int (g i j) s.toks) { s with toks := s.toks + 1 } → wpAny (model X.prog X.w) X.A (f (.int i t) (.int j u)) Q E s) :
    OpR X f (rI0 fun i j => .int (g i j)) := by
  intro pins s σ H x y v u Q I rx ry h
  obtain ⟨i, j, rfl, rfl, q⟩ := h
  obtain ⟨t, rfl⟩ := rx
  obtain ⟨t', rfl⟩ := ry
  exact rule i j t t' s _ _ ⟨.int (g i j), H, I.tok _, ⟨_, rfl⟩, q⟩
theorem opB0 {f : Value → Value → Sem Value} {g : Int → Int → Bool}
    (rule : ∀ (i j : Int) (t u : Tok) (s : Shared) (Q : Value → Shared → Prop) (E : Value → Shared → Prop), Q (.bool (g i j)) s → wpAny (model X.prog X.w) X.A (f (.int i t) (.int j u)) Q E s) :
    OpR X f (rI0 fun i j => .bl (g i j)) := by
  intro pins s σ H x y v u Q I rx ry h
  obtain ⟨i, j, rfl, rfl, q⟩ := h
  obtain ⟨t, rfl⟩ := rx
  obtain ⟨t', rfl⟩ := ry
  exact rule i j t t' s _ _ ⟨.bl (g i j), H, I, rfl, q⟩
noncomputable def CDiv (i j : Int) : Prop := 0 < j ∧ j < 1073741824
noncomputable def CMul (i j : Int) : Prop := (-(2 ^ 64) < i ∧ i < 2 ^ 64) ∨ (-(2 ^ 64) < j ∧ j < 2 ^ 64)
theorem CMul.ok {i j : Int} (h : CMul i j) : IntMulOk i j := by
  rcases h with ⟨h1, h2⟩ | ⟨h1, h2⟩
  · exact .of_left (intBits_le_64 h1 h2)
  · exact .of_right (intBits_le_64 h1 h2)
theorem op_add : OpR X (binaryOp .Add) (rI0 fun i j => .int (i + j)) := opI0 fun _ _ _ _ _ _ _ q => add_int q
theorem op_mul : OpR X (binaryOp .Mult) (rI CMul fun i j => .int (i * j)) := opI fun _ _ _ _ _ _ _ hc q => mul_int q hc.ok
theorem op_fdiv : OpR X (binaryOp .FloorDiv) (rI CDiv fun i j => .int (i / j)) := opI fun i j _ _ _ _ _ hc q => by
  have h1 : (0 : Int) < j := hc.1
  have h2 : j < 1073741824 := hc.2
  exact floordiv_int (by omega) (by rw [Int.fdiv_eq_ediv_of_nonneg i (by omega)]; exact q) (.inl (PyProof.noPylong_small (by omega)))
theorem op_mod : OpR X (binaryOp .Mod) (rI (fun _ j => 0 < j) fun i j => .int (i % j)) := opI fun i j _ _ _ _ _ hc q => by
  have h1 : (0 : Int) < j := hc
  exact mod_int' (by omega) (by rw [Int.fmod_eq_emod_of_nonneg i (by omega)]; exact q)
end
noncomputable def scal : V → V → Bool
  | .non, .non => true | .non, .int _ => true | .int _, .non => true | .non, .bl _ => true | .bl _, .non => true | .non, .str _ => true | .str _, .non => true
  | .int _, .int _ => true | .bl _, .bl _ => true | .str _, .str _ => true | .byt _, .byt _ => true
  | .int _, .str _ => true | .str _, .int _ => true | .bl _, .str _ => true | .str _, .bl _ => true
  | _, _ => false
noncomputable def rNe : R2 := fun x y H Q => scal x y = true ∧ Q (.bl (!decide (x = y))) H
theorem dec_int {i j : Int} : decide (V.int i = V.int j) = (i == j) := by
  rw [Bool.eq_iff_iff]
  simp
theorem dec_bl {i j : Bool} : decide (V.bl i = V.bl j) = (i == j) := by
  rw [Bool.eq_iff_iff]
  simp
theorem dec_str {i j : Str} : decide (V.str i = V.str j) = (i == j) := by
  rw [Bool.eq_iff_iff]
  simp
theorem dec_byt {i j : Array UInt8} : decide (V.byt i = V.byt j) = (i.toList == j.toList) := by
  rw [Bool.eq_iff_iff]
  cases i
  cases j
  simp
section
variable {X : Cx} {a b c : Expr} {ta tb tc : TE} {pos : Pos}
theorem fin_bl {pins : List (Addr × Obj)} {σ : St} {H : Hp} {s : Shared} {Q : VK} {k k' : Bool} (I : Inv X pins σ H s) (q : Q (.bl k) H) (e : k = k') : EP X pins σ Q (.bool k') s := by
  subst e
  exact ⟨.bl k, H, I, rfl, q⟩
theorem op_ne : OpR X (compareOp .NotEq) rNe := by
  intro pins s σ H x y v u Q I rx ry h
  obtain ⟨hs, q⟩ := h
  cases x with
  | non =>
    cases rx
    cases y with
    | non => cases ry; exact PySem.EqNone.ne_none_none (fin_bl I q (by simp))
    | bl j => cases ry; exact PySem.EqNone.ne_none_bool (fin_bl I q (by simp))
    | int j => obtain ⟨t', rfl⟩ := ry; exact PySem.EqNone.ne_none_int (fin_bl I q (by simp))
    | str j => obtain ⟨t', rfl⟩ := ry; exact PySem.EqNone.ne_none_str (fin_bl I q (by simp))
    | _ => exact absurd (show false = true from hs) Bool.false_ne_true
  | bl i =>
    cases rx
    cases y with
    | non => cases ry; exact PySem.EqNone.ne_bool_none (fin_bl I q (by simp))
    | bl j => cases ry; exact ne_bool (fin_bl I q (congrArg not dec_bl))
    | str j => obtain ⟨t', rfl⟩ := ry; exact PySem.EqMixed.ne_bool_str (fin_bl I q (by simp))
    | _ => exact absurd (show false = true from hs) Bool.false_ne_true
  | int i =>
    obtain ⟨t, rfl⟩ := rx
    cases y with
    | non => cases ry; exact PySem.EqNone.ne_int_none (fin_bl I q (by simp))
    | int j => obtain ⟨t', rfl⟩ := ry; exact ne_int (fin_bl I q (congrArg not dec_int))
    | str j => obtain ⟨t', rfl⟩ := ry; exact PySem.EqMixed.ne_int_str (fin_bl I q (by simp))
    | _ => exact absurd (show false = true from hs) Bool.false_ne_true
  | str i =>
    obtain ⟨t, rfl⟩ := rx
    cases y with
    | non => cases ry; exact PySem.EqNone.ne_str_none (fin_bl I q (by simp))
    | bl j => cases ry; exact PySem.EqMixed.ne_str_bool (fin_bl I q (by simp))
    | int j => obtain ⟨t', rfl⟩ := ry; exact PySem.EqMixed.ne_str_int (fin_bl I q (by simp))
    | str j => obtain ⟨t', rfl⟩ := ry; exact ne_str (fin_bl I q (congrArg not dec_str))
    | _ => exact absurd (show false = true from hs) Bool.false_ne_true
  | byt i =>
    obtain ⟨t, rfl⟩ := rx
    cases y with
    | byt j => obtain ⟨t', rfl⟩ := ry; exact PySem.W.ne_bytes (fin_bl I q (congrArg not dec_byt))
    | _ => exact absurd (show false = true from hs) Bool.false_ne_true
  | _ => cases y <;> exact absurd (show false = true from hs) Bool.false_ne_true
theorem op_lt : OpR X (compareOp .Lt) (rI0 fun i j => .bl (decide (i < j))) := opB0 fun _ _ _ _ _ _ _ q => lt_int q
theorem nomark (b : Expr) {op : CmpOp} (h : op ≠ .In := by decide) (h2 : op ≠ .NotIn := by decide) : behindInMarks op b = false := by
  have e1 : (op == CmpOp.In) = false := by cases op <;> first | rfl | exact absurd rfl h
  have e2 : (op == CmpOp.NotIn) = false := by cases op <;> first | rfl | exact absurd rfl h2
  cases b <;> simp [behindInMarks, e1, e2]
theorem pe_cmpR {op : CmpOp} {r : R2} (ho : OpR X (compareOp op) r) (ha : PE X a ta) (hb : PE X b tb) (hm : behindInMarks op b = false) : PE X (.Compare a [op] [b] pos) (tOp r ta tb) := by
  intro pins s σ H Q I h
  exact wpAny_Compare1 (binT ha hb I h fun v u s2 x y H2 I2 rx ry q => ho pins s2 σ H2 x y v u Q I2 rx ry q) hm
noncomputable def tTest (t : TE) : TT := fun σ H Q => t σ H fun x H' => ∃ k, x = .bl k ∧ Q k H'
theorem pt_cmpR {op : CmpOp} {r : R2} (ho : OpR X (compareOp op) r) (ha : PE X a ta) (hb : PE X b tb) (hm : behindInMarks op b = false) : PT X (.Compare a [op] [b] pos) (tTest (tOp r ta tb)) := by
  intro pins s σ H Q I h
  refine wpAny_isTrue_Compare1 (thn (ha pins s σ H _ I h) fun v s1 ⟨x, H1, I1, r1, q1⟩ => thn (hb pins s1 σ H1 _ I1 q1) fun u s2 ⟨y, H2, I2, r2, q2⟩ =>
    thn (ho pins s2 σ H2 x y v u _ I2 r1 r2 q2) fun c s3 ⟨z, H3, I3, r3, k, e, q3⟩ => ?_) hm
  subst e
  cases r3
  exact wpAny_truthy_bool ⟨H3, I3, q3⟩
noncomputable def TruV (K : PySem.W.Frag) (x : V) (H : Hp) (k : Bool) : Prop :=
  match x with
  | .non => k = false
  | .bl b => k = b
  | .int i => k = (i != 0)
  | .str y => y.length ≤ sizeLine ∧ k = ((y.length : Int) != 0)
  | .byt y => y.size ≤ sizeLine ∧ k = ((y.size : Int) != 0)
  | .ref p => (∃ xs, SqL K H p xs ∧ k = !xs.isEmpty) ∨ (∃ xs, SqT K H p xs ∧ k = !xs.isEmpty) ∨ ∃ kvs, H p = some (.dK kvs) ∧ k = !kvs.isEmpty
  | _ => False
theorem isEmpty_kv {κ : Type} {kvs : List (κ × V)} {vs : List (κ × Value)} (r : KV kvs vs) : (!vs.isEmpty) = !kvs.isEmpty := by
  cases r <;> rfl
theorem isEmpty_of {xs : List V} {its : List Value} (r : Vals xs its) : (!its.toArray.isEmpty) = !xs.isEmpty := by
  cases r <;> simp
theorem line63 : (sizeLine : Nat) < 2 ^ 63 := by rw [sizeLine_eq]; decide
theorem tru_ok : TruR X (fun x H Q => ∃ k, TruV X.K x H k ∧ Q k H) := by
  intro pins s σ H x v Q I rx h
  obtain ⟨k, e, q⟩ := h
  have hl := line63
  have hs : sizeLine = 16777216 := sizeLine_eq
  cases x with
  | non =>
    cases rx
    have e' : k = false := e
    subst e'
    exact truthy_none ⟨H, I, q⟩
  | bl b =>
    cases rx
    have e' : k = b := e
    subst e'
    exact wpAny_truthy_bool ⟨H, I, q⟩
  | int i =>
    obtain ⟨t, rfl⟩ := rx
    have e' : k = (i != 0) := e
    subst e'
    exact PySem.P.truthy_int ⟨H, I, q⟩
  | str y =>
    obtain ⟨t, rfl⟩ := rx
    obtain ⟨hy, e'⟩ : y.length ≤ sizeLine ∧ k = ((y.length : Int) != 0) := e
    subst e'
    exact PySem.P.truthy_str (by omega) ⟨H, I.tok _, q⟩
  | byt y =>
    obtain ⟨t, rfl⟩ := rx
    obtain ⟨hy, e'⟩ : y.size ≤ sizeLine ∧ k = ((y.size : Int) != 0) := e
    subst e'
    exact PySem.W.truthy_bytes (by omega) ⟨H, I.tok _, q⟩
  | ref p =>
    cases rx
    have e' : (∃ xs, SqL X.K H p xs ∧ k = !xs.isEmpty) ∨ (∃ xs, SqT X.K H p xs ∧ k = !xs.isEmpty) ∨ ∃ kvs, H p = some (.dK kvs) ∧ k = !kvs.isEmpty := e
    rcases e' with ⟨xs, hx, e'⟩ | ⟨xs, hx, e'⟩ | ⟨kvs, hx, e'⟩
    · subst e'
      obtain ⟨its, r, pl, hz⟩ := I.list hx
      have hlen := r.length
      exact wpAny_truthy_list pl.isList (by simp only [List.size_toArray]; omega) ⟨H, I.tok _, by rw [isEmpty_of r]; exact q⟩
    · subst e'
      obtain ⟨its, r, pl, hz⟩ := I.tuple hx
      have hlen := r.length
      exact truthy_tuple pl (by simp only [List.size_toArray]; omega) ⟨H, I.tok _, by rw [isEmpty_of r]; exact q⟩
    · subst e'
      obtain ⟨hz, hS, vs, r, m⟩ : kvs.length ≤ sizeLine ∧ (p == sysModules) = false ∧ ∃ vs, KV kvs vs ∧ s.heap.DictOf (mixKind X.prog X.w) p vs := I.hok p _ hx
      have hlen : kvs.length = vs.length := Paired.length r
      exact wpAny_truthy_dict hS m (by omega) ⟨H, I.tok _, by rw [isEmpty_kv r]; exact q⟩
  | _ => exact (show False from e).elim
theorem pt_truth (ha : PE X a ta) (he : ∀ whole, isTrue a X.env whole = (do let v ← whole; standAt a.pos; holding [v] (truthy v))) :
    PT X a (fun σ H Q => ta σ H fun x H' => ∃ k, TruV X.K x H' k ∧ Q k H') := by
  intro pins s σ H Q I h
  exact isTrue_plain (thn (ha pins s σ H _ I h) fun v s1 ⟨x, H1, I1, r1, q1⟩ => tru_ok pins s1 σ H1 x v Q I1 r1 q1) (he _)
theorem vals1 {x : V} {us : List Value} (r : Vals [x] us) : ∃ u, us = [u] ∧ RelV x u := by
  cases r with
  | cons r1 r2 => cases r2; exact ⟨_, rfl, r1⟩
theorem vals2 {x y : V} {us : List Value} (r : Vals [x, y] us) : ∃ u w', us = [u, w'] ∧ RelV x u ∧ RelV y w' := by
  cases r with
  | cons r1 r2 =>
    cases r2 with
    | cons r3 r4 => cases r4; exact ⟨_, _, rfl, r1, r3⟩
theorem call_max2 (hc : X.calm = true) : CallR X (.builtin "max") (fun xs H Q => ∃ i j, xs = [.int i, .int j] ∧ Q (.int (if j > i then j else i)) H) := by
  intro pins s σ H xs us Q I r h
  obtain ⟨i, j, rfl, q⟩ := h
  obtain ⟨u, w', rfl, ⟨t, rfl⟩, ⟨t', rfl⟩⟩ := vals2 r
  refine max_two_ints (I.ok.hd hc) fun h' tk k => ⟨_, H, I.kept k, ?_, q⟩
  by_cases hj : j > i
  · rw [if_pos hj, if_pos hj]; exact ⟨_, rfl⟩
  · rw [if_neg hj, if_neg hj]; exact ⟨_, rfl⟩
end
end L2
namespace L2
open PySem PySem.Spec PyProof.Rows
section
variable {prog : Program} {w : World} {A : Around} {E : Value → Shared → Prop} {s : Shared} {K : PySem.W.Frag} {x dx C f : Addr} {mA : Str → Option Value} {name : Str} {v : Value}
end
theorem RelO.some_of {v : V} {o : Option Value} (r : RelO (some v) o) : ∃ u, o = some u ∧ RelV v u := by
  cases o with
  | none => exact (show False from r).elim
  | some u => exact ⟨u, rfl, r⟩
section
variable {X : Cx} {pins : List (Addr × Obj)} {σ : St} {H : Hp} {s : Shared} {a C dx : Addr} {fs : List (Str × V)} {f : Str} {v : V} {A : Around} {E : Value → Shared → Prop}
end
end L2
namespace L2
open PySem PySem.Spec PyProof.Rows
structure Room (k : Nat) (A : Around) : Prop where
  hd : A.handled = none
  dp : A.depth + 3 * k + 5 < recursionLimit
  un : A.units + 16 * k + 200 < cLine
theorem Room.mono {j k : Nat} {A : Around} (r : Room k A) (h : j ≤ k) : Room j A := ⟨r.hd, by have := r.dp; omega, by have := r.un; omega⟩
theorem Room.deeper {k : Nat} {A : Around} (r : Room (k + 1) A) (env : Env) : Room k (A.deeper env) :=
  ⟨r.hd, by have := r.dp; show A.depth + 1 + 3 * k + 5 < _; omega, by have := r.un; show A.units + 3 + 16 * k + 200 < _; omega⟩
theorem Room.in1 {k : Nat} {A : Around} (r : Room (k + 1) A) : Room k A.in1 :=
  ⟨r.hd, by have := r.dp; show A.depth + 3 * k + 5 < _; omega, by have := r.un; show A.units + 1 + 16 * k + 200 < _; omega⟩
theorem Room.depth {k : Nat} {A : Around} (r : Room k A) : A.depth < recursionLimit := by have := r.dp; omega
theorem Room.units {k : Nat} {A : Around} (r : Room k A) : A.units + 64 < cLine := by have := r.un; omega
noncomputable def tNil : TA := fun _ H Q => Q [] H
noncomputable def tCons (ta : TE) (tr : TA) : TA := fun σ H Q => ta σ H fun x H1 => tr σ H1 fun xs H2 => Q (x :: xs) H2
section
variable {X : Cx} {e : Expr} {es : List Expr} {te : TE} {t : TA} {pos : Pos}
theorem pa_nil : PA X [] tNil := fun _ _ _ _ H Q I h => Calls.spliced_nil ⟨[], H, I, .nil, h⟩
theorem pa_cons (ha : PE X e te) (hr : PA X es t) (hs : starEach (e :: es) X.env = (false, eval e X.env) :: starEach es X.env := by rfl) : PA X (e :: es) (tCons te t) := by
  intro pos pins s σ H Q I h
  rw [hs]
  show wpAny _ _ (spliced ((false, eval e X.env) :: backTo pos (starEach es X.env))) _ _ s
  refine Calls.spliced_cons (thn (ha pins s σ H _ I h) fun u s1 hh0 => ?_)
  obtain ⟨x, H1, I1, r1, q1⟩ := hh0
  exact thn (hr pos pins s1 σ H1 _ I1 q1) fun us s2 ⟨xs, H2, I2, r2, q2⟩ => ⟨x :: xs, H2, I2, .cons r1 r2, q2⟩
noncomputable def tTup (t : TA) : TE := fun σ H Q => t σ H fun xs H1 => xs.length ≤ sizeLine ∧ ∀ p, H1 p = none → Q (.ref p) (upd H1 p (.tup xs))
noncomputable def tLst (t : TA) : TE := fun σ H Q => t σ H fun xs H1 => xs.length ≤ sizeLine ∧ ∀ p, H1 p = none → Q (.ref p) (upd H1 p (.lst xs))
theorem pe_tup {x1} (h : PA X es t) : PE X (.Tuple es x1 pos) (tTup t) := by
  intro pins s σ H Q I hq
  refine wpAny_Tuple_spliced (thn (h pos pins s σ H _ I hq) fun us s1 ⟨xs, H1, I1, r, z, q⟩ => ⟨by rw [← r.length]; exact z, ?_⟩)
  have hf : H1 s1.heap.objs.size = none := I1.hok.fresh (Nat.le_refl _)
  refine ⟨.ref s1.heap.objs.size, upd H1 s1.heap.objs.size (.tup xs), I1.laid (t' := s1.toks) (fun b u e => Heap.get?_push_of_some _ e) (Nat.le_refl _) ?_, rfl, q _ hf⟩
  exact ⟨z, us, r, ⟨_, Heap.get?_push_size _ rfl, rfl, ⟨_, rfl⟩, rfl⟩⟩
theorem pe_lst (h : PA X es t) : PE X (.List es pos) (tLst t) := by
  intro pins s σ H Q I hq
  refine wpAny_List_spliced (thn (h pos pins s σ H _ I hq) fun us s1 ⟨xs, H1, I1, r, z, q⟩ => ⟨by rw [← r.length]; exact z, ?_⟩)
  have hf : H1 s1.heap.objs.size = none := I1.hok.fresh (Nat.le_refl _)
  refine ⟨.ref s1.heap.objs.size, upd H1 s1.heap.objs.size (.lst xs), I1.laid (t' := s1.toks) (fun b u e => Heap.get?_push_of_some _ e) (Nat.le_refl _) ?_, rfl, q _ hf⟩
  exact ⟨z, us, 0, r, Heap.get?_push_size _ rfl⟩
end
noncomputable abbrev Sp := List V → Hp → VK → XK → Prop
noncomputable abbrev CXT := List Env → Hp → Shared → XK → Value → Shared → Prop
structure Env0 (P : Program) (w : World) (K : PySem.W.Frag) (mg : Str → Option Value) (base : Heap) (A : Around) (outer : List Env) (s : Shared) (H : Hp) : Prop where
  frames : A.frames = some outer
  mod : Mod K mg base
  bs : ∀ b o, base.get? b = some o → s.heap.get? b = some o ∧ H b = none
  bsz : base.objs.size ≤ s.heap.objs.size
  funs : s.heap.FunFrames base outer
  frf : ∀ b ∈ frs outer, H b = none
  hok : HOk P w H s.heap
  bare : AllBare s.gens
noncomputable def CE (outer : List Env) (P : Program) (w : World) (H : Hp) (s : Shared) (Q : VK) (u : Value) (s' : Shared) : Prop :=
  ∃ v H', s'.os = s.os ∧ AllBare s'.gens ∧ Un (frs outer) [] H H' s.heap s'.heap ∧ HOk P w H' s'.heap ∧ RelV v u ∧ Q v H'
noncomputable def CR (CX : CXT) (outer : List Env) (P : Program) (w : World) (H : Hp) (s : Shared) (Q : VK) (E : XK) (r : Result) (s' : Shared) : Prop :=
  match r with
  | .ok (.ret u) => CE outer P w H s Q u s'
  | .ok _ => False
  | .error e => CX outer H s E e s'
structure FnOk (P : Program) (w : World) (K : PySem.W.Frag) (mg : Str → Option Value) (base : Heap) (CX : CXT) (k : Nat) (f : Addr) (fd : FuncData) (ps : List Str) (sp : Sp) : Prop where
  len : ∀ vs H Q E, sp vs H Q E → vs.length = ps.length
  run : ∀ (A : Around) (outer : List Env) (s : Shared) (H : Hp) (args : Args) (us : List Value) (vs : List V) (Q : VK) (E : XK), Room k A → Env0 P w K mg base A outer s H → BindsTo s fd args (ps.zip us) → Vals vs us → sp vs H Q E →
    codeAny (model P w) A (.call (.ref f) args) (CR CX outer P w H s Q E) s
section
variable {X : Cx} {pins : List (Addr × Obj)} {σ : St} {H : Hp} {s s' : Shared}
theorem Inv.env0 (I : Inv X pins σ H s) : Env0 X.prog X.w X.K X.mg X.base X.A X.stack s H :=
  ⟨I.ok.frames, I.ok.mod, I.bs, Nat.le_trans I.ok.bsz I.sz, I.stack, I.stkFree, I.hok, I.bare⟩
theorem Inv.after {Q : VK} {u : Value} (I : Inv X pins σ H s) (h : CE X.stack X.prog X.w H s Q u s') : EP X pins σ Q u s' := by
  obtain ⟨v, H', os, bare, un, hok, r, q⟩ := h
  obtain ⟨hh, g, d, t, os'⟩ := s'
  obtain rfl : os' = s.os := os
  exact ⟨v, H', I.call (h' := hh) (g' := g) (d' := d) (t' := t) (ch := []) un hok bare (fun b z => absurd z (by simp)), r, q⟩
end
noncomputable def tCall (sp : Sp) (dvs : List V) (E : XK) (t : TA) : TE := fun σ H Q => t σ H fun vs H1 => sp (vs ++ dvs) H1 Q E
noncomputable def Binds (K : PySem.W.Frag) (fd : FuncData) (ps : List Str) (ds : List Value) : Prop :=
  ∀ (s : Shared) (us : List Value), K.In s.heap → (us ++ ds).length = ps.length → BindsTo s fd ⟨us, []⟩ (ps.zip (us ++ ds))
theorem Binds.all {K : PySem.W.Frag} {fd : FuncData} {ps : List Str} (h : ∀ us : List Value, us.length = ps.length → bindArgs fd ⟨us, []⟩ = pure (ps.zip us)) : Binds K fd ps [] := fun s us _ hl => by
  rw [List.append_nil] at hl ⊢
  exact .of_eq (h us hl)
noncomputable def Passes (CX : CXT) (X : Cx) (E : XK) : Prop := ∀ (pins : List (Addr × Obj)) (σ : St) (H : Hp) (s : Shared) (e : Value) (s' : Shared), Inv X pins σ H s → CX X.stack H s E e s' → X.xe e s'
section
variable {X : Cx} {CX : CXT} {k : Nat} {f C : Addr} {fd : FuncData} {ps : List Str} {sp : Sp} {dvs : List V} {ds : List Value} {E : XK} {x m : Str} {p pos apos : Pos} {e o : Expr} {es : List Expr} {ta : TE} {t : TA}
theorem run_fn {pins : List (Addr × Obj)} {σ : St} {H : Hp} {s : Shared} {Q : VK} {us : List Value} {vs : List V} (F : FnOk X.prog X.w X.K X.mg X.base CX k f fd ps sp) (hr : Room k X.A) (hb : Binds X.K fd ps ds) (hd : Vals dvs ds) (hx : Passes CX X E)
    (I : Inv X pins σ H s) (r : Vals vs us) (h : sp (vs ++ dvs) H Q E) : wpAny (model X.prog X.w) X.A (call (.ref f) us) (EP X pins σ Q) X.xe s := by
  have r2 : Vals (vs ++ dvs) (us ++ ds) := r.append hd
  have hl : (us ++ ds).length = ps.length := by rw [← r2.length]; exact F.len _ _ _ _ h
  refine wpAny_call (codeAny_mono (F.run X.A X.stack s H ⟨us, []⟩ (us ++ ds) (vs ++ dvs) Q E hr I.env0 (hb s us I.kIn hl) r2 h) fun r s' hq => ?_)
  cases r with
  | error e => exact hx pins σ H s e s' I hq
  | ok fl =>
    cases fl with
    | ret u => exact I.after hq
    | next => exact False.elim hq
    | brk => exact False.elim hq
    | cont => exact False.elim hq
theorem pe_call (F : FnOk X.prog X.w X.K X.mg X.base CX k f fd ps sp) (hr : Room k X.A) (hg : Gl X x) (hm : X.mg x = some (.ref f)) (hk : PySem.W.keepIn X.K (.ref f) = true) (hb : Binds X.K fd ps ds) (hd : Vals dvs ds) (hx : Passes CX X E)
    (ha : PA X (e :: es) t) (hdb : (x == ("__debug__" : Str)) = false := by decide) (he : starEach (e :: es) X.env = (false, eval e X.env) :: starEach es X.env := by rfl) (hpl : (backTo pos (starEach es X.env)).any (·.1) = false := by rfl) :
    PE X (.Call (.Name x p) (e :: es) [] pos) (tCall sp dvs E t) := by
  intro pins s σ H Q I h
  refine wpAny_Call_Name_kw (ld_glob I hg hm ?_ hdb)
  refine PySem.W.callWith_K (h₀ := X.base) I.ok.mod.kin hk (thn (ha pos pins s σ H _ I h) fun us s1 ⟨vs, H1, I1, r, q⟩ => ⟨I1.kIn, ?_⟩) he hpl
  exact run_fn F hr hb hd hx I1 r q
end
noncomputable def PK (X : Cx) (kws : List Keyword) (t : TA) : Prop :=
  ∀ (pos : Pos) (pins : List (Addr × Obj)) (s : Shared) (σ : St) (H : Hp) (Q : List V → Hp → Prop), Inv X pins σ H s → t σ H Q → wpAny (model X.prog X.w) X.A (evalAll ((backToKw pos (keywordEach kws X.env)).map (·.2))) (AP X pins σ Q) X.xe s
section
variable {X : Cx} {CX : CXT} {k : Nat} {f C : Addr} {fd : FuncData} {ps ks : List Str} {sp : Sp} {E : XK} {x m : Str} {p pos apos kpos : Pos} {e o : Expr} {es : List Expr} {kws : List Keyword} {te ta : TE} {t tk : TA} {nm : Option Str}
theorem pk_nil : PK X [] tNil := fun _ _ _ _ H Q I h => wpAny_evalAll_nil ⟨[], H, I, .nil, h⟩
theorem pk_cons (ha : PE X e te) (hr : PK X kws t) : PK X (⟨nm, e, kpos⟩ :: kws) (tCons te t) := by
  intro pos pins s σ H Q I h
  show wpAny _ _ (evalAll ((do let v ← eval e X.env; standAt pos; pure v) :: (backToKw pos (keywordEach kws X.env)).map (·.2))) _ _ s
  refine wpAny_evalAll_cons (wpAny_bind (thn (ha pins s σ H _ I h) fun u s1 ⟨x, H1, I1, r1, q1⟩ => wpAny_bind (wpAny_standAt (wpAny_pure ?_))))
  exact thn (hr pos pins s1 σ H1 _ I1 q1) fun us s2 ⟨xs, H2, I2, r2, q2⟩ => ⟨x :: xs, H2, I2, .cons r1 r2, q2⟩
variable {g : List Value → List Value → List Value} {gV : List V → List V → List V}
end
structure FnScope (N P : List Str) (sc : Scope) : Prop where
  kind : sc.kind = .function
  co : sc.isCoroutine = false
  gen : sc.isGenerator = false
  nd : N.Nodup
  pre : N.take P.length = P
  par : ∀ x ∈ P, sc.names.lookup x = some .local ∨ sc.names.lookup x = some .cell
  nofree : ∀ y ∈ sc.names, y.2 ≠ .free
theorem bindL_out {kindOf : Str → Option NameKind} {x : Str} : ∀ {binds : List (Str × Value)} {m : Str → Option Value}, (∀ v, (x, v) ∉ binds) → bindL kindOf binds m x = m x
  | [], _, _ => rfl
  | (n, v) :: r, m, h => by
    unfold bindL
    rw [bindL_out fun w hw => h w (List.mem_cons_of_mem _ hw)]
    split
    · have : x ≠ n := by rintro rfl; exact h v List.mem_cons_self
      simp [this]
    · rfl
theorem bindC_out {kindOf : Str → Option NameKind} {x : Str} : ∀ {binds : List (Str × Value)} {m : Str → Option Value}, (∀ v, (x, v) ∉ binds) → bindC kindOf binds m x = m x
  | [], _, _ => rfl
  | (n, v) :: r, m, h => by
    unfold bindC
    rw [bindC_out fun w hw => h w (List.mem_cons_of_mem _ hw)]
    split
    · rfl
    · have : x ≠ n := by rintro rfl; exact h v List.mem_cons_self
      simp [this]
theorem bindL_get {kindOf : Str → Option NameKind} {x : Str} {v : Value} : ∀ {P : List Str} {vs : List Value} {i : Nat} {m : Str → Option Value}, P.Nodup → P[i]? = some x → vs[i]? = some v → kindOf x = some .local →
    bindL kindOf (P.zip vs) m x = some v
  | [], _, _, _, _, h, _, _ => by simp at h
  | _ :: _, [], _, _, _, _, h, _ => by simp at h
  | p :: P, w :: vs, 0, m, nd, h1, h2, hk => by
    simp at h1 h2; subst h1; subst h2
    show bindL kindOf ((p, w) :: P.zip vs) m p = _
    unfold bindL
    rw [bindL_out fun v hv => (List.nodup_cons.mp nd).1 (List.of_mem_zip hv).1, if_pos hk]
    simp
  | p :: P, w :: vs, i + 1, m, nd, h1, h2, hk => by
    show bindL kindOf ((p, w) :: P.zip vs) m x = _
    unfold bindL
    exact bindL_get (i := i) (List.nodup_cons.mp nd).2 (by simpa using h1) (by simpa using h2) hk
theorem bindC_get {kindOf : Str → Option NameKind} {x : Str} {v : Value} : ∀ {P : List Str} {vs : List Value} {i : Nat} {m : Str → Option Value}, P.Nodup → P[i]? = some x → vs[i]? = some v → kindOf x ≠ some .local →
    bindC kindOf (P.zip vs) m x = some v
  | [], _, _, _, _, h, _, _ => by simp at h
  | _ :: _, [], _, _, _, _, h, _ => by simp at h
  | p :: P, w :: vs, 0, m, nd, h1, h2, hk => by
    simp at h1 h2; subst h1; subst h2
    show bindC kindOf ((p, w) :: P.zip vs) m p = _
    unfold bindC
    rw [bindC_out fun v hv => (List.nodup_cons.mp nd).1 (List.of_mem_zip hv).1, if_neg hk]
    simp
  | p :: P, w :: vs, i + 1, m, nd, h1, h2, hk => by
    show bindC kindOf ((p, w) :: P.zip vs) m x = _
    unfold bindC
    exact bindC_get (i := i) (List.nodup_cons.mp nd).2 (by simpa using h1) (by simpa using h2) hk
noncomputable def start (N : List Str) (vs : List V) : St := vs.map some ++ List.replicate (N.length - vs.length) none
noncomputable def cxOf (CX : CXT) (P : Program) (w : World) (K : PySem.W.Frag) (mg : Str → Option Value) (base : Heap) (N : List Str) (qual : Str) (scope : Scope) (f : Addr) (cd : Value) (A : Around) (outer : List Env) (s : Shared) (H : Hp) (E : XK) : Cx where
  prog := P
  w := w
  K := K
  mg := mg
  base := base
  A := A.deeper (envOfC qual scope s.heap.objs.size f cd)
  N := N
  s₀ := s
  H₀ := H
  env := envOfC qual scope s.heap.objs.size f cd
  outer := outer
  stack := envOfC qual scope s.heap.objs.size f cd :: outer
  ex := []
  calm := true
  fn := fun _ => true
  pn := []
  xe := fun e s' => wpAny (model P w) (A.deeper (envOfC qual scope s.heap.objs.size f cd)) (leaving (envOfC qual scope s.heap.objs.size f cd) e) (fun _ s'' => CX outer H s E e s'') (fun e' s'' => CX outer H s E e' s'') s'
theorem cell_has {sc : Scope} {n : Nat} {x : Str} (h : sc.names.lookup x = some .cell) : ∃ c, (cellsFrom n sc.names []).lookup x = some c := by
  have q := PySem.W.cellsFrom_some sc.names n [] (.inl h)
  exact Option.isSome_iff_exists.mp q
theorem inv_start {CX : CXT} {P : Program} {w : World} {K : PySem.W.Frag} {mg : Str → Option Value} {base : Heap} {N ps : List Str} {qual : Str} {scope : Scope} {f : Addr} {cd : Value} {A : Around} {outer : List Env} {s s1 : Shared} {H : Hp} {E : XK} {us : List Value} {vs : List V}
    (S : FnScope N ps scope) (hd : A.handled = none) (e0 : Env0 P w K mg base A outer s H) (hl : vs.length = ps.length) (r : Vals vs us)
    (x : InCallC s s.heap.objs.size (bindL (envOfC qual scope s.heap.objs.size f cd).kindOf (ps.zip us) fun _ => none) (cellsFrom (s.heap.objs.size + 1) scope.names []) (bindC (envOfC qual scope s.heap.objs.size f cd).kindOf (ps.zip us) fun _ => none) s1) :
    Inv (cxOf CX P w K mg base N qual scope f cd A outer s H E) [] (start N vs) H s1 := by
  have hpl : ps.length ≤ N.length := by have := congrArg List.length S.pre; rw [List.length_take] at this; omega
  obtain ⟨h1, tk, rfl, hk⟩ := x.done
  have noA : ∀ b : Addr, b ∉ (cxOf CX P w K mg base N qual scope f cd A outer s H E).ex := fun b z => absurd (show b ∈ ([] : List Addr) from z) (by simp)
  refine ⟨⟨e0.mod, S.kind, rfl, rfl, Nat.le_refl _, fun y z c h1 h2 => ?_, fun y hy => ?_, fun y c _ h => ?_, fun _ => hd, Around.frames_deeper e0.frames, .inr ⟨rfl, rfl⟩, fun b z => absurd z (noA b), e0.bs, e0.bsz, fun b _ _ => noA b, fun b z => absurd z (noA b), e0.funs, e0.frf⟩,
    rfl, e0.bare, Un.kept hk, ⟨_, x.toInCall.ns, fun i y v h1 h2 h3 => ?_⟩, fun y c h => ⟨_, x.cell y c h⟩, e0.hok.fresh (Nat.le_refl _), fun y c h => ?_, fun p hp => absurd (show p ∈ ([] : List (Addr × Obj)) from hp) (by simp), e0.hok.kept hk, ?_⟩
  · exact name_of_addr x.apart (PySem.mem_of_lookup h1) (PySem.mem_of_lookup h2)
  · have hy : scope.names.lookup y = some .cell ∨ scope.names.lookup y = some .free := hy
    rcases hy with hy | hy
    · exact cell_has hy
    · exact absurd rfl (S.nofree _ (PySem.mem_of_lookup hy))
  · exact Nat.le_of_lt (x.above y c (PySem.mem_of_lookup h))
  · have hi : i < vs.length := by
      unfold start at h2
      by_cases hi : i < vs.length
      · exact hi
      · rw [List.getElem?_append_right (by simpa using hi)] at h2
        rw [List.getElem?_replicate] at h2
        split at h2 <;> cases h2
    have ha : vs[i]? = some v := by
      unfold start at h2
      rw [List.getElem?_append_left (by simpa using hi), List.getElem?_map] at h2
      cases e : vs[i]? with
      | none => rw [e] at h2; cases h2
      | some a => rw [e] at h2; cases h2; rfl
    obtain ⟨u, hu, rv⟩ := r.get ha
    have hp : ps[i]? = some y := by
      rw [← S.pre, List.getElem?_take_of_lt (by omega)]; exact h1
    have ndP : ps.Nodup := by rw [← S.pre]; exact S.nd.sublist (List.take_sublist _ _)
    refine ⟨u, rv, ?_⟩
    rcases S.par y (List.mem_of_getElem? hp) with k | k
    · exact .inl ⟨k, bindL_get ndP hp hu k⟩
    · obtain ⟨c, e⟩ := cell_has (n := s.heap.objs.size + 1) k
      refine .inr ⟨.inl k, c, e, ?_⟩
      have q := x.cell y c e
      rw [bindC_get ndP hp hu (by show scope.names.lookup y ≠ _; rw [k]; decide)] at q
      exact q
  · exact e0.hok.fresh (Nat.le_of_lt (x.above y c (PySem.mem_of_lookup h)))
  · unfold start
    show _ = N.length
    rw [List.length_append, List.length_map, List.length_replicate]
    omega
theorem fn_of {CX : CXT} {P : Program} {w : World} {K : PySem.W.Frag} {mg : Str → Option Value} {base : Heap} {k : Nat} {f : Addr} {name qual : Str} {params : Arguments} {body : List Stmt} {scope : Scope} {dV kV doc pm cdv ct oc : Value} {an od : Option Addr}
    {osl : Array (Option Value)} {N ps : List Str} {sp : Sp} (lk : K.lookup f = some ⟨oc, od, .func (PySem.W.fnOf name qual params body scope dV kV doc pm an cdv ct), osl⟩) (hcd : PySem.W.codeIn K cdv qual = true) (S : FnScope N ps scope)
    (len : ∀ vs H Q E, sp vs H Q E → vs.length = ps.length)
    (hbody : ∀ (A : Around) (outer : List Env) (s : Shared) (H : Hp) (vs : List V) (Q : VK) (E : XK), Room k (A.deeper (envOfC qual scope s.heap.objs.size f cdv)) → sp vs H Q E →
      ∃ t, PSs (cxOf CX P w K mg base N qual scope f cdv A outer s H E) body t ∧ t { nx := fun _ H' => Q .non H', rt := Q } (start N vs) H) :
    FnOk P w K mg base CX (k + 1) f (PySem.W.fnOf name qual params body scope dV kV doc pm an cdv ct) ps sp := by
  refine ⟨len, fun A outer s H args us vs Q E hr e0 hb r hsp => ?_⟩
  have hl := len _ _ _ _ hsp
  have KX : K.In s.heap := e0.mod.kin.keeps fun b o e => (e0.bs b o e).1
  have lim : s.heap.NoLimit := e0.mod.nolimit.keeps fun b o e => (e0.bs b o e).1
  have hkind : ∀ y ∈ ps.zip us, scope.names.lookup y.1 = some .local ∨ (scope.names.lookup y.1 = some .cell ∧ ((cellsFrom (s.heap.objs.size + 1) scope.names []).lookup y.1).isSome = true) := fun ⟨n, v⟩ hy => by
    rcases S.par n (List.of_mem_zip hy).1 with q | q
    · exact .inl q
    · exact .inr ⟨q, PySem.W.cellsFrom_some _ _ _ (.inl q)⟩
  refine codeAny_call_function hr.depth (KX _ _ lk) rfl S.co S.gen rfl (PySem.W.codeRec_of KX hcd) (hb _ _ _ _ ?_)
  refine wpAny_newFunctionEnv_cells S.kind hkind fun env he s1 x => ?_
  subst he
  refine ⟨lim.keeps x.toInCall.keep, codeAny_func ?_⟩
  obtain ⟨t, ht, hq⟩ := hbody A outer s H vs Q E (hr.deeper _) hsp
  have I : Inv (cxOf CX P w K mg base N qual scope f cdv A outer s H E) [] (start N vs) H s1 := inv_start S hr.hd e0 hl r x
  refine wpAny_mono (ht [] s1 (start N vs) H _ I hq) (fun fl s' hs => ?_) fun e s' hs => hs
  have fin : ∀ {σ' : St} {H' : Hp} {v : V} {u : Value}, Inv (cxOf CX P w K mg base N qual scope f cdv A outer s H E) [] σ' H' s' → RelV v u → Q v H' → CE outer P w H s Q u s' :=
    fun {σ' H' v u} J rv q => ⟨v, H', J.os, J.bare, J.base, J.hok, rv, q⟩
  cases fl with
  | ret u =>
    obtain ⟨v, σ', H', J, rv, q⟩ := hs
    exact fin J rv q
  | next =>
    obtain ⟨σ', H', J, q⟩ := hs
    exact fin (v := V.non) (u := Value.none) J rfl q
  | brk =>
    obtain ⟨_, _, _, q⟩ := hs
    exact False.elim q
  | cont =>
    obtain ⟨_, _, _, q⟩ := hs
    exact False.elim q
end L2
namespace L2
open PySem PySem.Spec PyProof.Rows
section
variable {X : Cx} {x : Str} {p pos : Pos} {e : Expr} {es : List Expr} {t : TA} {id T : String} {r : List V → Hp → VK → Prop}
noncomputable def tCB (r : List V → Hp → VK → Prop) (t : TA) : TE := fun σ H Q => t σ H fun vs H1 => r vs H1 Q
theorem pe_callB (hc : CallR X (.builtin id) r) (hg : Gl X x) (hm : X.mg x = none) (hv : bootBuiltins x = some (.builtin id)) (ha : PA X (e :: es) t) (hn : x ≠ "__name__" := by decide) (hdb : (x == ("__debug__" : Str)) = false := by decide)
    (he : starEach (e :: es) X.env = (false, eval e X.env) :: starEach es X.env := by rfl) (hpl : (backTo pos (starEach es X.env)).any (·.1) = false := by rfl) : PE X (.Call (.Name x p) (e :: es) [] pos) (tCB r t) := by
  intro pins s σ H Q I h
  refine wpAny_Call_Name_kw (ld_blt I hg hm hv ?_ hn hdb)
  exact PyProof.Rows.callWith_builtin1 (thn (ha pos pins s σ H _ I h) fun us s1 ⟨vs, H1, I1, r1, q1⟩ => hc pins s1 σ H1 vs us Q I1 r1 q1) he hpl
theorem pe_callTy (hc : CallR X (.type T) r) (hg : Gl X x) (hm : X.mg x = none) (hv : bootBuiltins x = some (.type T)) (ha : PA X (e :: es) t) (hn : x ≠ "__name__" := by decide) (hdb : (x == ("__debug__" : Str)) = false := by decide)
    (he : starEach (e :: es) X.env = (false, eval e X.env) :: starEach es X.env := by rfl) (hpl : (backTo pos (starEach es X.env)).any (·.1) = false := by rfl) : PE X (.Call (.Name x p) (e :: es) [] pos) (tCB r t) := by
  intro pins s σ H Q I h
  refine wpAny_Call_Name_kw (ld_blt I hg hm hv ?_ hn hdb)
  exact PyProof.Rows.callWith_type1 (thn (ha pos pins s σ H _ I h) fun us s1 ⟨vs, H1, I1, r1, q1⟩ => hc pins s1 σ H1 vs us Q I1 r1 q1) he hpl
end
end L2
namespace HT
open PySem PyProof.Rows
section
open PySem.SeqAt
open PySem.AutoSeq1 (wpAny_loadPart')
open PySem.MeetsSeq PySem.MeetsSeq2 PySem.MeetsSeq3
end
section
variable {prog : Program} {w : World} {A : Around} {E : Value → Shared → Prop} {s : Shared}
noncomputable def sIx (n d : Nat) : Option Int → Nat
  | none => d
  | some v => if v < 0 then (v + (n : Int)).toNat else min v.toNat n
end
end HT
namespace L2
open PySem PySem.Spec PyProof.Rows
noncomputable abbrev TO := St → Hp → (Option Int → Hp → Prop) → Prop
section
variable {X : Cx} {e : Expr} {te : TE} {lo hi : Option Expr} {tl th : TO} {pos p2 : Pos}
noncomputable def SlR (X : Cx) (r : V → Option Int → Option Int → Hp → VK → Prop) : Prop :=
  ∀ (pins : List (Addr × Obj)) (s : Shared) (σ : St) (H : Hp) (x : V) (v vl vu : Value) (lo hi : Option Int) (sl : Addr) (Q : VK), Inv X pins σ H s → RelV x v → s.heap.IsSliceOf sl vl vu .none → IsPart vl lo → IsPart vu hi → r x lo hi H Q →
    ∃ T id, typeLookup (.type T) "__getitem__" = pure (some (.builtin id)) ∧ s.TypeIs v T ∧ wpAny (model X.prog X.w) X.A (getItem v (.ref sl)) (EP X pins σ Q) X.xe s
noncomputable def cutV (xs : List V) (lo hi : Option Int) : List V := (xs.drop (HT.sIx xs.length 0 lo)).take (HT.sIx xs.length xs.length hi - HT.sIx xs.length 0 lo)
theorem cutV_length (xs : List V) (lo hi : Option Int) : (cutV xs lo hi).length ≤ xs.length := by
  unfold cutV
  rw [List.length_take, List.length_drop]
  omega
end
end L2
namespace L2
open PySem PySem.Spec PyProof.Rows
noncomputable def ixN (n : Nat) (i : Int) : Option Nat := if 0 ≤ i then (if i < n then some i.toNat else none) else if -(n : Int) ≤ i then some (i + n).toNat else none
noncomputable def atI {α : Type} (xs : List α) (i : Int) : Option α := (ixN xs.length i).bind fun j => xs[j]?
theorem ixN_seq {n : Nat} {i : Int} {j : Nat} (h : ixN n i = some j) : seqIndex? i n = some j ∧ j < n ∧ -(n : Int) ≤ i ∧ i < n := by
  unfold ixN at h
  by_cases h0 : 0 ≤ i
  · rw [if_pos h0] at h
    by_cases h1 : i < n
    · rw [if_pos h1] at h
      have e : i.toNat = j := Option.some.inj h
      exact ⟨by rw [seqIndex_of h0 h1, e], by omega, by omega, h1⟩
    · rw [if_neg h1] at h; cases h
  · rw [if_neg h0] at h
    by_cases h1 : -(n : Int) ≤ i
    · rw [if_pos h1] at h
      have e : (i + n).toNat = j := Option.some.inj h
      exact ⟨by rw [seqIndex_neg (by omega) h1, e], by omega, h1, by omega⟩
    · rw [if_neg h1] at h; cases h
theorem atI_get {α : Type} {xs : List α} {i : Int} {v : α} (h : atI xs i = some v) : ∃ j, seqIndex? i xs.length = some j ∧ xs[j]? = some v ∧ j < xs.length ∧ -(xs.length : Int) ≤ i ∧ i < xs.length := by
  unfold atI at h
  cases e : ixN xs.length i with
  | none => rw [e] at h; cases h
  | some j =>
    rw [e] at h
    obtain ⟨h1, h2, h3, h4⟩ := ixN_seq e
    exact ⟨j, h1, h, h2, h3, h4⟩
noncomputable def PlainIx (b : Expr) : Prop := ∀ o i, subscripted b false o i = operate [o, i] (getItem o i)
noncomputable def IxR (X : Cx) (r : R2) : Prop :=
  ∀ (value slice : Expr) (pins : List (Addr × Obj)) (s : Shared) (σ : St) (H : Hp) (x y : V) (v u : Value) (Q : VK), Inv X pins σ H s → RelV x v → RelV y u → r x y H Q →
    subscripted slice false v u = operate [v, u] (getItem v u) → wpAny (model X.prog X.w) X.A (subscriptTail value slice v u) (EP X pins σ Q) X.xe s
noncomputable def MtR (X : Cx) (id : String) (r : V → List V → Hp → VK → Prop) : Prop :=
  ∀ (pins : List (Addr × Obj)) (s : Shared) (σ : St) (H : Hp) (x : V) (xs : List V) (v : Value) (us : List Value) (Q : VK), Inv X pins σ H s → RelV x v → Vals xs us → r x xs H Q →
    wpAny (model X.prog X.w) X.A (call (.builtin id) (v :: us)) (EP X pins σ Q) X.xe s
section
variable {X : Cx} {a b : Expr} {ta tb : TE} {pos : Pos}
theorem IxR.or {r r' : R2} (h : IxR X r) (h' : IxR X r') : IxR X (fun x y H Q => r x y H Q ∨ r' x y H Q) := by
  intro value slice pins s σ H x y v u Q I rx ry q hs
  rcases q with q | q
  · exact h value slice pins s σ H x y v u Q I rx ry q hs
  · exact h' value slice pins s σ H x y v u Q I rx ry q hs
theorem pe_ix {r : R2} (hr : IxR X r) (ha : PE X a ta) (hb : PE X b tb) (hs : PlainIx b) : PE X (.Subscript a b pos) (tOp r ta tb) := by
  intro pins s σ H Q I h
  exact Subscript_ (binT ha hb I h fun v u s2 x y H2 I2 rx ry q => hr a b pins s2 σ H2 x y v u Q I2 rx ry q (hs _ _))
noncomputable def rIxL (K : PySem.W.Frag) : R2 := fun x y H Q => ∃ p xs i v, x = .ref p ∧ y = .int i ∧ SqL K H p xs ∧ atI xs i = some v ∧ Q v H
noncomputable def rIxT (K : PySem.W.Frag) : R2 := fun x y H Q => ∃ p xs i v, x = .ref p ∧ y = .int i ∧ SqT K H p xs ∧ atI xs i = some v ∧ Q v H
noncomputable def rIxS : R2 := fun x y H Q => ∃ z i c, x = .str z ∧ y = .int i ∧ z.length ≤ sizeLine ∧ atI z.cps.toList i = some c ∧ Q (.str ⟨#[c]⟩) H
theorem ix_list : IxR X (rIxL X.K) := by
  intro value slice pins s σ H x y v u Q I rx ry h hs
  obtain ⟨p, xs, i, z, rfl, rfl, hq, he, q⟩ := h
  cases rx
  obtain ⟨t, rfl⟩ := ry
  obtain ⟨its, r, pl, hz⟩ := I.list hq
  obtain ⟨j, h1, h2, h3, h4, h5⟩ := atI_get he
  obtain ⟨w, ew, rw'⟩ := r.get h2
  have hl := r.length
  have hn := line63
  have fin : EP X pins σ Q w s := ⟨z, H, I, rw', q⟩
  by_cases h0 : 0 ≤ i
  · have hj : i.toNat = j := by
      rw [seqIndex_of h0 h5] at h1
      exact Option.some.inj h1
    exact item_listR pl.isList h0 (by omega) (by rw [hj]; simpa using ew) fin hs
  · have hj : (i + (its.toArray.size : Int)).toNat = j := by
      rw [seqIndex_neg (by omega) h4] at h1
      rw [List.size_toArray, ← hl]
      exact Option.some.inj h1
    exact subscriptTail_builtinR (x := w) pl.isList.typeIs slot_list_getitem.lookup
      (wpAny_getItem_list_neg (Q := fun r s' => r = w ∧ EP X pins σ Q r s') pl.isList (by omega) (by rw [List.size_toArray] <;> omega) (by omega) (by rw [hj]; simpa using ew) ⟨rfl, fin⟩) hs
theorem ix_tup : IxR X (rIxT X.K) := by
  intro value slice pins s σ H x y v u Q I rx ry h hs
  obtain ⟨p, xs, i, z, rfl, rfl, hq, he, q⟩ := h
  cases rx
  obtain ⟨t, rfl⟩ := ry
  obtain ⟨its, r, pl, hz⟩ := I.tuple hq
  obtain ⟨j, h1, h2, h3, h4, h5⟩ := atI_get he
  obtain ⟨w, ew, rw'⟩ := r.get h2
  have hl := r.length
  have hn := line63
  have fin : EP X pins σ Q w s := ⟨z, H, I, rw', q⟩
  exact subscriptTail_builtinR (x := w) pl.typeIs slot_tuple_getitem.lookup
    (getItem_tuple (j := j) (Q := fun r s' => r = w ∧ EP X pins σ Q r s') pl (by omega) (by omega) (by rw [List.size_toArray, ← hl]; exact h1) (by simpa using ew) ⟨rfl, fin⟩) hs
theorem ix_str : IxR X rIxS := by
  intro value slice pins s σ H x y v u Q I rx ry h hs
  obtain ⟨z, i, c, rfl, rfl, hz, he, q⟩ := h
  obtain ⟨t, rfl⟩ := rx
  obtain ⟨t', rfl⟩ := ry
  obtain ⟨j, h1, h2, h3, h4, h5⟩ := atI_get he
  have hl : z.cps.toList.length = z.length := by simp [Str.length]
  rw [hl] at h1 h4 h5
  have hn := line63
  exact tail_any (typeIs_str s z t) slot_str_getitem.lookup (getItem_str (c := c) (by
    have e1 : decide (i < -(2 ^ 63 : Int)) = false := decide_eq_false (by omega)
    have e2 : decide (i ≥ 2 ^ 63) = false := decide_eq_false (by omega)
    rw [e1, e2, Bool.or_false]) (by rw [h1]; simpa using h2) ⟨.str ⟨#[c]⟩, H, I.tok _, ⟨_, rfl⟩, q⟩) hs
noncomputable def rIx (K : PySem.W.Frag) : R2 := fun x y H Q => rIxL K x y H Q ∨ rIxT K x y H Q ∨ rIxS x y H Q
theorem ix_seq : IxR X (rIx X.K) := ix_list.or (ix_tup.or ix_str)
theorem mapSeq_set (its : List Value) (n j : Nat) (u : Value) : Obj.mapSeq (·.setIfInBounds j u) { cls := .type "list", data := .seq its.toArray n } = { cls := .type "list", data := .seq (its.set j u).toArray n } := by
  simp [Obj.mapSeq]
theorem Inv.lst {pins : List (Addr × Obj)} {σ : St} {H : Hp} {s : Shared} {p : Addr} {xs : List V} (I : Inv X pins σ H s) (h : H p = some (.lst xs)) :
    ∃ (its : List Value) (n : Nat), Vals xs its ∧ s.heap.get? p = some { cls := .type "list", data := .seq its.toArray n } ∧ xs.length ≤ sizeLine := by
  obtain ⟨z, its, n, r, e⟩ := I.hok p _ h
  exact ⟨its, n, r, e, z⟩
theorem Inv.lstUpd {pins : List (Addr × Obj)} {σ : St} {H : Hp} {s : Shared} {p : Addr} {xs ys : List V} {its its' : List Value} {n n' : Nat} {f : Obj → Obj} (I : Inv X pins σ H s) (h : H p = some (.lst xs))
    (ho : s.heap.get? p = some { cls := .type "list", data := .seq its.toArray n }) (hf : f { cls := .type "list", data := .seq its.toArray n } = { cls := .type "list", data := .seq its'.toArray n' }) (r : Vals ys its') (hz : ys.length ≤ sizeLine) (t : Nat) :
    Inv X pins σ (upd H p (.lst ys)) { s with heap := s.heap.update p f, toks := t } := by
  have e : (s.heap.update p f).get? p = some { cls := .type "list", data := .seq its'.toArray n' } := by
    rw [Heap.get?_update_self f ho (by rw [hf] <;> rfl), hf]
  refine I.write (x := p) (e := p) (by rw [h]; trivial) (.inl rfl) (fun b u hb q => (Heap.get?_update_other _ _ (Ne.symm hb)).trans q) ⟨_, e⟩ ?_
  exact ⟨hz, its', n', r, e⟩
noncomputable def rSetL : V → V → V → Hp → (Hp → Prop) → Prop := fun o i v H Q => ∃ p xs k j, o = .ref p ∧ i = .int k ∧ H p = some (.lst xs) ∧ ixN xs.length k = some j ∧ Q (upd H p (.lst (xs.set j v)))
theorem set_list : PSet X rSetL := by
  intro pins s σ H o i v ov iv u Q I ro ri rv h
  obtain ⟨p, xs, k, j, rfl, rfl, hp, hj, q⟩ := h
  cases ro
  obtain ⟨t, rfl⟩ := ri
  obtain ⟨its, n, r, ho, hz⟩ := I.lst hp
  obtain ⟨h1, h2, h3, h4⟩ := ixN_seq hj
  have hl := r.length
  have hn := line63
  have I' : Inv X pins σ (upd H p (.lst (xs.set j v))) { s with heap := s.heap.update p (Obj.mapSeq (·.setIfInBounds j u)) } :=
    I.lstUpd hp ho (mapSeq_set its n j u) (r.set rv j) (by rw [List.length_set]; exact hz) s.toks
  by_cases h0 : 0 ≤ k
  · have hk : k.toNat = j := by
      rw [seqIndex_of h0 h4] at h1
      exact Option.some.inj h1
    exact PySem.W.ki_setAt ho h0 (by omega) (by rw [List.size_toArray, ← hl]; exact h4) (by rw [hk]; exact ⟨_, I', q⟩)
  · have hk : (k + (its.toArray.size : Int)).toNat = j := by
      rw [seqIndex_neg (by omega) h3] at h1
      rw [List.size_toArray, ← hl]
      exact Option.some.inj h1
    exact PySem.W.ki_setBack ho (by omega) (by rw [List.size_toArray, ← hl]; exact h3) (by omega) (by rw [hk]; exact ⟨_, I', q⟩)
theorem slice_bounds (lo hi : Option Int) (n : Nat) : (sliceBounds lo hi none n).1 = ((HT.sIx n 0 lo : Nat) : Int) ∧ (sliceBounds lo hi none n).2.1 = ((HT.sIx n n hi : Nat) : Int) ∧ (sliceBounds lo hi none n).2.2 = 1 := by
  refine ⟨?_, ?_, rfl⟩
  · cases lo with
    | none => simp [sliceBounds, HT.sIx]
    | some i =>
      simp only [sliceBounds, HT.sIx, Option.getD_none, show (1 : Int) > 0 by decide, if_true]
      by_cases h : i < 0
      · simp only [h, if_true] <;> omega
      · simp only [h, if_false] <;> omega
  · cases hi with
    | none => simp [sliceBounds, HT.sIx]
    | some i =>
      simp only [sliceBounds, HT.sIx, Option.getD_none, show (1 : Int) > 0 by decide, if_true]
      by_cases h : i < 0
      · simp only [h, if_true] <;> omega
      · simp only [h, if_false] <;> omega
theorem slicePick_cut (its : List Value) (lo hi : Option Int) : slicePick its.toArray lo hi none = ((its.drop (HT.sIx its.length 0 lo)).take (HT.sIx its.length its.length hi - HT.sIx its.length 0 lo)).toArray := by
  obtain ⟨h1, h2, h3⟩ := slice_bounds lo hi its.toArray.size
  unfold slicePick
  rw [h1, h2, h3]
  simp only [sliceRange_one, pick_run, List.size_toArray] <;> rfl
noncomputable def rSlL (K : PySem.W.Frag) : V → Option Int → Option Int → Hp → VK → Prop := fun x lo hi H Q => ∃ a xs, x = .ref a ∧ SqL K H a xs ∧ ∀ p, H p = none → Q (.ref p) (upd H p (.lst (cutV xs lo hi)))
theorem sl_list : SlR X (rSlL X.K) := by
  intro pins s σ H x v vl vu lo hi sl Q I rx hs pl pu h
  obtain ⟨a, xs, rfl, hx, q⟩ := h
  cases rx
  obtain ⟨its, r, ht, hz⟩ := I.list hx
  have hlen := r.length
  refine ⟨"list", _, slot_list_getitem.lookup, ht.isList.typeIs, ?_⟩
  refine wpAny_getItem_list_slice ht.isList hs pl pu .none (by simp) ?_ (by rw [List.size_toArray] <;> omega)
  rw [slicePick_cut, ← hlen]
  refine ⟨.ref s.heap.objs.size, _, I.laid (t' := s.toks) (o := .lst (cutV xs lo hi)) (fun b ob q => Heap.get?_push_of_some _ q) (Nat.le_refl _) ?_, rfl, q _ (I.hok.fresh (Nat.le_refl _))⟩
  exact ⟨Nat.le_trans (cutV_length xs lo hi) hz, _, 0, (r.drop (HT.sIx xs.length 0 lo)).take (HT.sIx xs.length xs.length hi - HT.sIx xs.length 0 lo), Heap.get?_push_size _ rfl⟩
theorem call_len_seq : CallR X (.builtin "len") (fun xs H Q => ∃ p ys, xs = [.ref p] ∧ (SqL X.K H p ys ∨ SqT X.K H p ys) ∧ Q (.int ys.length) H) := by
  intro pins s σ H xs us Q I r h
  obtain ⟨p, ys, rfl, hq, q⟩ := h
  obtain ⟨u, rfl, rx⟩ := vals1 r
  cases rx
  have hn := line63
  rcases hq with hq | hq
  · obtain ⟨its, r', pl, hz⟩ := I.list hq
    have hlen := r'.length
    exact Calls.call_len_list pl.isList (by simp only [List.size_toArray] <;> omega) ⟨.int ys.length, H, I.tok _, ⟨s.toks + 1, by rw [List.size_toArray, hlen]⟩, q⟩
  · obtain ⟨its, r', pl, hz⟩ := I.tuple hq
    have hlen := r'.length
    exact len_tuple pl (by simp only [List.size_toArray] <;> omega) ⟨.int ys.length, H, I.tok _, ⟨s.toks + 1, by rw [List.size_toArray, hlen]⟩, q⟩
theorem call_list_of : CallR X (.type "list") (fun xs H Q => ∃ p ys, xs = [.ref p] ∧ (SqL X.K H p ys ∨ SqT X.K H p ys) ∧ ∀ l, H l = none → Q (.ref l) (upd H l (.lst ys))) := by
  intro pins s σ H xs us Q I r h
  obtain ⟨p, ys, rfl, hq, q⟩ := h
  obtain ⟨u, rfl, rx⟩ := vals1 r
  cases rx
  have fin : ∀ (its : List Value), Vals ys its → ys.length ≤ sizeLine → ∀ (h' : Heap) (c' : Nat), (∀ b o', s.heap.get? b = some o' → h'.get? b = some o') →
      h'.get? s.heap.objs.size = some { cls := .type "list", dict := none, data := .seq its.toArray c', slots := #[] } → EP X pins σ Q (.ref s.heap.objs.size) { s with heap := h' } := fun its r' hz h' c' kp e =>
    ⟨.ref s.heap.objs.size, _, I.laid (t' := s.toks) kp (Nat.le_refl _) (show ObjOk X.prog X.w _ h' _ (.lst ys) from ⟨hz, its, c', r', e⟩), rfl, q _ (I.hok.fresh (Nat.le_refl _))⟩
  rcases hq with hq | hq
  · obtain ⟨its, r', pl, hz⟩ := I.list hq
    have hlen := r'.length
    obtain ⟨o, ho, hc, n, hd⟩ := pl.isList
    exact call_list_seq p (.inl rfl) ho hc hd (fun h' c' kp e => fin its r' hz h' c' kp e) (by simp only [List.size_toArray] <;> omega)
  · obtain ⟨its, r', pl, hz⟩ := I.tuple hq
    have hlen := r'.length
    obtain ⟨o, ho, hc, n, hd⟩ := pl
    exact call_list_seq p (.inr rfl) ho hc hd (fun h' c' kp e => fin its r' hz h' c' kp e) (by simp only [List.size_toArray] <;> omega)
theorem call_tuple_of : CallR X (.type "tuple") (fun xs H Q => ∃ p ys, xs = [.ref p] ∧ ((SqL X.K H p ys ∧ ∀ l, H l = none → Q (.ref l) (upd H l (.tup ys))) ∨ (SqT X.K H p ys ∧ Q (.ref p) H))) := by
  intro pins s σ H xs us Q I r h
  obtain ⟨p, ys, rfl, h⟩ := h
  obtain ⟨u, rfl, rx⟩ := vals1 r
  cases rx
  rcases h with ⟨hq, q⟩ | ⟨hq, q⟩
  · obtain ⟨its, r', pl, hz⟩ := I.list hq
    have hlen := r'.length
    refine call_tuple_list pl.isList (fun h' kp => ?_) (by simp only [List.size_toArray] <;> omega)
    have I1 : Inv X pins σ H { s with heap := h' } := I.kept (t' := s.toks) kp
    have I2 : Inv X pins σ (upd H h'.objs.size (.tup ys)) { s with heap := h'.push { cls := .type "tuple", data := .seq its.toArray } } :=
      I1.laid (t' := s.toks) (fun b o e => Heap.get?_push_of_some _ e) (Nat.le_refl _) (show ObjOk X.prog X.w _ _ _ (.tup ys) from ⟨hz, its, r', IsTupD.new _ _⟩)
    exact ⟨.ref h'.objs.size, _, I2, rfl, q _ (I1.hok.fresh (Nat.le_refl _))⟩
  · obtain ⟨its, r', pl, hz⟩ := I.tuple hq
    exact call_tuple_same pl ⟨.ref p, H, I, rfl, q⟩
noncomputable def tyV (K : PySem.W.Frag) (T : String) (x : V) (H : Hp) : Prop := match x with
  | .str _ => T = "str"
  | .int _ => T = "int"
  | .ref p => (T = "list" ∧ ∃ xs, SqL K H p xs) ∨ (T = "tuple" ∧ ((∃ o, K.lookup p = some o ∧ o.cls = .type "tuple" ∧ o.dict = none) ∨ ∃ xs, H p = some (.tup xs))) ∨
      (T = "dict" ∧ ((∃ kvs, H p = some (.dK kvs)) ∨ ∃ kvs, H p = some (.dT kvs))) ∨ (T = "set" ∧ ∃ S n, H p = some (.set S n))
  | _ => False
theorem tyV_is {pins : List (Addr × Obj)} {σ : St} {H : Hp} {s : Shared} {T : String} {x : V} {v : Value} (I : Inv X pins σ H s) (r : RelV x v) (ty : tyV X.K T x H) :
    s.TypeIs v T ∧ ∀ a, v = .ref a → ∃ ob, s.heap.get? a = some ob ∧ ob.dict = none := by
  cases x with
  | str z =>
    obtain ⟨t, rfl⟩ := r
    cases (show T = "str" from ty)
    exact ⟨typeIs_str s z t, fun _ e => nomatch e⟩
  | int i =>
    obtain ⟨t, rfl⟩ := r
    cases (show T = "int" from ty)
    exact ⟨typeIs_int s i t, fun _ e => nomatch e⟩
  | ref p =>
    cases r
    rcases ty with ⟨rfl, xs, hq⟩ | ⟨rfl, ⟨o, hk, hc, hd⟩ | ⟨xs, hk⟩⟩ | ⟨rfl, hk⟩ | ⟨rfl, S, n, hk⟩
    · obtain ⟨its, _, pl, _⟩ := I.list hq
      refine ⟨pl.isList.typeIs, fun a e => ?_⟩
      cases e
      obtain ⟨o, n, e, c, hd, _⟩ := pl
      exact ⟨o, e, hd⟩
    · refine ⟨⟨o, I.kIn p o hk, hc⟩, fun a e => ?_⟩
      cases e
      exact ⟨o, I.kIn _ o hk, hd⟩
    · obtain ⟨_, its, _, o, e, c, _, hd⟩ := (show ObjOk X.prog X.w H s.heap p (.tup xs) from I.hok p _ hk)
      refine ⟨⟨o, e, c⟩, fun a e2 => ?_⟩
      cases e2
      exact ⟨o, e, hd⟩
    · have z : ∃ o, s.heap.get? p = some o ∧ o.ExactDict := by
        rcases hk with ⟨kvs, hk⟩ | ⟨kvs, hk⟩
        · obtain ⟨_, _, _, _, o, _, _, e, ex, _⟩ := I.hok p _ hk
          exact ⟨o, e, ex⟩
        · obtain ⟨_, _, _, _, o, _, _, e, ex, _⟩ := I.hok p _ hk
          exact ⟨o, e, ex⟩
      obtain ⟨o, e, ex⟩ := z
      refine ⟨⟨o, e, ex.1⟩, fun a e2 => ?_⟩
      cases e2
      exact ⟨o, e, ex.2.1⟩
    · obtain ⟨o, _, _, _, e, ex, _⟩ := I.hok p _ hk
      refine ⟨⟨o, e, ex.1⟩, fun a e2 => ?_⟩
      cases e2
      exact ⟨o, e, ex.2.1⟩
  | _ => exact False.elim ty
noncomputable def tBM (K : PySem.W.Frag) (T : String) (r : V → List V → Hp → VK → Prop) (to : TE) (t : TA) : TE := fun σ H Q => to σ H fun x H1 => tyV K T x H1 ∧ t σ H1 fun xs H2 => r x xs H2 Q
variable {o e : Expr} {es : List Expr} {to : TE} {t : TA} {name : Str} {apos cpos : Pos} {T id : String} {r : V → List V → Hp → VK → Prop}
theorem pe_bm (pa : PlainAttrs T) (slot : Slot T name id) (hty : typeOf (.builtin id) = pure (.type "method_descriptor")) (hm : MtR X id r) (ho : PE X o to) (ha : PA X (e :: es) t)
    (hbase : attributeBase o name X.env (eval o X.env) = eval o X.env := by rfl)
    (hfew : ((backTo cpos (starEach (e :: es) X.env)).all (fun x => !x.1) && (backToKw cpos (keywordEach [] X.env)).all (fun x => x.1.isSome)
      && decide ((e :: es).length + ([] : List Keyword).length + (if ([] : List Keyword).isEmpty then 0 else 1) < 30)) = true := by rfl)
    (hline : (apos.endLine == cpos.line) = true := by rfl) (hs : starEach (e :: es) X.env = (false, eval e X.env) :: starEach es X.env := by rfl) (hplain : (backTo cpos (starEach es X.env)).any (·.1) = false := by rfl) :
    PE X (.Call (.Attribute o name apos) (e :: es) [] cpos) (tBM X.K T r to t) := by
  intro pins s σ H Q I h
  refine wpAny_Call_method_late hbase hfew hline rfl (thn (ho pins s σ H _ I h) fun v s1 hh0 => ?_)
  obtain ⟨x, H1, I1, r1, ty, q1⟩ := hh0
  obtain ⟨h1, h2⟩ := tyV_is I1 r1 ty
  refine ⟨T, id, pa, slot, hty, h1, h2, ?_⟩
  have hA := ha cpos pins s1 σ H1 _ I1 q1
  rw [hs] at hA ⊢
  refine Calls.callWith_builtin (by show (false || (backTo cpos (starEach es X.env)).any (·.1)) = false; rw [hplain] <;> rfl) (Calls.evalArgs_plain ?_)
  exact thn hA fun us s2 ⟨vs, H2, I2, r2, q2⟩ => hm pins s2 σ H2 x vs v us Q I2 r1 r2 q2
end
end L2
namespace L2
open PySem PySem.Spec PyProof.Rows
noncomputable def MtM (X : Cx) (id : String) (r : V → List V → Hp → VK → Prop) : Prop :=
  ∀ (pins : List (Addr × Obj)) (s : Shared) (σ : St) (H : Hp) (x : V) (xs : List V) (v : Value) (us : List Value) (Q : VK), Inv X pins σ H s → RelV x v → Vals xs us → r x xs H Q →
    wpAny (model X.prog X.w) X.A (call (.builtin id) (v :: us)) (EP X pins σ Q) X.xe s
theorem Vals.one : ∀ {x : V} {us : List Value}, Vals [x] us → ∃ u, us = [u] ∧ RelV x u
  | _, _, .cons r .nil => ⟨_, rfl, r⟩
theorem Vals.eraseIdx : ∀ {xs : List V} {us : List Value} (i : Nat), Vals xs us → Vals (xs.eraseIdx i) (us.eraseIdx i)
  | _, _, _, .nil => .nil
  | _, _, 0, .cons _ t => t
  | _, _, i + 1, .cons r t => .cons r (Vals.eraseIdx i t)
theorem Vals.rep {xs : List V} {us : List Value} (h : Vals xs us) : ∀ k : Nat, Vals (List.replicate k xs).flatten (List.replicate k us).flatten
  | 0 => .nil
  | k + 1 => by
    rw [List.replicate_succ, List.replicate_succ, List.flatten_cons, List.flatten_cons]
    exact Vals.append h (Vals.rep h k)
theorem len_erase {α : Type} : ∀ (l : List α) (i : Nat), (l.eraseIdx i).length ≤ l.length
  | [], _ => Nat.le_refl _
  | _ :: _, 0 => Nat.le_succ _
  | _ :: r, i + 1 => Nat.succ_le_succ (len_erase r i)
theorem foldl_rep (its : List Value) : ∀ (k : Nat) (acc : List Value),
    List.foldl (fun x1 x2 => x1 ++ x2) acc.toArray (List.replicate k its.toArray) = (acc ++ (List.replicate k its).flatten).toArray
  | 0, acc => by simp
  | k + 1, acc => by
    have e : acc.toArray ++ its.toArray = (acc ++ its).toArray := by simp
    have e2 : (acc ++ its) ++ (List.replicate k its).flatten = acc ++ (List.replicate (k + 1) its).flatten := by
      rw [List.replicate_succ, List.flatten_cons, List.append_assoc]
    rw [← e2, ← foldl_rep its k (acc ++ its), ← e, List.replicate_succ, List.foldl_cons]
section
variable {X : Cx} {pins : List (Addr × Obj)} {σ : St} {H : Hp} {s : Shared} {l b : Addr} {xs ys zs : List V}
theorem Inv.lset {its its' : List Value} {n : Nat} {f : Array Value → Array Value} {t' : Nat} (I : Inv X pins σ H s) (hH : H l = some (.lst xs))
    (e : s.heap.get? l = some { cls := .type "list", data := .seq its.toArray n }) (hf : f its.toArray = its'.toArray) (hv : Vals ys its') (hz : ys.length ≤ sizeLine) :
    Inv X pins σ (upd H l (.lst ys)) { s with heap := s.heap.update l (Obj.mapSeq f), toks := t' } := by
  have q := PySem.IsL.update e f
  rw [hf] at q
  refine I.write (x := l) (e := l) (by rw [hH]; exact trivial) (.inl rfl) (fun b' u hb hu => (Heap.get?_update_other s.heap (Obj.mapSeq f) (Ne.symm hb)).trans hu) ⟨_, q⟩ ?_
  exact ⟨hz, its', _, hv, q⟩
theorem Inv.lnew {its : List Value} {t' : Nat} (I : Inv X pins σ H s) (hv : Vals ys its) (hz : ys.length ≤ sizeLine) :
    Inv X pins σ (upd H s.heap.objs.size (.lst ys)) { s with heap := s.heap.push { cls := .type "list", data := .seq its.toArray }, toks := t' } :=
  I.laid (fun _ _ q => Heap.get?_push_of_some _ q) (Nat.le_refl _) ⟨hz, its, 0, hv, Heap.get?_push_size _ rfl⟩
theorem Inv.fresh (I : Inv X pins σ H s) : H s.heap.objs.size = none := I.hok.fresh (Nat.le_refl _)
theorem Inv.lstM (I : Inv X pins σ H s) (hH : H l = some (.lst xs)) : xs.length ≤ sizeLine ∧ ∃ (its : List Value) (n : Nat), Vals xs its ∧ xs.length = its.length ∧ s.heap.get? l = some { cls := .type "list", data := .seq its.toArray n } := by
  obtain ⟨z, its, n, r, e⟩ := I.hok l _ hH
  exact ⟨z, its, n, r, r.length, e⟩
theorem notLongL {n : Nat} (h : n ≤ sizeLine) : Builtin.List.listTooLong n = false := by
  unfold Builtin.List.listTooLong
  exact decide_eq_false (by omega)
end
section
variable {X : Cx}
noncomputable def rAppend : V → List V → Hp → VK → Prop := fun x vs H Q => ∃ l xs y, x = .ref l ∧ vs = [y] ∧ H l = some (.lst xs) ∧ xs.length < sizeLine ∧ Q .non (upd H l (.lst (xs ++ [y])))
theorem mt_append : MtM X "list.append" rAppend := by
  intro pins s σ H x vs v us Q I rx rv h
  obtain ⟨l, xs, y, rfl, rfl, hH, hz, q⟩ := h
  cases rx
  obtain ⟨u, rfl, ru⟩ := rv.one
  obtain ⟨z, its, n, r, hl, e⟩ := I.lstM hH
  refine call_meets F.slot_list_append ⟨_, e, rfl⟩ F.entry_list_append (F.args_list_append_2 _ _) (PySem.list_append l its.toArray n u (by rw [List.size_toArray]; omega)) ⟨e, ?_⟩
  refine ⟨.non, _, I.lset (its' := its ++ [u]) hH e (by simp) (r.append (.cons ru .nil)) ?_, rfl, q⟩
  rw [List.length_append, List.length_singleton]
  omega
noncomputable def rPopAt : V → List V → Hp → VK → Prop := fun x vs H Q => ∃ l xs i k y, x = .ref l ∧ vs = [.int i] ∧ H l = some (.lst xs) ∧ -(2 ^ 63) ≤ i ∧ i < 2 ^ 63 ∧ seqIndex? i xs.length = some k ∧ xs[k]? = some y ∧ Q y (upd H l (.lst (xs.eraseIdx k)))
theorem mt_popAt : MtM X "list.pop" rPopAt := by
  intro pins s σ H x vs v us Q I rx rv h
  obtain ⟨l, xs, i, k, y, rfl, rfl, hH, h1, h2, hk, hy, q⟩ := h
  cases rx
  obtain ⟨u, rfl, ru⟩ := rv.one
  obtain ⟨t, rfl⟩ := ru
  obtain ⟨z, its, n, r, hl, e⟩ := I.lstM hH
  obtain ⟨w, hw, rw'⟩ := r.get hy
  refine call_meets F.slot_list_pop ⟨_, e, rfl⟩ F.entry_list_pop (F.args_list_pop_2 _ _)
    (MeetsSeq.list_pop_at l its.toArray n i t k w (fitsIndex_both h1 h2) (by rw [List.size_toArray, ← hl]; exact hk) (by rw [← Array.getElem?_toList]; exact hw) (by rw [List.size_toArray]; omega)) ⟨e, ?_⟩
  refine ⟨y, _, I.lset (its' := its.eraseIdx k) hH e ?_ (r.eraseIdx k) ?_, rw', q⟩
  · show its.toArray.eraseIdxIfInBounds k = (its.eraseIdx k).toArray
    rw [List.eraseIdxIfInBounds_toArray]
  · have := len_erase xs k
    omega
noncomputable def rRep : R2 := fun x y H Q => ∃ l k xs, x = .ref l ∧ y = .int k ∧ H l = some (.lst xs) ∧ -(2 ^ 63) ≤ k ∧ k < 2 ^ 63 ∧ xs.length * k.toNat ≤ sizeLine ∧
  ∀ p, H p = none → Q (.ref p) (upd H p (.lst (List.replicate k.toNat xs).flatten))
theorem len_rep {α : Type} (xs : List α) (k : Nat) : (List.replicate k xs).flatten.length = k * xs.length := by
  induction k with
  | zero => simp
  | succ k ih => rw [List.replicate_succ, List.flatten_cons, List.length_append, ih, Nat.succ_mul, Nat.add_comm]
theorem op_rep : OpR X (binaryOp .Mult) rRep := by
  intro pins s σ H x y v u Q I rx ry h
  obtain ⟨l, k, xs, rfl, rfl, hH, h1, h2, hz, q⟩ := h
  cases rx
  obtain ⟨t, rfl⟩ := ry
  obtain ⟨z, its, n, r, hl, e⟩ := I.lstM hH
  have hlen : its.toArray.size * k.toNat ≤ sizeLine := by rw [List.size_toArray, ← hl]; exact hz
  have hcap : ¬ its.toArray.size * k.toNat > (2 ^ 63 - 1) / 8 := by
    have : (sizeLine : Nat) ≤ (2 ^ 63 - 1) / 8 := by decide
    omega
  have hfit : ¬ (!Builtin.List.listFitsIndex k) = true := by
    rw [fitsIndex_both h1 h2]
    exact Bool.false_ne_true
  have hlong : ¬ Builtin.List.listTooLong (its.toArray.size * k.toNat) = true := by
    rw [notLongL hlen]
    exact Bool.false_ne_true
  have hnew : List.foldl (fun x1 x2 => x1 ++ x2) #[] (List.replicate (if its.toArray.isEmpty = true then 0 else k.toNat) its.toArray) = (List.replicate k.toNat its).flatten.toArray := by
    have f0 : ∀ m : Nat, List.foldl (fun x1 x2 => x1 ++ x2) #[] (List.replicate m its.toArray) = (List.replicate m its).flatten.toArray := fun m => by
      have := foldl_rep its m []
      rw [List.nil_append] at this
      exact this
    rw [f0]
    cases its with
    | nil => simp
    | cons a r' => rw [if_neg (by simp)]
  refine wpAny_binaryOp_repeat_ref (T := "list") (U := "int") (by decide) ⟨_, e, rfl⟩ (fun s' => typeIs_int s' k t) noFill_list_mul F.fills_int_mul F.slot_int_rmul repeat_list F.slot_int_index.lookup
    (call_meets F.slot_int_rmul (typeIs_int s k t) F.entry_int_rmul (F.args_int_rmul_2 _ _) (int___rmul___int_list k t l its.toArray n)
      ⟨e, rfl, ⟨_, e, rfl⟩, call_meets F.slot_list_mul ⟨_, e, rfl⟩ F.entry_list_mul (F.args_list_mul_2 _ _) (AutoListH.list___mul___list_int_3 l its.toArray n k t hfit hcap hlong) ⟨e, ?_⟩⟩)
  rw [hnew]
  exact ⟨.ref _, _, I.lnew (t' := s.toks) (r.rep k.toNat) (by rw [len_rep, Nat.mul_comm]; exact hz), rfl, q _ I.fresh⟩
end
end L2
namespace Att
open PySem PySem.W PySem.Calls PyProof.Rows
theorem ints_of_wellAll {P : Params} {h : Heap} : ∀ (ns : List Int) (vs : List Value), WellAll P h vs (ns.map WData.int) → IntsAre vs ns := by
  intro ns
  induction ns with
  | nil =>
    intro vs w
    rw [List.map_nil] at w
    cases w
    exact .nil
  | cons n ns ih =>
    intro vs w
    rw [List.map_cons] at w
    cases w with
    | cons a b =>
      cases a
      exact .cons _ _ (ih _ b)
theorem script_of {l : OpenLaw} {n : Nat} (hn : l.most = some n) {P : Params} {h : Heap} {args : List WData} {vals : List Value}
    (hpre : l.row.toRowW.claim.pre args = true) (hwl : WellAll P h vals args) :
    ∃ a vs ns, vals = [Value.ref a] ∧ args = [WData.list (ns.map WData.int)] ∧ h.get? a = some { cls := .type "list", data := .seq vs.toArray } ∧ IntsAre vs ns ∧ ns.length ≤ n := by
  have hsh : WShape.hasAll [] args [.list .int] = true := (pre_splitW hpre).1
  have hc : l.pre.holds [] { args := args } = true := (pre_splitW hpre).2
  obtain ⟨d, r, rfl, h1, h2⟩ := hasAllW_cons hsh
  obtain rfl := hasAllW_nil h2
  obtain ⟨xs, rfl, h3⟩ := hasW_list h1
  obtain ⟨ns, rfl⟩ := items_int h3
  have hlen : ns.length ≤ n := by
    unfold OpenLaw.pre at hc
    have h4 : (WTm.not (.lt (.lit (.int (n : Int))) (.len (.arg 0)))).holds [] { args := [.list (ns.map .int)] } = true := by
      have h4 := (holds_andW hc).1
      rw [hn] at h4
      exact h4
    have h5 := condW_of h4 (w_not (w_lt w_lit (w_len_list (w_arg rfl))))
    rw [List.length_map] at h5
    refine Nat.le_of_not_lt fun q => ?_
    have q' : (n : Int) < ((ns.length : Nat) : Int) := by omega
    first
      | (rw [decide_eq_true q'] at h5; exact absurd h5 (by decide))
      | (simp at h5; omega)
  cases hwl with
  | cons w1 w2 =>
    cases w2
    cases w1 with
    | list ho hall => exact ⟨_, _, ns, rfl, rfl, ho, ints_of_wellAll ns _ hall, hlen⟩
theorem post_true (l : OpenLaw) (args : List WData) : l.row.toRowW.claim.post args (.bool true) args = true :=
  postW_of (r := l.row.toRowW) (X := (true == true))
    (show WShape.has [] (.bool true) .bool = true by first | rfl | decide | simp [WShape.has, WShape.arms, WShape.armsAll])
    (show (WTm.eq .res (.lit (.bool true))).value [] { args := args, res := some (.bool true), after := args } = some (.bool (true == true)) from w_eq_bool (w_res rfl) w_lit) rfl
theorem attach_call {l : OpenLaw} {n : Nat} {q : Program} {loose : List Str} {XP : (Str → Option Value) → Heap → Prop} {YP : World → Heap → Prop} {d : DefRec}
    (hn : l.most = some n) (hdf : d.params.defaults = [])
    (call : ∀ (w : World) (s₀ s₁ : Shared) (mg mb : Str → Option Value) (fa : Addr) (o : Obj) (pm cd doc : Value) (a : Addr) (vs : List Value) (ns : List Int),
      Ground q loose [] XP w s₀ mg mb s₁.heap → YP w s₁.heap →
      s₁.heap.get? fa = some o → o.data = .func (docDef d.name d.params d.body d.scope pm cd doc) → s₁.heap.CodeRec cd d.name → mg d.name = some (.ref fa) →
      s₁.heap.get? a = some { cls := .type "list", data := .seq vs.toArray } → IntsAre vs ns → ns.length ≤ n → s₁.gens = #[] →
      codeAny (model l.prog w) callerA (.call (.ref fa) ⟨[.ref a], []⟩) (fun r s' => r = .ok (.ret (.bool true)) ∧ OldK s₁.heap s'.heap ∧ s'.os = s₁.os ∧ AllBare s'.gens) s₁) :
    WalkO q loose XP YP l.row.toRowW d [] (fun f vs => PySem.call f vs) := by
  intro w s₀ s₁ mg mb G Y fa o pm cd doc dV kV ho hd hcd hD hmg hg args vals as hpre hlay hrd hwl hlo
  obtain rfl : dV = .none := Dflts.none hD hdf
  obtain rfl : kV = .none := Dflts.noKw hD
  obtain ⟨a, vs, ns, rfl, rfl, hobj, hints, hlen⟩ := script_of hn hpre hwl
  refine enter_call (codeAny_mono (call w s₀ s₁ mg mb fa o pm cd doc a vs ns G Y ho (fd_plain hd) hcd hmg hobj hints hlen hg) fun r s' hq => ?_)
  obtain ⟨rfl, h2, h3, h4⟩ := hq
  exact ⟨.inl ⟨.bool true, .bool true, [], rfl, fun _ => rfl, .bool true, post_true l _, fun _ => ⟨List.Pairwise.nil, fun _ hm => (nomatch hm)⟩⟩, h2, h3, h4⟩
section
variable {prog : Program} {w : World} {A : Around} {E : Value → Shared → Prop} {s : Shared} {K : Frag}
end
end Att
namespace L2
open PySem PySem.Spec PyProof.Rows
theorem vals_ints : ∀ {vs : List Value} {ns : List Int}, IntsAre vs ns → Vals (ns.map V.int) vs
  | _, _, .nil => .nil
  | _, _, .cons n t h => .cons ⟨t, rfl⟩ (vals_ints h)
end L2
namespace L2
open PySem PySem.Spec PyProof.Rows
end L2
namespace L2
open PySem PySem.Spec PyProof.Rows
noncomputable def defArgs (s : Stmt) : Arguments := match s with
  | .FunctionDef _ a _ _ _ _ _ _ _ _ => a
  | _ => { posonlyargs := [], args := [], vararg := none, kwonlyargs := [], kw_defaults := [], kwarg := none, defaults := [] }
noncomputable def defBody (s : Stmt) : List Stmt := match s with
  | .FunctionDef _ _ b _ _ _ _ _ _ _ => b
  | _ => []
noncomputable def defScope (s : Stmt) : Scope := match s with
  | .FunctionDef _ _ _ _ _ _ sc _ _ _ => sc
  | _ => { kind := .function, names := [], isGenerator := false, isCoroutine := false }
noncomputable abbrev CX0 : CXT := fun _ _ _ _ _ _ => False
noncomputable abbrev E0 : XK := fun _ _ _ => False
theorem pass0 {X : Cx} : Passes CX0 X E0 := fun _ _ _ _ _ _ _ h => h.elim
structure Fun (K : PySem.W.Frag) (x qual : Str) (st : Stmt) (f : Addr) (fd : FuncData) : Prop where
  ex : ∃ (oc : Value) (od : Option Addr) (kV doc pm : Value) (an : Option Addr) (cdv ct : Value) (osl : Array (Option Value)),
    fd = PySem.W.fnOf x qual (defArgs st) (defBody st) (defScope st) .none kV doc pm an cdv ct ∧ K.lookup f = some ⟨oc, od, .func fd, osl⟩ ∧ PySem.W.codeIn K cdv qual = true
  kp : PySem.W.keepIn K (.ref f) = true
section
variable {P : Program} {w : World} {K : PySem.W.Frag} {mg : Str → Option Value} {base : Heap}
theorem Fun.ok {x qual : Str} {st : Stmt} {f : Addr} {fd : FuncData} {N ps : List Str} {k : Nat} {sp : Sp} (F : Fun K x qual st f fd) (S : FnScope N ps (defScope st)) (len : ∀ vs H Q E, sp vs H Q E → vs.length = ps.length)
    (hbody : ∀ (cdv : Value) (A : Around) (outer : List Env) (s : Shared) (H : Hp) (vs : List V) (Q : VK) (E : XK), Room k (A.deeper (envOfC qual (defScope st) s.heap.objs.size f cdv)) → sp vs H Q E →
      ∃ t, PSs (cxOf CX0 P w K mg base N qual (defScope st) f cdv A outer s H E).nox (defBody st) t ∧ t { nx := fun _ H' => Q .non H', rt := Q } (start N vs) H) : FnOk P w K mg base CX0 (k + 1) f fd ps sp := by
  obtain ⟨oc, od, kV, doc, pm, an, cdv, ct, osl, rfl, lk, hcd⟩ := F.ex
  refine fn_of lk hcd S len fun A outer s H vs Q E hr hsp => ?_
  obtain ⟨t, h, q⟩ := hbody cdv A outer s H vs Q E hr hsp
  exact ⟨t, h.nox, q⟩
theorem Fun.binds {x qual : Str} {st : Stmt} {f : Addr} {fd : FuncData} {ps : List Str} (F : Fun K x qual st f fd)
    (h : ∀ (kV doc pm : Value) (an : Option Addr) (cdv ct : Value) (us : List Value), us.length = ps.length → bindArgs (PySem.W.fnOf x qual (defArgs st) (defBody st) (defScope st) .none kV doc pm an cdv ct) ⟨us, []⟩ = pure (ps.zip us)) : Binds K fd ps [] := by
  obtain ⟨oc, od, kV, doc, pm, an, cdv, ct, osl, rfl, lk, hcd⟩ := F.ex
  exact .all (h kV doc pm an cdv ct)
theorem fun_mk {x qual : Str} {st : Stmt} {f : Addr} {oc : Value} {od an : Option Addr} {osl : Array (Option Value)} {kV doc pm cdv ct : Value} (l : K.lookup f = some ⟨oc, od, .func (PySem.W.fnOf x qual (defArgs st) (defBody st) (defScope st) .none kV doc pm an cdv ct), osl⟩)
    (c : PySem.W.codeIn K cdv qual = true) (k : PySem.W.keepIn K (.ref f) = true) : Fun K x qual st f (PySem.W.fnOf x qual (defArgs st) (defBody st) (defScope st) .none kV doc pm an cdv ct) := ⟨⟨oc, od, kV, doc, pm, an, cdv, ct, osl, rfl, l, c⟩, k⟩
end
theorem small1000 {n : Nat} (h : n ≤ 1000) : n < sizeLine := Nat.lt_of_le_of_lt h (by decide)
section
variable {X : Cx}
theorem pv (i : Nat) {x : Str} {pos : Pos} (hN : X.N[i]? = some x := by rfl) (hv : Vis X.env.scope x := by first | exact Or.inl rfl | exact Or.inr (Or.inl rfl) | exact Or.inr (Or.inr rfl)) (hd : (x == ("__debug__" : Str)) = false := by decide)
    (hcd : (x == ("__classdict__" : Str)) = false := by decide) : PE X (.Name x pos) (tVar i) := pe_var hN hv hd hcd
end
end L2
set_option Elab.async false
set_option linter.all false
set_option maxRecDepth 100000
namespace L2
open PySem PySem.Spec PyProof.Rows
section
variable {κ : Type} [DecidableEq κ]
noncomputable def valV (kvs : List (κ × V)) (k : κ) : Option V := (kvs.find? fun kv => decide (kv.1 = k)).map (·.2)
noncomputable def putK (kvs : List (κ × V)) (k : κ) (v : V) : List (κ × V) :=
  if (kvs.any fun kv => decide (kv.1 = k)) = true then kvs.map (fun kv => if kv.1 = k then (kv.1, v) else kv) else kvs ++ [(k, v)]
theorem valV_pos {p : κ × V} {r : List (κ × V)} {k : κ} (e : p.1 = k) : valV (p :: r) k = some p.2 := by simp [valV, List.find?_cons, e]
theorem valV_neg {p : κ × V} {r : List (κ × V)} {k : κ} (e : ¬ p.1 = k) : valV (p :: r) k = valV r k := by simp [valV, List.find?_cons, e]
theorem valV_any (k : κ) : ∀ kvs : List (κ × V), (kvs.any fun kv => decide (kv.1 = k)) = (valV kvs k).isSome
  | [] => rfl
  | p :: r => by
    rw [List.any_cons]
    by_cases e : p.1 = k
    · simp only [valV_pos e, decide_eq_true e, Bool.true_or, Option.isSome_some]
    · rw [valV_neg e, decide_eq_false e, Bool.false_or]; exact valV_any k r
theorem valV_snoc (k j : κ) (y : V) : ∀ kvs : List (κ × V), valV kvs k = none → valV (kvs ++ [(k, y)]) j = if j = k then some y else valV kvs j
  | [], _ => by
    by_cases e : k = j
    · rw [if_pos e.symm]; exact valV_pos (p := (k, y)) e
    · rw [if_neg (fun z => e z.symm)]; exact valV_neg (p := (k, y)) e
  | p :: r, hn => by
    rw [List.cons_append]
    have hk : ¬ p.1 = k := fun z => by rw [valV_pos z] at hn; cases hn
    rw [valV_neg hk] at hn
    have ih := valV_snoc k j y r hn
    by_cases e : p.1 = j
    · rw [valV_pos e, valV_pos e, if_neg (fun z => hk (e.trans z))]
    · rw [valV_neg e, valV_neg e, ih]
theorem length_putK (kvs : List (κ × V)) (k : κ) (v : V) : (putK kvs k v).length ≤ kvs.length + 1 := by
  unfold putK
  split
  · rw [List.length_map]; omega
  · rw [List.length_append, List.length_cons, List.length_nil]; omega
theorem putK_new {kvs : List (κ × V)} {k : κ} (v : V) (h : valV kvs k = none) : putK kvs k v = kvs ++ [(k, v)] := by
  unfold putK
  rw [valV_any, h]
  exact if_neg (by decide)
theorem RelO.isSome_eq {o : Option V} {u : Option Value} (r : RelO o u) : o.isSome = u.isSome := by
  cases o with
  | none => cases u with
    | none => rfl
    | some _ => exact (show False from r).elim
  | some _ => cases u with
    | none => exact (show False from r).elim
    | some _ => rfl
theorem KV.val {kvs : List (κ × V)} {vs : List (κ × Value)} (r : KV kvs vs) (k : κ) : RelO (valV kvs k) (valueAt vs k) := by
  unfold KV at r
  induction r with
  | nil => exact True.intro
  | @cons p q ps qs h t ih =>
    obtain ⟨h1, h2⟩ := h
    by_cases e : p.1 = k
    · have e' : q.1 = k := h1.symm.trans e
      have b : valueAt (q :: qs) k = some q.2 := by simp [valueAt, List.find?_cons, e']
      rw [valV_pos e, b]; exact h2
    · have e' : ¬ q.1 = k := fun z => e (h1.trans z)
      have b : valueAt (q :: qs) k = valueAt qs k := by simp [valueAt, List.find?_cons, e']
      rw [valV_neg e, b]; exact ih
theorem KV.any {kvs : List (κ × V)} {vs : List (κ × Value)} (r : KV kvs vs) (k : κ) : (kvs.any fun kv => decide (kv.1 = k)) = vs.any fun kv => decide (kv.1 = k) := by
  unfold KV at r
  induction r with
  | nil => rfl
  | cons h t ih => rw [List.any_cons, List.any_cons, ih, h.1]
theorem KV.repl {kvs : List (κ × V)} {vs : List (κ × Value)} (r : KV kvs vs) (k : κ) {y : V} {u : Value} (ry : RelV y u) :
    KV (kvs.map fun kv => if kv.1 = k then (kv.1, y) else kv) (vs.map fun kv => if kv.1 = k then (kv.1, u) else kv) := by
  unfold KV at r ⊢
  induction r with
  | nil => exact .nil
  | @cons p q ps qs h t ih =>
    rw [List.map_cons, List.map_cons]
    refine .cons ?_ ih
    obtain ⟨h1, h2⟩ := h
    by_cases e : p.1 = k
    · rw [if_pos e, if_pos (h1.symm.trans e)]; exact ⟨h1, ry⟩
    · rw [if_neg e, if_neg (fun z => e (h1.trans z))]; exact ⟨h1, h2⟩
theorem KV.put {kvs : List (κ × V)} {vs : List (κ × Value)} (r : KV kvs vs) (k : κ) {y : V} {u : Value} (ry : RelV y u) : KV (putK kvs k y) (stored vs k u) := by
  unfold putK stored
  rw [r.any k]
  by_cases e : (vs.any fun kv => decide (kv.1 = k)) = true
  · rw [if_pos e, if_pos e]; exact r.repl k ry
  · rw [if_neg e, if_neg e]; exact Paired.snoc r ⟨rfl, ry⟩
theorem KV.keys {kvs : List (κ × V)} {vs : List (κ × Value)} (r : KV kvs vs) : kvs.map (·.1) = vs.map (·.1) := by
  unfold KV at r
  induction r with
  | nil => rfl
  | cons h t ih => rw [List.map_cons, List.map_cons, ih, h.1]
theorem KV.length {kvs : List (κ × V)} {vs : List (κ × Value)} (r : KV kvs vs) : kvs.length = vs.length := Paired.length r
end
theorem kV_is {P : Program} {w : World} {k : Key} {u : Value} (r : RelV (kV k) u) : (mixKind P w).is k u = true := by
  cases k with
  | inl i => obtain ⟨t, e⟩ := (show ∃ t, u = Value.int i t from r); subst e; exact mixKind_int P w i t
  | inr x => obtain ⟨t, e⟩ := (show ∃ t, u = Value.str x t from r); subst e; exact mixKind_str P w x t
theorem items_are {P : Program} {w : World} : ∀ {ks : List Key} {us : List Value}, Vals (ks.map kV) us → ItemsAre (mixKind P w) ks us
  | [], _, r => by rw [List.map_nil] at r; cases r; exact .nil
  | k :: ks, _, r => by
    rw [List.map_cons] at r
    cases r with
    | cons h t => exact .cons (kV_is h) (items_are t)
noncomputable abbrev KT (H : Hp) : List (List Key × V) → List (List Key × Addr × Value) → Prop := Paired fun p q => p.1 = q.1 ∧ H q.2.1 = some (.tup (p.1.map kV)) ∧ RelV p.2 q.2.2
theorem KT.val {H : Hp} {kvs : List (List Key × V)} {xs : List (List Key × Addr × Value)} (r : KT H kvs xs) (k : List Key) : RelO (valV kvs k) ((atKey xs k).map (·.2)) := by
  induction r with
  | nil => exact True.intro
  | @cons p q ps qs h t ih =>
    obtain ⟨h1, _, h2⟩ := h
    by_cases e : p.1 = k
    · have e' : q.1 = k := h1.symm.trans e
      have b : atKey (q :: qs) k = some q.2 := by simp [atKey, List.find?_cons, e']
      rw [valV_pos e, b]; exact h2
    · have e' : ¬ q.1 = k := fun z => e (h1.trans z)
      have b : atKey (q :: qs) k = atKey qs k := by simp [atKey, List.find?_cons, e']
      rw [valV_neg e, b]; exact ih
theorem KT.repl {H : Hp} {kvs : List (List Key × V)} {xs : List (List Key × Addr × Value)} (r : KT H kvs xs) (k : List Key) {y : V} {u : Value} (ry : RelV y u) :
    KT H (kvs.map fun kv => if kv.1 = k then (kv.1, y) else kv) (xs.map (putAt k u)) := by
  induction r with
  | nil => exact .nil
  | @cons p q ps qs h t ih =>
    rw [List.map_cons, List.map_cons]
    refine .cons ?_ ih
    obtain ⟨h1, h2, h3⟩ := h
    unfold putAt
    by_cases e : p.1 = k
    · rw [if_pos e, if_pos (h1.symm.trans e)]; exact ⟨h1, h2, ry⟩
    · rw [if_neg e, if_neg (fun z => e (h1.trans z))]; exact ⟨h1, h2, h3⟩
theorem KT.put {H : Hp} {kvs : List (List Key × V)} {xs : List (List Key × Addr × Value)} (r : KT H kvs xs) (k : List Key) {b : Addr} {y : V} {u : Value} (hb : H b = some (.tup (k.map kV))) (ry : RelV y u) :
    KT H (putK kvs k y) (storedH xs k b u) := by
  have e : (kvs.any fun kv => decide (kv.1 = k)) = (atKey xs k).isSome := by
    rw [valV_any, (r.val k).isSome_eq, Option.isSome_map]
  unfold putK storedH
  rw [e]
  by_cases q : (atKey xs k).isSome = true
  · rw [if_pos q, if_pos q]; exact r.repl k ry
  · rw [if_neg q, if_neg q]; exact Paired.snoc r ⟨rfl, hb, ry⟩
theorem KT.keeps {H H' : Hp} {kvs : List (List Key × V)} {xs : List (List Key × Addr × Value)} (r : KT H kvs xs) (ht : ∀ b ys, H b = some (.tup ys) → H' b = some (.tup ys)) : KT H' kvs xs :=
  Paired.mapP r fun _ _ z => ⟨z.1, ht _ _ z.2.1, z.2.2⟩
section
variable {P : Program} {w : World} {H : Hp} {h : Heap} {a : Addr}
theorem rd_of {u : HO} (ok : HOk P w H h) (e : Rd H a u) : ObjOk P w H h a u := e.ok ok
theorem dk_rd {kvs : List (Key × V)} (ok : HOk P w H h) (e : Rd H a (.dK kvs)) : kvs.length ≤ sizeLine ∧ (a == sysModules) = false ∧ ∃ vs, KV kvs vs ∧ h.DictOf (mixKind P w) a vs :=
  show ObjOk P w H h a (.dK kvs) from rd_of ok e
theorem dk_of {kvs : List (Key × V)} (ok : HOk P w H h) (e : H a = some (.dK kvs)) : kvs.length ≤ sizeLine ∧ (a == sysModules) = false ∧ ∃ vs, KV kvs vs ∧ h.DictOf (mixKind P w) a vs := dk_rd ok (.inl e)
theorem key_of {ks : List Key} (ok : HOk P w H h) (e : H a = some (.tup (ks.map kV))) : (tupleKind (mixKind P w)).is h ks a := by
  obtain ⟨_, its, r, o, h1, h2, ⟨n, h3⟩, _⟩ := (show ObjOk P w H h a (.tup (ks.map kV)) from ok a _ e)
  exact ⟨o, its.toArray, n, h1, h2, h3, by simpa using items_are r⟩
theorem dt_rd {kvs : List (List Key × V)} (ok : HOk P w H h) (e : Rd H a (.dT kvs)) : kvs.length ≤ sizeLine ∧ (a == sysModules) = false ∧
    ∃ xs, KT H kvs xs ∧ h.DictOfH (tupleKind (mixKind P w)) a xs := by
  obtain ⟨z, y, xs, r, o, es, ep, h1, h2, h3, h4, h5⟩ := (show ObjOk P w H h a (.dT kvs) from rd_of ok e)
  refine ⟨z, y, xs, r, o, es, ep, h1, h2, h3, h4, fun x hx => ?_, h5⟩
  have all : ∀ {l : List (List Key × V)} {m : List (List Key × Addr × Value)}, KT H l m → ∀ x ∈ m, (tupleKind (mixKind P w)).is h x.1 x.2.1 := by
    intro l m q
    induction q with
    | nil => intro x hx; exact nomatch hx
    | @cons p q ps qs hq t ih =>
      intro x hx
      rcases List.mem_cons.mp hx with e | hx
      · subst e
        exact key_of ok (by rw [← hq.1]; exact hq.2.1)
      · exact ih x hx
  exact all r x hx
theorem dt_of {kvs : List (List Key × V)} (ok : HOk P w H h) (e : H a = some (.dT kvs)) : kvs.length ≤ sizeLine ∧ (a == sysModules) = false ∧
    ∃ xs, KT H kvs xs ∧ h.DictOfH (tupleKind (mixKind P w)) a xs := dt_rd ok (.inl e)
end
noncomputable def DGet (H : Hp) (a : Addr) (y : V) (r : Option V) : Prop :=
  (∃ kvs k, Rd H a (.dK kvs) ∧ y = kV k ∧ r = valV kvs k) ∨ ∃ kvs k b, Rd H a (.dT kvs) ∧ y = .ref b ∧ H b = some (.tup (k.map kV)) ∧ r = valV kvs k
noncomputable def DPut (H : Hp) (a : Addr) (y v : V) (H' : Hp) : Prop :=
  (∃ kvs k, H a = some (.dK kvs) ∧ y = kV k ∧ kvs.length < sizeLine ∧ H' = upd H a (.dK (putK kvs k v))) ∨
  ∃ kvs k b, H a = some (.dT kvs) ∧ y = .ref b ∧ H b = some (.tup (k.map kV)) ∧ kvs.length < sizeLine ∧ H' = upd H a (.dT (putK kvs k v))
theorem DGet.k {H : Hp} {a : Addr} {kvs : List (Key × V)} {k : Key} (e : H a = some (.dK kvs)) : DGet H a (kV k) (valV kvs k) := .inl ⟨kvs, k, .inl e, rfl, rfl⟩
theorem DPut.k {H : Hp} {a : Addr} {kvs : List (Key × V)} {k : Key} {v : V} (e : H a = some (.dK kvs)) (hl : kvs.length < sizeLine) : DPut H a (kV k) v (upd H a (.dK (putK kvs k v))) := .inl ⟨kvs, k, e, rfl, hl, rfl⟩
section
variable {X : Cx} {pins : List (Addr × Obj)} {σ : St} {H : Hp} {s : Shared} {a : Addr} {y v : V} {u r : Value} {o : Option V} {A : Around} {E : Value → Shared → Prop}
theorem Inv.big (I : Inv X pins σ H s) : sysModules < s.heap.objs.size := by
  have h : mainGlobals < s.heap.objs.size := (I.mod.glob.keeps I.bk).lt
  exact Nat.lt_trans (by decide) h
theorem d_getItem {Q : Value → Shared → Prop} (hu : A.units + 1 < cLine) (I : Inv X pins σ H s) (g : DGet H a y (some v)) (ry : RelV y u) (h : ∀ w' s', Inv X pins σ H s' → RelV v w' → Q w' s') :
    wpAny (model X.prog X.w) A (getItem (.ref a) u) Q E s := by
  rcases g with ⟨kvs, k, e, ey, l⟩ | ⟨kvs, k, b, e, ey, eb, l⟩
  · subst ey
    obtain ⟨z, hd, vs, rel, dd⟩ := dk_rd I.hok e
    obtain ⟨w', hw, rw'⟩ := RelO.some_of (v := v) (o := valueAt vs k) (by rw [l]; exact rel.val k)
    exact wpAny_getItem_of (kV_is ry) dd.mapOf hw (h w' _ (I.tok _) rw')
  · subst ey
    cases (show u = Value.ref b from ry)
    obtain ⟨z, hd, xs, rel, dd⟩ := dt_rd I.hok e
    obtain ⟨w', hw, rw'⟩ := RelO.some_of (v := v) (o := (atKey xs k).map (·.2)) (by rw [l]; exact rel.val k)
    obtain ⟨p, hp, hp2⟩ := Option.map_eq_some_iff.mp hw
    refine wpAny_getItem_heap (tupleKind_room_in1 hu) (key_of I.hok eb) dd hp ?_
    rw [hp2]
    exact h w' _ (I.tok _) rw'
theorem d_write {h' : Heap} {t' : Nat} {ob : HO} (I : Inv X pins σ H s) (mu : Mut (H a)) (hs : Heap.SameBut a s.heap h') (he : ∃ q, h'.get? a = some q) (new : ObjOk X.prog X.w (upd H a ob) h' a ob) :
    Inv X pins σ (upd H a ob) { s with heap := h', toks := t' } :=
  I.write (x := a) (e := a) mu (.inl rfl) (fun b q hb z => (hs.2 b hb).trans z) he new
theorem dk_new {P : Program} {w : World} {H' : Hp} {h' : Heap} {kvs : List (Key × V)} {vs : List (Key × Value)} (z : kvs.length ≤ sizeLine) (hd : (a == sysModules) = false) (rel : KV kvs vs) (dd : h'.DictOf (mixKind P w) a vs) :
    ObjOk P w H' h' a (.dK kvs) := ⟨z, hd, vs, rel, dd⟩
theorem d_setItem {H' : Hp} {Q : Unit → Shared → Prop} (hu : A.units + 1 < cLine) (I : Inv X pins σ H s) (g : DPut H a y v H') (ry : RelV y u) (rv : RelV v r) (h : ∀ s', Inv X pins σ H' s' → Q () s') :
    wpAny (model X.prog X.w) A (setItem (.ref a) u r) Q E s := by
  rcases g with ⟨kvs, k, e, ey, l, eH⟩ | ⟨kvs, k, b, e, ey, eb, l, eH⟩
  · subst ey eH
    obtain ⟨z, hd, vs, rel, dd⟩ := dk_of I.hok e
    have hz : vs.length ≤ sizeLine := by rw [← rel.length]; exact z
    have hl : (putK kvs k v).length ≤ sizeLine := by have := length_putK kvs k v; omega
    refine wpAny_setItem_pairs (hsz := hz) (kV_is ry) dd fun h' dd' hs => h _ ?_
    have he : ∃ q, h'.get? a = some q := let ⟨q, _, _, hq, _⟩ := dd'; ⟨q, hq⟩
    exact d_write I (by rw [e]; exact True.intro) hs he (dk_new hl hd (rel.put k rv) dd')
  · subst ey eH
    cases (show u = Value.ref b from ry)
    obtain ⟨z, hd, xs, rel, dd⟩ := dt_of I.hok e
    have hz : xs.length ≤ sizeLine := by rw [← Paired.length rel]; exact z
    have hl : (putK kvs k v).length ≤ sizeLine := by have := length_putK kvs k v; omega
    refine wpAny_setItem_heap (hsz := hz) (tupleKind_room_in1 hu) (key_of I.hok eb) dd fun h' dd' hs => h _ ?_
    obtain ⟨q, es, ep, hq, h2, h3, h4, _, h5⟩ := dd'
    refine d_write I (by rw [e]; exact True.intro) hs ⟨q, hq⟩ ⟨hl, hd, _, (rel.put k eb rv).keeps fun c ys ec => ?_, q, es, ep, hq, h2, h3, h4, h5⟩
    rw [upd_ne (ne_of ec e (fun z => nomatch z))]
    exact ec
end
noncomputable def NoSl (i : Expr) : Prop := ∀ ov iv, subscripted i false ov iv = operate [ov, iv] (getItem ov iv)
theorem subD_of {prog : Program} {w : World} {A : Around} {E : Value → Shared → Prop} {s : Shared} {env : Env} {value slice : Expr} {pos : Pos} {T id : String} {Q : Value → Shared → Prop}
    (hl : typeLookup (.type T) "__getitem__" = pure (some (.builtin id))) (hs : NoSl slice)
    (h : wpAny (model prog w) A (eval value env) (fun o s₁ => wpAny (model prog w) A (eval slice env) (fun i s₂ => s₂.TypeIs o T ∧ wpAny (model prog w) A (getItem o i) Q E s₂) E s₁) E s) :
    wpAny (model prog w) A (eval (.Subscript value slice pos) env) Q E s := by
  refine Subscript_ (wpAny_mono h (fun o s₁ h₁ => wpAny_mono h₁ (fun i s₂ h₂ => ?_) fun _ _ x => x) fun _ _ x => x)
  obtain ⟨hT, h₂⟩ := h₂
  unfold subscriptTail
  refine wpAny_bind ?_
  rw [getitemInPython_of_ne hT.not_modules]
  refine wpAny_bind (wpAny_specialOf hT hl ?_)
  have fin : wpAny (model prog w) A (subscripted slice false o i) (fun r s₃ => wpAny (model prog w) A (letTemporaryGo value o r >>= fun _ => pure r) Q E s₃) E s₂ := by
    rw [hs o i]
    exact wpAny_operating (wpAny_mono h₂ (fun r s₃ h₃ => wpAny_bind (wpAny_letTemporaryGo (wpAny_pure h₃))) fun _ _ x => x)
  first
    | exact wpAny_pure (wpAny_bind fin)
    | exact wpAny_bind (wpAny_pure (wpAny_bind fin))
    | exact wpAny_bind fin
theorem dict_typeIs {X : Cx} {pins : List (Addr × Obj)} {σ : St} {H : Hp} {s : Shared} {a : Addr} {y : V} {o : Option V} (I : Inv X pins σ H s) (g : DGet H a y o) : s.TypeIs (.ref a) "dict" := by
  rcases g with ⟨kvs, k, e, _, _⟩ | ⟨kvs, k, b, e, _, _, _⟩
  · obtain ⟨_, _, vs, _, dd⟩ := dk_rd I.hok e
    exact dd.typeIs
  · obtain ⟨_, _, xs, _, dd⟩ := dt_rd I.hok e
    exact dd.typeIs
noncomputable def tDGet (td ty : TE) : TE := fun σ H Q => td σ H fun x H1 => ty σ H1 fun y H2 => ∃ a v, x = .ref a ∧ DGet H2 a y (some v) ∧ Q v H2
noncomputable def sDPut (td ty tv : TE) : TS := fun D σ H => tv σ H fun v H1 => td σ H1 fun x H2 => ty σ H2 fun y H3 => ∃ a H4, x = .ref a ∧ DPut H3 a y v H4 ∧ D.nx σ H4
section
variable {X : Cx} {o i e value : Expr} {pos pos' tpos : Pos} {td ty tv : TE}
theorem pe_dget (hu : X.A.units + 1 < cLine) (ho : PE X o td) (hi : PE X i ty) (hs : NoSl i) : PE X (.Subscript o i pos) (tDGet td ty) := by
  intro pins s σ H Q I h
  refine subD_of PySem.F.slot_dict_getitem.lookup hs (thn (ho pins s σ H _ I h) fun u s1 ⟨x, H1, I1, rx, q1⟩ => thn (hi pins s1 σ H1 _ I1 q1) fun iv s2 hh0 => ?_)
  obtain ⟨y, H2, I2, ry, a, v, ex, g, q2⟩ := hh0
  subst ex
  obtain rfl : u = Value.ref a := rx
  exact ⟨dict_typeIs I2 g, d_getItem hu I2 g ry fun w' s3 I3 rw' => ⟨v, H2, I3, rw', q2⟩⟩
theorem ps_dput (hu : X.A.units + 1 < cLine) (ho : PE X o td) (hi : PE X i ty) (hv : PE X value tv) (hs : swapsWith value (some (.Subscript o i pos')) pos.line X.env = pure false) :
    PS X (.Assign [.Subscript o i pos'] value pos) (sDPut td ty tv) := by
  intro pins s σ H D I h
  refine wpAny_Assign_Subscript (thn (hv pins s σ H _ I h) fun r s1 ⟨v, H1, I1, rv, q1⟩ => thn (ho pins s1 σ H1 _ I1 q1) fun u s2 ⟨x, H2, I2, rx, q2⟩ => thn (hi pins s2 σ H2 _ I2 q2) fun iv s3 ⟨y, H3, I3, ry, a, H4, ex, g, q3⟩ => ?_) hs
  subst ex
  obtain rfl : u = Value.ref a := rx
  exact d_setItem hu I3 g ry rv fun s4 I4 => ⟨σ, H4, I4, q3⟩
end
theorem dk_empty {P : Program} {w : World} {H : Hp} (h : Heap) (hb : sysModules < h.objs.size) : ObjOk P w H (h.push { cls := .type "dict", data := .dict #[] }) h.objs.size (.dK []) :=
  ⟨Nat.zero_le _, beq_eq_false_iff_ne.mpr (Ne.symm (Nat.ne_of_lt hb)), [], .nil, Heap.DictOf.new h⟩
noncomputable def tDNewK : TE := fun _ H Q => ∀ p, H p = none → Q (.ref p) (upd H p (.dK []))
section
variable {X : Cx} {pos : Pos}
theorem pe_dnewK : PE X (.Dict [] [] pos) tDNewK := fun pins s σ H Q I h =>
  wpAny_Dict_empty ⟨.ref s.heap.objs.size, _, I.laid (a := s.heap.objs.size) (o := .dK []) (t' := s.toks) (fun _ _ q => Heap.get?_push_of_some _ q) (Nat.le_refl _) (dk_empty s.heap I.big), rfl, h _ (I.hok.fresh (Nat.le_refl _))⟩
end
end L2
set_option Elab.async false
set_option linter.all false
set_option maxRecDepth 100000
namespace L2
open PySem PySem.Spec PyProof.Rows
theorem compLoop_gen {prog : Program} {w : World} {A : Around} {R : Result → Shared → Prop} {s : Shared} {elt target iter : Expr} {ifs : List Expr} {scope : Scope} {pos : Pos} {it acc : Value} {env : Env} (I : Nat → Shared → Prop)
    (turn : ∀ n s, I n s → wpAny (model prog w) A (pyNext it) (fun r s₁ => match r with
      | none => R (.ok .next) s₁
      | some v => wpAny (model prog w) A (letOwnedTupleGo target it v) (fun _ s₁' => wpAny (model prog w) A (assign target env v) (fun _ s₂ =>
          wpAny (model prog w) A (forIn ifs true fun c r => if r = true then do let ok ← isTrue c env (eval c env); pure (ForInStep.yield ok) else pure (ForInStep.yield r)) (fun ok s₃ =>
            if ok = true then wpAny (model prog w) A (eval elt env) (fun x s₄ =>
              wpAny (model prog w) A (call (.builtin "list.append") [acc, x]) (fun _ s₅ => ∃ m, m < n ∧ I m s₅) (fun _ _ => False) s₄) (fun _ _ => False) s₃
            else ∃ m, m < n ∧ I m s₃) (fun _ _ => False) s₂) (fun _ _ => False) s₁') (fun _ _ => False) s₁) (fun _ _ => False) s)
    (n : Nat) (h : I n s) : codeAny (model prog w) A (.compLoop (.ListComp elt [⟨target, iter, ifs, 0⟩] scope pos) 0 it acc env) R s := by
  refine codeAny_loop rfl I (fun n s hI => ?_) n h
  show wpAny _ A ((compTurn (.ListComp elt [⟨target, iter, ifs, 0⟩] scope pos) 0 it acc env).onRaise (fun x => do noteFrame x env; theTreesLotGoes x)) _ _ s
  refine wpAny_noted ?_
  rw [compTurn_list]
  refine wpAny_bind (wpAny_standAt (wpAny_bind (wpAny_mono (turn n s hI) (fun r s₁ h₁ => ?_) fun _ _ h' => h'.elim)))
  cases r with
  | none => exact wpAny_pure h₁
  | some v =>
    refine wpAny_bind (wpAny_mono h₁ (fun _ s₁' h₁' => ?_) fun _ _ h' => h'.elim)
    refine wpAny_bind (wpAny_mono h₁' (fun _ s₂ h₂ => wpAny_bind (wpAny_mono h₂ (fun ok s₃ h₃ => ?_) fun _ _ h' => h'.elim)) fun _ _ h' => h'.elim)
    cases ok with
    | false => exact wpAny_pure ⟨rfl, h₃⟩
    | true =>
      exact wpAny_bind (wpAny_bind (wpAny_mono h₃ (fun x s₄ h₄ => wpAny_bind (wpAny_mono h₄ (fun _ s₅ h₅ => wpAny_pure (wpAny_pure ⟨rfl, h₅⟩)) fun _ _ h' => h'.elim)) fun _ _ h' => h'.elim))
theorem newEnv_comp {M : Model} {A : Around} {E : Value → Shared → Prop} {s : Shared} {scope : Scope} {globals : Addr} {cl : List (Str × Addr)} {qual : Str} {outer : Env} {Q : Env → Shared → Prop}
    (hQ : Q (newEnv scope s.heap.objs.size globals (cellsFrom (s.heap.objs.size + 1) scope.names cl) qual none .none (some outer) builtinsNs)
      { s with heap := pushCells (s.heap.push { cls := .type "dict", data := .dict #[] }) scope.names }) :
    wpAny M A (newFunctionEnv scope globals cl [] qual none .none (some outer)) Q E s := by
  simp only [newFunctionEnv, Option.isSome_some, if_true]
  refine wpAny_bind (wpAny_alloc ?_)
  refine wpAny_bind (wpAny_layCells _ (fun name kind cells => by cases hkc : kind == NameKind.cell <;> simp [hkc]) _ _ _ _ ?_)
  rw [show ({ s with heap := s.heap.push { cls := .type "dict", data := .dict #[] } } : Shared).heap.objs.size = s.heap.objs.size + 1 from Heap.size_push ..]
  refine wpAny_bind ?_
  rw [List.forIn_nil]
  exact wpAny_pure (wpAny_pure hQ)
noncomputable def freesOf (cells : List (Str × Addr)) : List (Str × NameKind) → List (Str × Addr) → List (Str × Addr)
  | [], acc => acc
  | (n, k) :: r, acc => if k == .free then (match cells.lookup n with
      | some c => freesOf cells r ((n, c) :: acc)
      | none => freesOf cells r acc) else freesOf cells r acc
theorem closureFor_eq {scope : Scope} {env : Env} (h : ∀ y ∈ scope.names, y.2 = .free → ∃ c, env.cells.lookup y.1 = some c) : closureFor scope env = pure (freesOf env.cells scope.names []) := by
  unfold closureFor
  have key : ∀ (names : List (Str × NameKind)) (acc : List (Str × Addr)), (∀ y ∈ names, y.2 = .free → ∃ c, env.cells.lookup y.1 = some c) →
      (forIn names acc (fun (x : Str × NameKind) (r : List (Str × Addr)) => (match x with
        | (name, kind) => if (kind == NameKind.free) = true then do
            let c ← cellOf env name
            pure (ForInStep.yield ((name, c) :: r))
          else pure (ForInStep.yield r) : Sem (ForInStep (List (Str × Addr)))))) = (pure (freesOf env.cells names acc) : Sem (List (Str × Addr))) := by
    intro names
    induction names with
    | nil => intro acc _; rfl
    | cons y r ih =>
      intro acc hh
      obtain ⟨n, kd⟩ := y
      rw [List.forIn_cons]
      unfold freesOf
      by_cases hk : (kd == NameKind.free) = true
      · obtain ⟨c, hc⟩ := hh (n, kd) List.mem_cons_self (by simpa using hk)
        have hc' : env.cells.lookup n = some c := hc
        simp only [hk, if_true, hc']
        have e : cellOf env n = pure c := by unfold cellOf; rw [hc']
        rw [e]
        exact ih ((n, c) :: acc) fun z hz => hh z (List.mem_cons_of_mem _ hz)
      · simp only [hk]
        exact ih acc fun z hz => hh z (List.mem_cons_of_mem _ hz)
  exact (congrArg (fun m => m >>= fun cs => (pure cs : Sem (List (Str × Addr)))) (key scope.names [] h)).trans rfl
theorem freesOf_sub {cells : List (Str × Addr)} : ∀ {names : List (Str × NameKind)} {acc : List (Str × Addr)}, (∀ y c, (y, c) ∈ acc → cells.lookup y = some c) → ∀ y c, (y, c) ∈ freesOf cells names acc → cells.lookup y = some c
  | [], _, h, y, c, m => h y c m
  | (n, k) :: r, acc, h, y, c, m => by
    unfold freesOf at m
    split at m
    · split at m
      · rename_i c' e
        refine freesOf_sub (acc := (n, c') :: acc) (fun z d hz => ?_) y c m
        rcases List.mem_cons.mp hz with q | q
        · cases q; exact e
        · exact h z d q
      · exact freesOf_sub h y c m
    · exact freesOf_sub h y c m
theorem freesOf_acc {cells : List (Str × Addr)} : ∀ {names : List (Str × NameKind)} {acc : List (Str × Addr)} {y : Str}, (acc.lookup y).isSome = true → ((freesOf cells names acc).lookup y).isSome = true
  | [], _, _, h => h
  | (n, k) :: r, acc, y, h => by
    unfold freesOf
    split
    · split
      · refine freesOf_acc ?_
        rw [List.lookup_cons]
        split
        · rfl
        · exact h
      · exact freesOf_acc h
    · exact freesOf_acc h
theorem freesOf_has {cells : List (Str × Addr)} {y : Str} {c : Addr} (hc : cells.lookup y = some c) : ∀ {names : List (Str × NameKind)} {acc : List (Str × Addr)}, (y, NameKind.free) ∈ names → ((freesOf cells names acc).lookup y).isSome = true
  | (n, k) :: r, acc, h => by
    unfold freesOf
    rcases List.mem_cons.mp h with q | q
    · cases q
      simp only [hc]
      rw [if_pos (by rfl)]
      refine freesOf_acc ?_
      rw [List.lookup_cons, beq_self_eq_true]
      rfl
    · split
      · split
        · exact freesOf_has hc q
        · exact freesOf_has hc q
      · exact freesOf_has hc q
theorem cellsFrom_mem : ∀ {names : List (Str × NameKind)} {h : Heap} {acc : List (Str × Addr)} {y : Str} {c : Addr}, (y, c) ∈ cellsFrom h.objs.size names acc → (y, c) ∈ acc ∨ (h.objs.size ≤ c ∧ (pushCells h names).IsCell c none)
  | [], _, _, _, _, m => .inl m
  | (n, k) :: r, h, acc, y, c, m => by
    unfold cellsFrom at m
    unfold pushCells
    split at m
    · rename_i hk
      rw [if_pos hk]
      have m' : (y, c) ∈ cellsFrom (h.push { cls := .type "cell", data := .cell none }).objs.size r ((n, h.objs.size) :: acc) := by rw [Heap.size_push]; exact m
      rcases cellsFrom_mem m' with q | ⟨q1, q2⟩
      · rcases List.mem_cons.mp q with e | q
        · cases e
          refine .inr ⟨Nat.le_refl _, _, pushCells_keeps _ _ _ _ (Heap.get?_push_size _ rfl), rfl⟩
        · exact .inl q
      · rw [Heap.size_push] at q1
        exact .inr ⟨by omega, q2⟩
    · rename_i hk
      rw [if_neg hk]
      exact cellsFrom_mem m
theorem cellsFrom_inj : ∀ {names : List (Str × NameKind)} {n : Nat} {acc : List (Str × Addr)}, (∀ y c, (y, c) ∈ acc → c < n) → (∀ x y c, (x, c) ∈ acc → (y, c) ∈ acc → x = y) → ∀ x y c, (x, c) ∈ cellsFrom n names acc → (y, c) ∈ cellsFrom n names acc → x = y
  | [], _, _, _, h => h
  | (nm, k) :: r, n, acc, hlt, h => by
    unfold cellsFrom
    split
    · refine cellsFrom_inj (n := n + 1) (acc := (nm, n) :: acc) (fun y c m => ?_) (fun x y c m1 m2 => ?_)
      · rcases List.mem_cons.mp m with e | m
        · cases e; exact Nat.lt_succ_self _
        · exact Nat.lt_succ_of_lt (hlt y c m)
      · rcases List.mem_cons.mp m1 with e1 | m1 <;> rcases List.mem_cons.mp m2 with e2 | m2
        · cases e1; cases e2; rfl
        · cases e1; exact absurd (hlt y _ m2) (Nat.lt_irrefl _)
        · cases e2; exact absurd (hlt x _ m1) (Nat.lt_irrefl _)
        · exact h x y c m1 m2
    · exact cellsFrom_inj hlt h
theorem cellsFrom_loA {lo : Nat} {y : Str} : ∀ {names : List (Str × NameKind)} {n : Nat} {acc : List (Str × Addr)}, lo ≤ n → (∀ c, acc.lookup y = some c → lo ≤ c) → ∀ c, (cellsFrom n names acc).lookup y = some c → lo ≤ c
  | [], _, _, _, h => h
  | (nm, k) :: r, n, acc, hn, h => by
    unfold cellsFrom
    split
    · refine cellsFrom_loA (n := n + 1) (by omega) fun c e => ?_
      rw [List.lookup_cons] at e
      split at e
      · cases e; exact hn
      · exact h c e
    · exact cellsFrom_loA hn h
theorem cellsFrom_lo {lo : Nat} {y : Str} : ∀ {names : List (Str × NameKind)} {n : Nat} {acc : List (Str × Addr)}, lo ≤ n → (y, NameKind.cell) ∈ names → ∀ c, (cellsFrom n names acc).lookup y = some c → lo ≤ c
  | (nm, k) :: r, n, acc, hn, h => by
    unfold cellsFrom
    rcases List.mem_cons.mp h with q | q
    · cases q
      rw [if_pos (by rfl)]
      refine cellsFrom_loA (n := n + 1) (by omega) fun c e => ?_
      rw [List.lookup_cons, beq_self_eq_true] at e
      cases e; exact hn
    · split
      · exact cellsFrom_lo (n := n + 1) (by omega) q
      · exact cellsFrom_lo hn q
theorem cellsFrom_other {y : Str} : ∀ {names : List (Str × NameKind)} {n : Nat} {acc : List (Str × Addr)}, (y, NameKind.cell) ∉ names → (cellsFrom n names acc).lookup y = acc.lookup y
  | [], _, _, _ => rfl
  | (nm, k) :: r, n, acc, h => by
    unfold cellsFrom
    split
    · rename_i hk
      rw [cellsFrom_other (fun z => h (List.mem_cons_of_mem _ z)), List.lookup_cons]
      have hne : (y == nm) = false := by
        cases e : y == nm with
        | false => rfl
        | true =>
          have e1 : y = nm := beq_iff_eq.mp e
          have e2 : k = NameKind.cell := by simpa using hk
          exact absurd (by rw [e1, ← e2]; exact List.mem_cons_self) h
      rw [hne]
    · exact cellsFrom_other fun z => h (List.mem_cons_of_mem _ z)
noncomputable def relab (env : Env) (y : Str) (k : NameKind) : NameKind := if (k == NameKind.free && env.scope.kind == .function && env.kindOf y == some .cell) then .cell else k
theorem relabel_lookup {env : Env} {y : Str} : ∀ (names : List (Str × NameKind)), (names.map fun (n, k) => if (k == NameKind.free && env.scope.kind == .function && env.kindOf n == some .cell) then (n, NameKind.cell) else (n, k)).lookup y = (names.lookup y).map (relab env y)
  | [] => rfl
  | (n, k) :: r => by
    have ih := relabel_lookup (env := env) (y := y) r
    show List.lookup y ((if (k == NameKind.free && env.scope.kind == .function && env.kindOf n == some .cell) = true then (n, NameKind.cell) else (n, k)) :: _) = _
    cases hx : y == n with
    | true =>
      have e := beq_iff_eq.mp hx
      subst e
      rw [List.lookup_cons, List.lookup_cons]
      by_cases hc : (k == NameKind.free && env.scope.kind == .function && env.kindOf y == some .cell) = true
      · simp only [relab, hc, if_true, beq_self_eq_true, Option.map_some]
      · simp only [relab, hc, beq_self_eq_true, Option.map_some]
        simp
    | false =>
      by_cases hc : (k == NameKind.free && env.scope.kind == .function && env.kindOf n == some .cell) = true
      · rw [if_pos hc, List.lookup_cons, List.lookup_cons]; simp only [hx]; exact ih
      · rw [if_neg hc, List.lookup_cons, List.lookup_cons]; simp only [hx]; exact ih
theorem mem_names {l : List (Str × NameKind)} (hn : (l.map (·.1)).Nodup) {y : Str} {k : NameKind} (h : (y, k) ∈ l) : l.lookup y = some k := by
  induction l with
  | nil => cases h
  | cons p r ih =>
    rw [List.lookup_cons]
    rcases List.mem_cons.mp h with e | h
    · rw [← e, beq_self_eq_true]
    · have hne : y ≠ p.1 := fun e => by
        have := (List.nodup_cons.mp hn).1
        exact this (by show p.1 ∈ _; rw [← e]; exact List.mem_map.mpr ⟨(y, k), h, rfl⟩)
      have : (y == p.1) = false := by simpa using hne
      rw [this]
      exact ih (List.nodup_cons.mp hn).2 h
noncomputable def compEnv (scope : Scope) (env : Env) (C : Addr) : Env :=
  { newEnv scope C env.globals (cellsFrom (C + 1) scope.names (freesOf env.cells scope.names [])) env.qual none .none (some env) builtinsNs with scope := relabel scope env }
noncomputable def compCx (X : Cx) (N' : List Str) (scope : Scope) (C : Addr) (s : Shared) (H : Hp) (fp : List Addr) : Cx where
  prog := X.prog
  w := X.w
  K := X.K
  mg := X.mg
  base := X.base
  A := X.A
  N := N'
  s₀ := s
  H₀ := H
  env := compEnv scope X.env C
  outer := X.stack
  stack := X.stack
  ex := fp
  fn := fun y => scope.names.lookup y == some .cell
  calm := X.calm
  pn := []
  xe := fun _ _ => False
structure CompOk (X : Cx) (k : Nat) (N' : List Str) (scope : Scope) : Prop where
  kind : scope.kind = .function
  names : (scope.names.map (·.1)).Nodup
  len : N'.length = X.N.length + k
  frees : (scope.names.all fun y => y.2 != .free || X.env.kindOf y.1 == some .cell || X.env.kindOf y.1 == some .free) = true
  outs : ((N'.zip X.N).all fun p => (p.1 == p.2 && scope.names.lookup p.1 == some .free) || scope.names.lookup p.1 == none || scope.names.lookup p.1 == some .globalImplicit) = true
theorem CompOk.free {X : Cx} {k : Nat} {N' : List Str} {scope : Scope} (S : CompOk X k N' scope) {y : Str} (h : (y, NameKind.free) ∈ scope.names) : X.env.kindOf y = some .cell ∨ X.env.kindOf y = some .free := by
  have := List.all_eq_true.mp S.frees (y, NameKind.free) h
  simp only [Bool.or_eq_true, bne_iff_ne, ne_eq, beq_iff_eq] at this
  rcases this with (h1 | h1) | h1
  · exact absurd trivial h1
  · exact .inl h1
  · exact .inr h1
theorem CompOk.out {X : Cx} {k : Nat} {N' : List Str} {scope : Scope} (S : CompOk X k N' scope) {i : Nat} {y : Str} (hi' : i < X.N.length) (h : N'[i]? = some y) (hv : Vis (relabel scope X.env) y) : X.N[i]? = some y ∧ scope.names.lookup y = some .free := by
  have e2 : X.N[i]? = some X.N[i] := by simp [hi']
  have m : (y, X.N[i]) ∈ N'.zip X.N := List.mem_of_getElem? (i := i) (by rw [List.getElem?_zip_eq_some]; exact ⟨h, e2⟩)
  have := List.all_eq_true.mp S.outs _ m
  simp only [Bool.or_eq_true, Bool.and_eq_true, beq_iff_eq] at this
  have hl : (relabel scope X.env).names.lookup y = (scope.names.lookup y).map (relab X.env y) := relabel_lookup _
  rcases this with (⟨h1, h2⟩ | h1) | h1
  · exact ⟨by rw [e2, ← h1], h2⟩
  · rw [h1] at hl
    rcases hv with z | z | z <;> (rw [hl] at z; cases z)
  · rw [h1] at hl
    have hr : relab X.env y .globalImplicit = .globalImplicit := rfl
    rw [Option.map_some, hr] at hl
    rcases hv with z | z | z <;> (rw [hl] at z; cases z)
end L2
set_option Elab.async false
set_option linter.all false
set_option maxRecDepth 100000
namespace L2
open PySem PySem.Spec PyProof.Rows
theorem Un.updNew {fs ex : List Addr} {P : Program} {w : World} {H H' : Hp} {h h' : Heap} {D : Addr} {o : HO} (u : Un fs ex H H' h h') (hok : HOk P w H h) (hD : h.objs.size ≤ D) : Un fs ex H (upd H' D o) h h' := by
  have ne : ∀ b ob, h.get? b = some ob → b ≠ D := fun b ob e z => absurd (Nat.lt_of_lt_of_le (Heap.lt_size e) hD) (by rw [z]; exact Nat.lt_irrefl _)
  have ne' : ∀ b x, H b = some x → b ≠ D := fun b x e z => absurd (Nat.lt_of_lt_of_le (hok.lt e) hD) (by rw [z]; exact Nat.lt_irrefl _)
  refine ⟨u.keep, u.slot, fun b ob e n hx => ?_, u.there, fun b xs e => ?_, fun b ob x e => ?_, fun b ps e => ?_⟩
  · rw [upd_ne (ne b ob e)]; exact u.free b ob e n hx
  · rw [upd_ne (ne' b _ e)]; exact u.tups b xs e
  · rw [upd_ne (ne' b _ e)]; exact u.frzs b ob x e
  · rw [upd_ne (ne' b _ e)]; exact u.tbls b ps e
theorem HOk.add {P : Program} {w : World} {H : Hp} {h : Heap} {D : Addr} {o : HO} (x : HOk P w H h) (hn : H D = none) (new : ObjOk P w (upd H D o) h D o) : HOk P w (upd H D o) h := fun b u e => by
  by_cases hb : b = D
  · subst hb; rw [upd_same] at e; cases e; exact new
  · rw [upd_ne hb] at e
    exact (x b u e).stay (fun c v _ q => q) (fun c q => by rw [upd_ne (ne_of_none q hn)]; exact q) fun c xs q => by rw [upd_ne (ne_of_none q hn)]; exact q
noncomputable def PTs (X : Cx) (ifs : List Expr) (t : TT) : Prop :=
  ∀ (pins : List (Addr × Obj)) (s : Shared) (σ : St) (H : Hp) (Q : Bool → Hp → Prop), Inv X pins σ H s → t σ H Q →
    wpAny (model X.prog X.w) X.A (forIn ifs true fun c r => if r = true then do let ok ← isTrue c X.env (eval c X.env); pure (ForInStep.yield ok) else pure (ForInStep.yield r)) (TP X pins σ Q) X.xe s
noncomputable def tYes : TT := fun _ H Q => Q true H
theorem pts_nil {X : Cx} : PTs X [] tYes := fun pins s σ H Q I h => wpAny_tests_nil ⟨H, I, h⟩
theorem pts_one {X : Cx} {c : Expr} {t : TT} (h : PT X c t) : PTs X [c] t := fun pins s σ H Q I q => wpAny_tests_one (h pins s σ H Q I q)
noncomputable def CompR (k : Nat) (g : TG) (tt : TT) (te : TE) (σ : St) (J : It) (H : Hp) (Fin : List V → Hp → Prop) : Prop :=
  ∃ W : Nat → Nat → List V → Hp → Prop, (∃ m, W 0 m [] H) ∧ ∀ i m ys H2, W i m ys H2 → ys.length ≤ sizeLine ∧
    ((J.stop i H2 ∧ Fin ys H2) ∨ (J.go i H2 ∧ ys.length < sizeLine ∧ ∀ x H3, J.yld i H2 x H3 → g x (σ ++ List.replicate k none) H3 fun σ4 H4 => (∃ τ, σ4 = σ ++ τ ∧ τ.length = k) ∧
      tt σ4 H4 fun b H5 => if b = true then te σ4 H5 fun v H6 => ∃ m', m' < m ∧ W (i + 1) m' (ys ++ [v]) H6 else ∃ m', m' < m ∧ W (i + 1) m' ys H5))
noncomputable def tComp (k : Nat) (wi : TI) (g : TG) (tt : TT) (te : TE) : TE := fun σ H Q => wi σ H fun J H1 => CompR k g tt te σ J H1 fun ys H2 => ∀ p, H2 p = none → Q (.ref p) (upd H2 p (.lst ys))
noncomputable def lsO (us : List Value) (n : Nat) : Obj := { cls := .type "list", data := .seq us.toArray n }
theorem weakT {X : Cx} {pins : List (Addr × Obj)} {τ σ : St} {H : Hp} {s : Shared} (I : Inv X pins (σ ++ τ) H s) : Inv X pins (σ ++ List.replicate τ.length none) H s :=
  I.weak (by simp) fun i v e => by
    by_cases hi : i < σ.length
    · rw [List.getElem?_append_left hi] at e ⊢
      exact e
    · rw [List.getElem?_append_right (by omega), List.getElem?_replicate] at e
      split at e <;> cases e
section
variable {X : Cx} {k : Nat} {N' : List Str} {scope : Scope} {pins : List (Addr × Obj)} {σ : St} {H2 : Hp} {s2 : Shared} {fp : List Addr}
noncomputable abbrev compHeap (scope : Scope) (s2 : Shared) : Heap := pushCells ((s2.heap.push (lsO [] 0)).push { cls := .type "dict", data := .dict #[] }) scope.names
theorem comp_inv (S : CompOk X k N' scope) (I2 : Inv X pins σ H2 s2) (f2 : ∀ b ∈ fp, FpOk X pins H2 b) (hfp : ∀ b ∈ fp, b < s2.heap.objs.size) :
    Inv (compCx X N' scope (s2.heap.objs.size + 1) s2 H2 fp) [(s2.heap.objs.size, lsO [] 0)] (σ ++ List.replicate k none) H2 { s2 with heap := compHeap scope s2 } := by
  have e1 : (s2.heap.push (lsO [] 0)).objs.size = s2.heap.objs.size + 1 := Heap.size_push ..
  have e2 : ((s2.heap.push (lsO [] 0)).push { cls := .type "dict", data := .dict #[] }).objs.size = s2.heap.objs.size + 1 + 1 := by rw [Heap.size_push, e1]
  have keep : ∀ b o, s2.heap.get? b = some o → (compHeap scope s2).get? b = some o := fun b o e => pushCells_keeps _ _ b o (Heap.get?_push_of_some _ (Heap.get?_push_of_some _ e))
  have hsub : ∀ y c, (y, c) ∈ freesOf X.env.cells scope.names [] → X.env.cells.lookup y = some c := freesOf_sub (fun _ _ m => nomatch m)
  have cmem : ∀ y c, (y, c) ∈ cellsFrom (s2.heap.objs.size + 1 + 1) scope.names (freesOf X.env.cells scope.names []) → X.env.cells.lookup y = some c ∨ (s2.heap.objs.size + 1 + 1 ≤ c ∧ (compHeap scope s2).IsCell c none) := fun y c m => by
    have m' : (y, c) ∈ cellsFrom ((s2.heap.push (lsO [] 0)).push { cls := .type "dict", data := .dict #[] }).objs.size scope.names (freesOf X.env.cells scope.names []) := by rw [e2]; exact m
    rcases cellsFrom_mem m' with q | ⟨q1, q2⟩
    · exact .inl (hsub y c q)
    · rw [e2] at q1; exact .inr ⟨q1, q2⟩
  have clt : ∀ y c, X.env.cells.lookup y = some c → c < s2.heap.objs.size := fun y c e => by obtain ⟨v, z⟩ := I2.cell y c e; exact z.lt
  have hl : ∀ y, (relabel scope X.env).names.lookup y = (scope.names.lookup y).map (relab X.env y) := fun y => relabel_lookup _
  have ok : (compCx X N' scope (s2.heap.objs.size + 1) s2 H2 fp).Ok := by
    refine ⟨I2.ok.mod, S.kind, I2.ok.glob, I2.ok.blt, Nat.le_succ _, fun x y c h1 h2 => ?_, fun x hx => ?_, fun x c hf h => ?_, I2.ok.hd, I2.ok.frames, .inl rfl, fun b hb => ⟨?_, fun x c h z => ?_⟩, I2.bs, Nat.le_trans I2.ok.bsz I2.sz, fun b o e hb => ?_, fun b hb z => ?_, I2.stack, I2.stkFree⟩
    · refine cellsFrom_inj (n := s2.heap.objs.size + 1 + 1) (names := scope.names) (acc := freesOf X.env.cells scope.names []) (fun y c m => ?_) (fun x y c m1 m2 => ?_) x y c (PySem.mem_of_lookup h1) (PySem.mem_of_lookup h2)
      · exact Nat.lt_of_lt_of_le (clt y c (hsub y c m)) (by omega)
      · exact I2.ok.inj x y c (hsub x c m1) (hsub y c m2)
    · have hx' : (relabel scope X.env).names.lookup x = some .cell ∨ (relabel scope X.env).names.lookup x = some .free := hx
      rw [hl x] at hx'
      have : scope.names.lookup x = some .cell ∨ scope.names.lookup x = some .free := by
        cases e : scope.names.lookup x with
        | none => rw [e] at hx'; rcases hx' with z | z <;> cases z
        | some kd =>
          rw [e, Option.map_some] at hx'
          cases kd <;> first
            | exact .inl rfl
            | exact .inr rfl
            | (rcases hx' with z | z <;> (have z' := Option.some.inj z; unfold relab at z'; simp at z'))
      rcases this with q | q
      · exact Option.isSome_iff_exists.mp (PySem.W.cellsFrom_some scope.names (s2.heap.objs.size + 1 + 1) _ (.inl q))
      · have qm := PySem.mem_of_lookup q
        have hk := S.free qm
        obtain ⟨c, hc⟩ := I2.ok.has x hk
        exact Option.isSome_iff_exists.mp (PySem.W.cellsFrom_some scope.names (s2.heap.objs.size + 1 + 1) _ (.inr (freesOf_has hc qm)))
    · have hf' : (scope.names.lookup x == some .cell) = true := hf
      have := cellsFrom_lo (lo := s2.heap.objs.size) (n := s2.heap.objs.size + 1 + 1) (acc := freesOf X.env.cells scope.names []) (by omega) (PySem.mem_of_lookup (beq_iff_eq.mp hf')) c h
      exact this
    · have := hfp b hb
      show b ≠ s2.heap.objs.size + 1
      exact Nat.ne_of_lt (Nat.lt_of_lt_of_le this (Nat.le_succ _))
    · have q := hfp b hb
      rcases cmem x c (PySem.mem_of_lookup h) with w | ⟨w, _⟩
      · exact (f2 b hb).2.2.2.2.1 x c w z
      · subst z; exact absurd (Nat.lt_of_lt_of_le q (Nat.le_trans (by omega) w)) (Nat.lt_irrefl _)
    · rcases (f2 b hb).2.2.2.1 with z | z
      · exact I2.ok.noex b o e z
      · have := Heap.lt_size e
        have := I2.ok.bsz
        exact absurd (Nat.lt_of_lt_of_le (Heap.lt_size e) (Nat.le_trans I2.ok.bsz z)) (Nat.lt_irrefl _)
    · rcases List.mem_cons.mp (I2.stkSub b z) with q | q
      · exact (f2 b hb).2.1 q
      · exact (f2 b hb).2.2.1 q
  obtain ⟨m, hn, hloc⟩ := id I2.loc
  refine ⟨ok, rfl, I2.bare, Un.kept keep, ⟨fun _ => none, ?_, fun i y v h1 h2 h3 => ?_⟩, fun y c h => ?_, I2.hok.fresh (Nat.le_succ _), fun y c h => ?_, fun p hp => ?_, I2.hok.kept keep, ?_⟩
  · have := (Heap.Ns.new (s2.heap.push (lsO [] 0)) (.type "dict")).keeps (pushCells_keeps scope.names _)
    rw [e1] at this
    exact this
  · by_cases hi : i < σ.length
    · have h3' : Vis (relabel scope X.env) y := h3
      obtain ⟨o1, o2⟩ := S.out (by rw [← I2.len]; exact hi) h1 h3'
      have hk := S.free (PySem.mem_of_lookup o2)
      have hs : σ[i]? = some (some v) := by
        rw [List.getElem?_append_left hi] at h2
        exact h2
      obtain ⟨u, r, l⟩ := hloc i y v o1 hs (.inr hk)
      refine ⟨u, r, ?_⟩
      rcases l with ⟨l, _⟩ | ⟨_, c, hc, hcell⟩
      · rcases hk with z | z <;> (rw [l] at z; cases z)
      · refine .inr ⟨?_, c, ?_, hcell.keeps keep⟩
        · show (relabel scope X.env).names.lookup y = some .cell ∨ (relabel scope X.env).names.lookup y = some .free
          rw [hl y, o2, Option.map_some]
          unfold relab
          split
          · exact .inl rfl
          · exact .inr rfl
        · show (cellsFrom (s2.heap.objs.size + 1 + 1) scope.names (freesOf X.env.cells scope.names [])).lookup y = some c
          rw [cellsFrom_other (fun z => by have := mem_names S.names z; rw [o2] at this; cases this)]
          obtain ⟨c', hc'⟩ := Option.isSome_iff_exists.mp (freesOf_has (acc := []) hc (PySem.mem_of_lookup o2))
          have := hsub y c' (PySem.mem_of_lookup hc')
          rw [hc] at this; cases this
          exact hc'
    · rw [List.getElem?_append_right (by omega), List.getElem?_replicate] at h2
      split at h2 <;> cases h2
  · rcases cmem y c (PySem.mem_of_lookup h) with w | ⟨_, w⟩
    · obtain ⟨v, z⟩ := I2.cell y c w
      exact ⟨v, z.keeps keep⟩
    · exact ⟨_, w⟩
  · rcases cmem y c (PySem.mem_of_lookup h) with w | ⟨w, _⟩
    · exact I2.freeC y c w
    · exact I2.hok.fresh (by omega)
  · have e : p = (s2.heap.objs.size, lsO [] 0) := by
      have : p ∈ [(s2.heap.objs.size, lsO [] 0)] := hp
      simpa using this
    subst e
    refine ⟨pushCells_keeps _ _ _ _ (Heap.get?_push_of_some _ (Heap.get?_push_size _ rfl)), I2.hok.fresh (Nat.le_refl _), ?_, fun z => ?_, fun v z => nomatch z⟩
    · show s2.heap.objs.size ≠ s2.heap.objs.size + 1
      omega
    · have z' : s2.heap.objs.size ∈ frs X.stack := z
      rcases List.mem_cons.mp (I2.stkSub _ z') with q | q
      · exact absurd I2.lt (by rw [← q]; exact Nat.lt_irrefl _)
      · exact I2.nofs (Nat.le_refl _) q
  · rw [List.length_append, List.length_replicate, I2.len]
    exact S.len.symm
theorem comp_out {us : List Value} {n : Nat} {ys : List V} {H' : Hp} {s' : Shared} {σ' : St} {C : Addr} (I2 : Inv X pins σ H2 s2) (f2 : ∀ b ∈ fp, FpOk X pins H2 b)
    (I3 : Inv (compCx X N' scope C s2 H2 fp) [(s2.heap.objs.size, lsO us n)] σ' H' s') (r : Vals ys us) (hz : ys.length ≤ sizeLine) : Inv X pins σ (upd H' s2.heap.objs.size (.lst ys)) s' := by
  obtain ⟨e, hn, _⟩ := I3.pin (s2.heap.objs.size, lsO us n) (List.mem_append_right _ (List.mem_singleton.mpr rfl))
  have u : Un (frs X.stack) fp H2 H' s2.heap s'.heap := I3.base
  exact I2.call' (ch := fp) I3.os (u.updNew I2.hok (Nat.le_refl _)) (I3.hok.add hn ⟨hz, us, n, r, e⟩) I3.bare fun b hb => ⟨(f2 b hb).2.2.2.1, (f2 b hb).2.1, (f2 b hb).2.2.2.2⟩
end
theorem comp_run {X : Cx} {k : Nat} {N' : List Str} {scope : Scope} {pins : List (Addr × Obj)} {σ : St} {H2 : Hp} {s2 : Shared} {fp : List Addr} {elt tg iter : Expr} {ifs : List Expr} {pos : Pos} {it : Addr} {tn : Nat → Heap → Prop} {J : It} {g : TG} {tt : TT} {te : TE} {Fin : List V → Hp → Prop} {E : Value → Shared → Prop} {RR : Value → Addr → Result → Shared → Prop}
    (hc : X.calm = true) (S : CompOk X k N' scope) (hg : ∀ C s H fp, PG (compCx X N' scope C s H fp) tg g) (ht : ∀ C s H fp, PTs (compCx X N' scope C s H fp) ifs tt) (he : ∀ C s H fp, PE (compCx X N' scope C s H fp) elt te)
    (I2 : Inv X pins σ H2 s2) (T : Turn X.prog X.w X.K tg J fp it tn) (st2 : tn 0 s2.heap) (f2 : ∀ b ∈ fp, FpOk X pins H2 b) (R : CompR k g tt te σ J H2 Fin)
    (hRR : ∀ C ys H' s' m', Inv X pins σ (upd H' s2.heap.objs.size (.lst ys)) s' → s'.heap.Ns C m' → H' s2.heap.objs.size = none → upd H' s2.heap.objs.size (.lst ys) C = none → C ≠ X.env.locals → X.s₀.heap.objs.size ≤ C → s2.heap.objs.size < C →
      Fin ys H' → RR (.ref s2.heap.objs.size) C (.ok .next) s') :
    wpAny (model X.prog X.w) X.A (newList []) (fun acc s₃ => wpAny (model X.prog X.w) X.A (newFunctionEnv scope X.env.globals (freesOf X.env.cells scope.names []) [] X.env.qual none .none (some X.env)) (fun cenv s₄ =>
      codeAny (model X.prog X.w) X.A (.compStart (.ListComp elt [⟨tg, iter, ifs, 0⟩] scope pos) 0 (.ref it) acc { cenv with scope := relabel scope X.env }) (RR acc cenv.locals) s₄) E s₃) E s2 := by
  refine wpAny_newObj_type (newEnv_comp ?_)
  have e1 : (s2.heap.push (lsO [] 0)).objs.size = s2.heap.objs.size + 1 := Heap.size_push ..
  have hfp : ∀ b ∈ fp, b < s2.heap.objs.size := fun b hb => by obtain ⟨o, e, _⟩ := T.obj _ _ st2 b hb; exact Heap.lt_size e
  obtain ⟨W, ⟨m0, w0⟩, turn⟩ := R
  have I3 := comp_inv S I2 f2 hfp
  have st3 : tn 0 (compHeap scope s2) := T.keep _ _ _ st2 fun b hb o e => pushCells_keeps _ _ b o (Heap.get?_push_of_some _ (Heap.get?_push_of_some _ e))
  have hDC : s2.heap.objs.size ≠ s2.heap.objs.size + 1 := by omega
  -- what stays true of the iterator's objects
  have stat : ∀ {H' : Hp} {us : List Value} {n : Nat}, (∀ b ∈ fp, H' b = none) → ∀ b ∈ fp, FpOk (compCx X N' scope (s2.heap.objs.size + 1) s2 H2 fp) [(s2.heap.objs.size, lsO us n)] H' b := fun {H' us n} hn b hb => by
    have q := I3.ok.exf b hb
    refine ⟨hn b hb, q.1, I3.ok.exfs b hb, .inl hb, q.2, fun p hp z => ?_⟩
    have hp' : p ∈ [(s2.heap.objs.size, lsO us n)] := hp
    have e : p = (s2.heap.objs.size, lsO us n) := by simpa using hp'
    subst e
    have := hfp b hb
    have z' : s2.heap.objs.size = b := z
    exact absurd this (by rw [z']; exact Nat.lt_irrefl _)
  have loop : ∀ it', it' = Value.ref it → codeAny (model X.prog X.w) X.A (.compLoop (.ListComp elt [⟨tg, iter, ifs, 0⟩] scope pos) 0 it' (.ref s2.heap.objs.size) (compEnv scope X.env (s2.heap.objs.size + 1))) (RR (.ref s2.heap.objs.size) (s2.heap.objs.size + 1)) { s2 with heap := compHeap scope s2 } := by
    rintro _ rfl
    refine compLoop_gen (fun n s' => ∃ i ys us cnt H', Inv (compCx X N' scope (s2.heap.objs.size + 1) s2 H2 fp) [(s2.heap.objs.size, lsO us cnt)] (σ ++ List.replicate k none) H' s' ∧ tn i s'.heap ∧ (∀ b ∈ fp, H' b = none) ∧ Vals ys us ∧ W i n ys H') ?_ m0
      ⟨0, [], [], 0, H2, I3, st3, fun b hb => (f2 b hb).1, .nil, w0⟩
    rintro n s3 ⟨i, ys, us, cnt, H3, J3, st, fr, r3, w3⟩
    obtain ⟨hz, hw⟩ := turn i n ys H3 w3
    rcases hw with ⟨stop, fin⟩ | ⟨go, hlt, step⟩
    · refine thn (T.done (compCx X N' scope (s2.heap.objs.size + 1) s2 H2 fp) rfl rfl rfl hc i _ s3 _ H3 _ J3 (stat fr) st stop) fun rr s4 ⟨hr, I4⟩ => ?_
      subst hr
      obtain ⟨m', hn', _⟩ := id I4.loc
      obtain ⟨eD, nD, _⟩ := I4.pin (s2.heap.objs.size, lsO us cnt) (List.mem_append_right _ (List.mem_singleton.mpr rfl))
      refine hRR (s2.heap.objs.size + 1) ys H3 s4 m' (comp_out I2 f2 I4 r3 hz) hn' nD ?_ ?_ ?_ (Nat.lt_succ_self _) fin
      · rw [upd_ne (Ne.symm hDC)]; exact I4.free
      · exact Ne.symm (Nat.ne_of_lt (Nat.lt_of_lt_of_le I2.lt (Nat.le_succ _)))
      · have := I2.sz; omega
    · refine thn (T.item (compCx X N' scope (s2.heap.objs.size + 1) s2 H2 fp) rfl rfl rfl hc i _ s3 _ H3 _ J3 (stat fr) st go) fun rr s4 ⟨u, hr, h4⟩ => ?_
      subst hr
      refine thn h4 fun _ s5 hh0 => ?_
      obtain ⟨x, H5, I5, r5, y5, st5, fr5⟩ := hh0
      have I5' := I5.pinned (stat fr5) (T.obj _ _ st5)
      refine thn (hg _ _ _ _ _ s5 _ H5 x u _ I5' r5 (step x H5 y5)) fun _ s6 ⟨σ6, H6, I6, ⟨τ, e6, l6⟩, q6⟩ => ?_
      subst e6
      refine thn (ht _ _ _ _ _ s6 _ H6 _ I6 q6) fun ok s7 hh0 => ?_
      obtain ⟨H7, I7, q7⟩ := hh0
      have kept : ∀ {s' : Shared} {H' : Hp} {σ' : St}, Inv (compCx X N' scope (s2.heap.objs.size + 1) s2 H2 fp) ([(s2.heap.objs.size, lsO us cnt)] ++ pinsAt fp s5.heap) σ' H' s' → tn (i + 1) s'.heap ∧ ∀ b ∈ fp, H' b = none := fun {s' H' σ'} I' => by
        refine ⟨T.keep _ _ _ st5 fun b hb o e => (I'.pin (b, o) (List.mem_append_right _ (List.mem_append_right _ (mem_pinsAt hb e)))).1, fun b hb => ?_⟩
        obtain ⟨o, e, d⟩ := T.obj _ _ st5 b hb
        exact (I'.pin (b, o) (List.mem_append_right _ (List.mem_append_right _ (mem_pinsAt hb e)))).2.1
      cases ok with
      | false =>
        rw [if_neg (by decide)] at q7 ⊢
        obtain ⟨m', hm, w7⟩ := q7
        have := weakT I7.unpinned
        rw [l6] at this
        exact ⟨m', hm, i + 1, ys, us, cnt, H7, this, (kept I7).1, (kept I7).2, r3, w7⟩
      | true =>
        rw [if_pos rfl] at q7 ⊢
        refine thn (he _ _ _ _ _ s7 _ H7 _ I7 q7) fun u8 s8 hh0 => ?_
        obtain ⟨v, H8, I8, r8, m', hm, w8⟩ := hh0
        obtain ⟨eD, nD, neD, nfD, dD⟩ := I8.pin (s2.heap.objs.size, lsO us cnt) (List.mem_append_right _ (List.mem_append_left _ (List.mem_singleton.mpr rfl)))
        refine append_at eD (fun h9 hs9 hD9 => ?_) (hsz := by rw [List.size_toArray, ← r3.length]; exact Nat.le_of_lt hlt)
        have Ia := I8.pins_of (pins' := pinsAt fp s5.heap) fun p hp => I8.pin p (List.mem_append_right _ (List.mem_append_right _ hp))
        have nfp : ∀ p ∈ pinsAt fp s5.heap, p.1 ≠ s2.heap.objs.size := fun p hp z => by
          have := hfp p.1 (of_pinsAt hp).1
          exact absurd this (by rw [z]; exact Nat.lt_irrefl _)
        have Ib := Ia.turned (h' := h9) (t' := s8.toks) (it := s2.heap.objs.size) (fun b o hb e => hs9.extBut b o hb e) nD neD (.inr (Nat.le_refl _)) (fun y c h z => by
            obtain ⟨vv, o, ho, hd⟩ := I8.cell y c h
            rw [z, eD] at ho
            cases ho
            cases hd) (fun p hp => nfp p (by
            have hp' : p ∈ [] ++ pinsAt fp s5.heap := hp
            simpa using hp'))
        have Ic := Ib.pins_of (pins' := [(s2.heap.objs.size, lsO (us ++ [u8]) (cnt + 1))]) fun p hp => by
          have e : p = (s2.heap.objs.size, lsO (us ++ [u8]) (cnt + 1)) := by simpa using hp
          subst e
          refine ⟨?_, nD, neD, nfD, fun v z => nomatch z⟩
          show h9.get? s2.heap.objs.size = _
          rw [hD9]
          unfold lsO
          simp
        have Id := weakT Ic
        rw [l6] at Id
        have kp := kept I8
        refine ⟨m', hm, i + 1, ys ++ [v], us ++ [u8], cnt + 1, H8, Id, T.keep _ _ _ kp.1 fun b hb o e => hs9.extBut b o (fun z => by
          have := hfp b hb
          have z' : b = s2.heap.objs.size := z
          exact absurd this (by rw [z']; exact Nat.lt_irrefl _)) e, kp.2, Vals.append r3 (.cons r8 .nil), w8⟩
  have hC : (s2.heap.push { cls := .type "list", dict := none, data := .seq ([] : List Value).toArray }).objs.size = s2.heap.objs.size + 1 := Heap.size_push ..
  have fin := codeAny_compStart_list (loop _ rfl) (T.self X.A 0 _ _ _ st3 (loop _ rfl))
  dsimp only at fin ⊢
  rw [hC]
  exact fin
theorem CompOk.locs {X : Cx} {k : Nat} {N' : List Str} {scope : Scope} (S : CompOk X k N' scope) : ∀ y ∈ scope.names, y.2 = .local → scope.names.lookup y.1 = some .local := fun y hy e => by
  obtain ⟨n, kd⟩ := y
  have e' : kd = .local := e
  subst e'
  exact mem_names S.names hy
theorem ns_ne_cell {h : Heap} {C c : Addr} {m : Str → Option Value} {v : Option Value} (hn : h.Ns C m) (hc : h.IsCell c v) : c ≠ C := fun z => by
  obtain ⟨o, es, ep, ho, hd, _⟩ := hn
  obtain ⟨o', ho', hd'⟩ := hc
  rw [z, ho] at ho'
  cases ho'
  rw [hd] at hd'
  cases hd'
section
variable {X : Cx} {k : Nat} {N' : List Str} {scope : Scope} {elt tg iter : Expr} {ifs : List Expr} {pos : Pos} {wi : TI} {g : TG} {tt : TT} {te : TE}
theorem pe_comp (hc : X.calm = true) (S : CompOk X k N' scope) (hi : PI X tg iter wi) (hg : ∀ C s H fp, PG (compCx X N' scope C s H fp) tg g) (ht : ∀ C s H fp, PTs (compCx X N' scope C s H fp) ifs tt) (he : ∀ C s H fp, PE (compCx X N' scope C s H fp) elt te)
    (hs : ∀ x, foldedSetIterable iter X.env x = pure x := by intro _; rfl) : PE X (.ListComp elt [⟨tg, iter, ifs, 0⟩] scope pos) (tComp k wi g tt te) := by
  intro pins s σ H Q I h
  rw [eval_ListComp]
  refine wpAny_comprehension_free (use := none) rfl hs (closureFor_eq fun y hy e => ?_) S.kind S.locs (thn (hi pins s σ H _ I h) fun v s1 h1 => thn h1 fun itv s2 h2 => ?_)
  · obtain ⟨n, kd⟩ := y
    have e' : kd = .free := e
    subst e'
    exact I.ok.has n (S.free hy)
  · obtain ⟨it, fp, tn, J, H2, e, I2, T, st2, f2, R⟩ := h2
    subst e
    refine comp_run hc S hg ht he I2 T st2 f2 R ?_
    intro C ys H' s' m' I' hn hD hCn hCL hCs hCD fin
    refine ⟨m', hn, fun h' hs' => ⟨.ref s2.heap.objs.size, _, I'.turned (h' := h') (t' := s'.toks) (it := C) (fun b o hb e => hs'.extBut b o hb e) hCn hCL (.inr hCs) (fun x c h => ?_) (fun p hp z => ?_), rfl, fin _ hD⟩⟩
    · obtain ⟨v, q⟩ := I'.cell x c h
      exact ns_ne_cell hn q
    · have := Heap.lt_size (I2.pin p hp).1
      exact absurd (Nat.lt_trans this hCD) (by rw [z]; exact Nat.lt_irrefl _)
theorem ps_setC {i : Nat} {y : Str} {py spos : Pos} (hN : X.N.Nodup) (hy : X.N[i]? = some y) (hx : Loc X.env.scope y) (hsw : swapsWith (.ListComp elt [⟨tg, iter, ifs, 0⟩] scope pos) (some (.Name y py)) spos.line X.env = pure true)
    (hc : X.calm = true) (S : CompOk X k N' scope) (hi : PI X tg iter wi) (hg : ∀ C s H fp, PG (compCx X N' scope C s H fp) tg g) (ht : ∀ C s H fp, PTs (compCx X N' scope C s H fp) ifs tt) (he : ∀ C s H fp, PE (compCx X N' scope C s H fp) elt te)
    (hs : ∀ x, foldedSetIterable iter X.env x = pure x := by intro _; rfl) (hf : X.fn y = true ∨ X.env.scope.names.lookup y = some .local := by first | exact .inl rfl | exact .inr rfl | assumption) :
    PS X (.Assign [.Name y py] (.ListComp elt [⟨tg, iter, ifs, 0⟩] scope pos) spos) (tAsg (tComp k wi g tt te) (gName i)) := by
  intro pins s σ H D I h
  rw [exec_Assign_Name_used _ _ _ _ hsw]
  refine wpAny_bind (wpAny_standAt (wpAny_bind ?_))
  show wpAny _ X.A (do let _ ← comprehension (.ListComp elt [⟨tg, iter, ifs, 0⟩] scope pos) scope X.env _ (newList []) false (eval iter X.env) (some (assign (.Name y py) X.env))) _ _ s
  refine wpAny_bind (wpAny_mono (wpAny_comprehension_free (use := some (assign (.Name y py) X.env)) (Q := fun _ s' => SP X pins D .next s') rfl hs (closureFor_eq fun z hz e => ?_) S.kind S.locs
    (thn (hi pins s σ H _ I h) fun v s1 h1 => thn h1 fun itv s2 h2 => ?_)) (fun _ s' hq => wpAny_pure (wpAny_pure hq)) fun _ _ e => e)
  · obtain ⟨n, kd⟩ := z
    have e' : kd = .free := e
    subst e'
    exact I.ok.has n (S.free hz)
  · obtain ⟨it, fp, tn, J, H2, e, I2, T, st2, f2, R⟩ := h2
    subst e
    refine comp_run hc S hg ht he I2 T st2 f2 R ?_
    intro C ys H' s' m' I' hn hD hCn hCL hCs hCD fin
    show wpAny _ X.A (assign (.Name y py) X.env (.ref s2.heap.objs.size)) _ _ _
    refine wpAny_assign_Name (store_ok2 I' hN hy hx (v := .ref s2.heap.objs.size) rfl (fun s'' I'' ⟨a, sb, ha⟩ => ?_) hf)
    have hCa : C ≠ a := fun z => by
      rcases ha with q | q
      · exact hCL (z.trans q)
      · obtain ⟨v, w⟩ := I'.cell y a q
        exact ns_ne_cell hn w z.symm
    have hn2 := hn.sameBut sb hCa
    refine ⟨m', hn2, fun h' hs' => ⟨_, _, I''.turned (h' := h') (t' := s''.toks) (it := C) (fun b o hb e => hs'.extBut b o hb e) hCn hCL (.inr hCs) (fun x c h => ?_) (fun p hp z => ?_), fin _ hD⟩⟩
    · obtain ⟨v, q⟩ := I''.cell x c h
      exact ns_ne_cell hn2 q
    · have := Heap.lt_size (I2.pin p hp).1
      exact absurd (Nat.lt_trans this hCD) (by rw [z]; exact Nat.lt_irrefl _)
end
end L2
set_option Elab.async false
set_option linter.all false
set_option maxRecDepth 100000
namespace L3
open PySem PySem.Spec PyProof.Rows PySem.W L2
section
variable {prog : Program} {w : World} {A : Around} {E : Value → Shared → Prop} {s : Shared} {K : Frag} {x C : Addr} {ox : Obj}
structure XCls (K : Frag) (C : Addr) : Prop where
  ci : (clsIn K C).isSome = true
  ga : findIn K (.ref C) "__getattribute__" = some (some (.builtin "BaseException.__getattribute__"))
  gt : findIn K (.ref C) "__getattr__" = some none
  cl : findIn K (.ref C) "__class__" = some (some (.builtin "object.__class__"))
  cg : specialIn K (.builtin "object.__class__") "__get__" = some (some (.builtin "getset_descriptor.__get__"))
  ct : takesIn K (.builtin "object.__class__") = some true
  mo : mroIn K C (.type "object") = some true
  mb : mroIn K C (.type "BaseException") = some true
end
def bmV : List Value := [.type "ValueError", .type "Exception", .type "BaseException", .type "object"]
structure XKls (K : Frag) (nm : Str) (C : Addr) : Prop where
  ns : nsIn K mainGlobals nm = some (some (.ref C))
  xc : XCls K C
  ex : excIn K C bmV "ValueError.__new__" = true
  ve : subIn K (.ref C) (.type "ValueError") = some true
  no : ∀ T ∈ ["int", "bool", "tuple", "list", "str"], subIn K (.ref C) (.type T) = some false
noncomputable def XO (K : Frag) (nm : Str) (ob : Obj) : Prop := ∃ C, ob.cls = .ref C ∧ XKls K nm C
end L3
set_option Elab.async false
set_option linter.all false
set_option maxRecDepth 100000
namespace L3
open PySem PySem.Spec PyProof.Rows L2
end L3
set_option Elab.async false
set_option linter.all false
set_option maxRecDepth 100000
namespace L3
open PySem PySem.Spec PyProof.Rows L2
inductive D where
  | non | bl (b : Bool) | int (i : Int) | str (x : Str) | tup (ds : List D) | lst (ds : List D)
  /-- a dict that is not changed, its keys texts -/
  | dic (ks : List Str) (ds : List D)
  /-- an exception, by its class's name -/
  | exc (nm : Str)
  /-- a function made here: its place, its object, what it keeps of the names around it -/
  | ob (f : Addr) (fo : Obj) (vs : List V) (ds : List D)
noncomputable abbrev St := L2.St
inductive Ow where
  | s (i : Nat) | t (i : Nat) | f
  deriving DecidableEq
noncomputable abbrev Wn := Addr → Option Ow
noncomputable def KL (K : PySem.W.Frag) (a : Addr) (xs : List V) : Prop :=
  ∃ (o : Obj) (its : Array Value) (n : Nat), K.lookup a = some o ∧ o.cls = .type "list" ∧ o.dict = none ∧ o.data = .seq its n ∧ its.size ≤ sizeLine ∧ Vals xs its.toList
theorem SqL.cases {K : PySem.W.Frag} {H : Hp} {a : Addr} {xs : List V} (h : SqL K H a xs) : Rd H a (.lst xs) ∨ KL K a xs := h
theorem KL.sq {K : PySem.W.Frag} {H : Hp} {a : Addr} {xs : List V} (h : KL K a xs) : SqL K H a xs := .inr h
noncomputable def kvL (ks : List Str) (vs : List V) : List (Key × V) := (ks.map fun x => (Sum.inr x : Key)).zip vs
noncomputable def Clo (fo : Obj) (c : Addr) (oc : Obj) : Prop := fo.cls = .type "function" ∧ (∃ fd, fo.data = .func fd ∧ fd.code = .ref c) ∧ ∃ fs q t, oc.data = .fields fs ∧ fs[1]? = some (.str q t)
mutual
/-- q: how deep the lists are owned -/
inductive Rep (K : PySem.W.Frag) (H : Hp) (w : Wn) (o : Ow) : Nat → D → V → List Addr → Prop
  | non {q} : Rep K H w o q .non .non []
  | bl {q} (b : Bool) : Rep K H w o q (.bl b) (.bl b) []
  | int {q} (i : Int) : Rep K H w o q (.int i) (.int i) []
  | str {q} (x : Str) : Rep K H w o q (.str x) (.str x) []
  | tup {q} {a : Addr} {vs : List V} {ds : List D} : H a = some (.tup vs) → Reps K H w o 0 ds vs [] → Rep K H w o q (.tup ds) (.ref a) []
  | dic {q} {a : Addr} {ks : List Str} {vs : List V} {ds : List D} : H a = some (.dK (kvL ks vs)) → Reps K H w o 0 ds vs [] → Rep K H w o q (.dic ks ds) (.ref a) []
  | exc {q} {a : Addr} {nm : Str} {ob : Obj} {u : HO} : H a = some (.frz ob u) → XO K nm ob → (∀ xs, u ≠ .lst xs) → Rep K H w o q (.exc nm) (.ref a) []
  | ob {q} {f c : Addr} {fo oc : Obj} {u u' : HO} {vs : List V} {ds : List D} : H f = some (.frz fo u) → H c = some (.frz oc u') → Clo fo c oc → Reps K H w o 0 ds vs [] → Rep K H w o q (.ob f fo vs ds) (.ref f) []
  | kl {a : Addr} {vs : List V} {ds : List D} : KL K a vs → Reps K H w o 0 ds vs [] → Rep K H w o 0 (.lst ds) (.ref a) []
  | shr {a : Addr} {vs : List V} {ds : List D} : Rd H a (.lst vs) → w a = none → Reps K H w o 0 ds vs [] → Rep K H w o 0 (.lst ds) (.ref a) []
  | own {q} {a : Addr} {vs : List V} {ds : List D} {F : List Addr} : H a = some (.lst vs) → w a = some o → Reps K H w o q ds vs F → a ∉ F → Rep K H w o (q + 1) (.lst ds) (.ref a) (a :: F)
inductive Reps (K : PySem.W.Frag) (H : Hp) (w : Wn) (o : Ow) : Nat → List D → List V → List Addr → Prop
  | nil {q} : Reps K H w o q [] [] []
  | cons {q} {d : D} {v : V} {ds : List D} {vs : List V} {F G : List Addr} : Rep K H w o q d v F → Reps K H w o q ds vs G → (∀ a ∈ F, a ∉ G) → Reps K H w o q (d :: ds) (v :: vs) (F ++ G)
end
noncomputable def isTb : HO → Bool
  | .tbl _ => true
  | _ => false
noncomputable def Sm (x : HO) (y : Option HO) : Prop := match x with
  | .tbl _ => ∃ ps, y = some (.tbl ps)
  | x => y = some x
theorem sm {x : HO} {y : Option HO} (h : y = some x) : Sm x y := by cases x <;> first | exact h | exact ⟨_, h⟩
theorem Sm.is {x : HO} {y : Option HO} (h : Sm x y) : ∃ z, y = some z ∧ isTb z = isTb x := by
  cases x <;> first | exact ⟨_, h, rfl⟩ | (obtain ⟨ps, e⟩ := h; exact ⟨_, e, rfl⟩)
theorem Sm.eq {x : HO} {y : Option HO} (h : Sm x y) (n : isTb x = false) : y = some x := by cases x <;> first | exact h | cases n
noncomputable def lamNms : List Str := ["turned", "chain_ladder", "flat_ladder", "paired", "height_of", "_law_high"]
structure TB (K : PySem.W.Frag) (H : Hp) : Prop where
  tr : ∀ P ps, H P = some (.tbl ps) → PySem.TriplesOk ps.toList
  cd : ∀ P ps, H P = some (.tbl ps) → ∀ pos cv, PySem.codeAmong pos ps.toList = some cv → ∃ c oc u vs q t, cv = .ref c ∧ H c = some (.frz oc u) ∧ oc.data = .fields vs ∧ vs[1]? = some (.str q t) ∧ ∀ xs, u ≠ .lst xs
  is : ∀ x ∈ lamNms, ∀ c P, PySem.W.tabIn K x = some (c, P) → ∃ ps, H P = some (.tbl ps)
structure WL (K : PySem.W.Frag) (w : Wn) (H : Hp) : Prop where
  own : ∀ a o, w a = some o → ∃ vs, H a = some (.lst vs)
  tb : TB K H
instance {K : PySem.W.Frag} {w : Wn} {H : Hp} : CoeFun (WL K w H) (fun _ => ∀ a o, w a = some o → ∃ vs, H a = some (.lst vs)) := ⟨WL.own⟩
theorem TB.upd {K : PySem.W.Frag} {H : Hp} (t : TB K H) {p : Addr} {x : HO} (hx : isTb x = false) (hp : H p = none ∨ ∃ vs, H p = some (.lst vs)) : TB K (L2.upd H p x) := by
  have ne : ∀ a y, H a = some y → (∀ vs, y ≠ .lst vs) → a ≠ p := fun a y e h z => by
    subst z
    rcases hp with q | ⟨vs, q⟩
    · rw [e] at q; cases q
    · rw [e] at q; cases q; exact h _ rfl
  refine ⟨fun P ps e => ?_, fun P ps e pos cv hc => ?_, fun x hx c P hP => by
    obtain ⟨ps, e⟩ := t.is x hx c P hP
    exact ⟨ps, by rw [upd_ne (ne P _ e fun _ z => nomatch z)]; exact e⟩⟩
  · by_cases hP : P = p
    · subst hP; rw [upd_same] at e; cases e; cases hx
    · rw [upd_ne hP] at e; exact t.tr P ps e
  · by_cases hP : P = p
    · subst hP; rw [upd_same] at e; cases e; cases hx
    · rw [upd_ne hP] at e
      obtain ⟨c, oc, u, vs, q, tt, h1, h2, h3, h4, h5⟩ := t.cd P ps e pos cv hc
      exact ⟨c, oc, u, vs, q, tt, h1, by rw [upd_ne (ne c _ h2 fun _ z => nomatch z)]; exact h2, h3, h4, h5⟩
noncomputable def Stab (H : Hp) (w : Wn) (H' : Hp) (w' : Wn) : Prop := ∀ a x, H a = some x → w a = none → Sm x (H' a) ∧ w' a = none
theorem Stab.trans {H H1 H2 : Hp} {w w1 w2 : Wn} (a : Stab H w H1 w1) (b : Stab H1 w1 H2 w2) : Stab H w H2 w2 := fun c x h n => by
  obtain ⟨s1, n1⟩ := a c x h n
  cases ht : isTb x with
  | false => exact b c x (s1.eq ht) n1
  | true =>
    obtain ⟨y, e, hy⟩ := s1.is
    obtain ⟨s2, n2⟩ := b c y e n1
    refine ⟨?_, n2⟩
    rw [ht] at hy
    cases x with
    | tbl ps =>
      cases y with
      | tbl ps' => exact s2
      | _ => cases hy
    | _ => cases ht
theorem WL.rdT {K : PySem.W.Frag} {w : Wn} {H : Hp} (wl : WL K w H) {a : Addr} {x : HO} (e : H a = some x) (h : ∀ vs, x ≠ .lst vs) : w a = none := by
  cases q : w a with
  | none => rfl
  | some o =>
    obtain ⟨vs, e'⟩ := wl a o q
    rw [e] at e'
    exact absurd (Option.some.inj e') (h vs)
theorem SqT.go {K : PySem.W.Frag} {H H' : Hp} {w w' : Wn} (wl : WL K w H) (st : Stab H w H' w') {a : Addr} {vs : List V} (h : SqT K H a vs) : SqT K H' a vs := by
  rcases h with (h | ⟨o, h⟩) | h
  · exact .inl (.inl (st a _ h (wl.rdT h (fun _ z => nomatch z))).1)
  · exact .inl (.inr ⟨o, (st a _ h (wl.rdT h (fun _ z => nomatch z))).1⟩)
  · exact .inr h
theorem RdL.go {H H' : Hp} {w w' : Wn} (st : Stab H w H' w') {a : Addr} {vs : List V} (n : w a = none) (h : Rd H a (.lst vs)) : Rd H' a (.lst vs) ∧ w' a = none := by
  rcases h with h | ⟨o, h⟩
  · exact ⟨.inl (st a _ h n).1, (st a _ h n).2⟩
  · exact ⟨.inr ⟨o, (st a _ h n).1⟩, (st a _ h n).2⟩
theorem Rep.go {K : PySem.W.Frag} {H H' : Hp} {w w' : Wn} {o o' : Ow} (wl : WL K w H) (st : Stab H w H' w') : ∀ {q : Nat} {d : D} {v : V} {F : List Addr}, Rep K H w o q d v F → (∀ a ∈ F, H' a = H a ∧ w' a = some o') → Rep K H' w' o' q d v F := by
  intro q d v F r
  refine Rep.rec (motive_1 := fun q d v F _ => (∀ a ∈ F, H' a = H a ∧ w' a = some o') → Rep K H' w' o' q d v F) (motive_2 := fun q ds vs F _ => (∀ a ∈ F, H' a = H a ∧ w' a = some o') → Reps K H' w' o' q ds vs F) ?_ ?_ ?_ ?_ ?_ ?_ ?_ ?_ ?_ ?_ ?_ ?_ ?_ r
  · intro q _; exact .non
  · intro q b _; exact .bl b
  · intro q i _; exact .int i
  · intro q x _; exact .str x
  · intro q a vs ds h r ih _; exact .tup (st _ _ h (wl.rdT h (fun _ z => by cases z))).1 (ih (fun _ z => (List.not_mem_nil z).elim))
  · intro q a ks vs ds h r ih _; exact .dic (st _ _ h (wl.rdT h (fun _ z => by cases z))).1 (ih (fun _ z => (List.not_mem_nil z).elim))
  · intro q a nm ob u h x n _; exact .exc (st _ _ h (wl.rdT h (fun _ z => by cases z))).1 x n
  · intro q f c fo oc u u' vs ds h1 h2 x r ih _; exact .ob (st _ _ h1 (wl.rdT h1 (fun _ z => by cases z))).1 (st _ _ h2 (wl.rdT h2 (fun _ z => by cases z))).1 x (ih (fun _ z => (List.not_mem_nil z).elim))
  · intro a vs ds h r ih _; exact .kl h (ih (fun _ z => (List.not_mem_nil z).elim))
  · intro a vs ds h n r ih _; exact .shr (RdL.go st n h).1 (RdL.go st n h).2 (ih (fun _ z => (List.not_mem_nil z).elim))
  · intro q a vs ds F h e r ne ih k; exact .own ((k _ List.mem_cons_self).1.trans h) (k _ List.mem_cons_self).2 (ih fun a m => k a (List.mem_cons_of_mem _ m)) ne
  · intro q _; exact .nil
  · intro q d v ds vs F G r s ne ih1 ih2 k; exact .cons (ih1 fun a m => k a (List.mem_append_left _ m)) (ih2 fun a m => k a (List.mem_append_right _ m)) ne
theorem Reps.go {K : PySem.W.Frag} {H H' : Hp} {w w' : Wn} {o o' : Ow} (wl : WL K w H) (st : Stab H w H' w') : ∀ {q : Nat} {ds : List D} {vs : List V} {F : List Addr}, Reps K H w o q ds vs F → (∀ a ∈ F, H' a = H a ∧ w' a = some o') → Reps K H' w' o' q ds vs F := by
  intro q ds vs F r
  refine Reps.rec (motive_1 := fun q d v F _ => (∀ a ∈ F, H' a = H a ∧ w' a = some o') → Rep K H' w' o' q d v F) (motive_2 := fun q ds vs F _ => (∀ a ∈ F, H' a = H a ∧ w' a = some o') → Reps K H' w' o' q ds vs F) ?_ ?_ ?_ ?_ ?_ ?_ ?_ ?_ ?_ ?_ ?_ ?_ ?_ r
  · intro q _; exact .non
  · intro q b _; exact .bl b
  · intro q i _; exact .int i
  · intro q x _; exact .str x
  · intro q a vs ds h r ih _; exact .tup (st _ _ h (wl.rdT h (fun _ z => by cases z))).1 (ih (fun _ z => (List.not_mem_nil z).elim))
  · intro q a ks vs ds h r ih _; exact .dic (st _ _ h (wl.rdT h (fun _ z => by cases z))).1 (ih (fun _ z => (List.not_mem_nil z).elim))
  · intro q a nm ob u h x n _; exact .exc (st _ _ h (wl.rdT h (fun _ z => by cases z))).1 x n
  · intro q f c fo oc u u' vs ds h1 h2 x r ih _; exact .ob (st _ _ h1 (wl.rdT h1 (fun _ z => by cases z))).1 (st _ _ h2 (wl.rdT h2 (fun _ z => by cases z))).1 x (ih (fun _ z => (List.not_mem_nil z).elim))
  · intro a vs ds h r ih _; exact .kl h (ih (fun _ z => (List.not_mem_nil z).elim))
  · intro a vs ds h n r ih _; exact .shr (RdL.go st n h).1 (RdL.go st n h).2 (ih (fun _ z => (List.not_mem_nil z).elim))
  · intro q a vs ds F h e r ne ih k; exact .own ((k _ List.mem_cons_self).1.trans h) (k _ List.mem_cons_self).2 (ih fun a m => k a (List.mem_cons_of_mem _ m)) ne
  · intro q _; exact .nil
  · intro q d v ds vs F G r s ne ih1 ih2 k; exact .cons (ih1 fun a m => k a (List.mem_append_left _ m)) (ih2 fun a m => k a (List.mem_append_right _ m)) ne
theorem Rep.freeze {K : PySem.W.Frag} {H : Hp} {w w' : Wn} {o o' : Ow} (n : ∀ a, w a = none → w' a = none) : ∀ {q : Nat} {d : D} {v : V} {F : List Addr}, Rep K H w o q d v F → (∀ a ∈ F, w' a = none) → Rep K H w' o' 0 d v [] := by
  intro q d v F r
  refine Rep.rec (motive_1 := fun q d v F _ => (∀ a ∈ F, w' a = none) → Rep K H w' o' 0 d v []) (motive_2 := fun q ds vs F _ => (∀ a ∈ F, w' a = none) → Reps K H w' o' 0 ds vs []) ?_ ?_ ?_ ?_ ?_ ?_ ?_ ?_ ?_ ?_ ?_ ?_ ?_ r
  · intro q _; exact .non
  · intro q b _; exact .bl b
  · intro q i _; exact .int i
  · intro q x _; exact .str x
  · intro q a vs ds h r ih _; exact .tup h (ih (fun _ z => (List.not_mem_nil z).elim))
  · intro q a ks vs ds h r ih _; exact .dic h (ih (fun _ z => (List.not_mem_nil z).elim))
  · intro q a nm ob u h x n _; exact .exc h x n
  · intro q f c fo oc u u' vs ds h1 h2 x r ih _; exact .ob h1 h2 x (ih (fun _ z => (List.not_mem_nil z).elim))
  · intro a vs ds h r ih _; exact .kl h (ih (fun _ z => (List.not_mem_nil z).elim))
  · intro a vs ds h e r ih _; exact .shr h (n _ e) (ih (fun _ z => (List.not_mem_nil z).elim))
  · intro q a vs ds F h e r ne ih k; exact .shr (Rd.of h) (k _ List.mem_cons_self) (ih fun a m => k a (List.mem_cons_of_mem _ m))
  · intro q _; exact .nil
  · intro q d v ds vs F G r s ne ih1 ih2 k; exact .cons (F := []) (G := []) (ih1 fun a m => k a (List.mem_append_left _ m)) (ih2 fun a m => k a (List.mem_append_right _ m)) (fun _ z => (List.not_mem_nil z).elim)
theorem Reps.freeze {K : PySem.W.Frag} {H : Hp} {w w' : Wn} {o o' : Ow} (n : ∀ a, w a = none → w' a = none) : ∀ {q : Nat} {ds : List D} {vs : List V} {F : List Addr}, Reps K H w o q ds vs F → (∀ a ∈ F, w' a = none) → Reps K H w' o' 0 ds vs [] := by
  intro q ds vs F r
  refine Reps.rec (motive_1 := fun q d v F _ => (∀ a ∈ F, w' a = none) → Rep K H w' o' 0 d v []) (motive_2 := fun q ds vs F _ => (∀ a ∈ F, w' a = none) → Reps K H w' o' 0 ds vs []) ?_ ?_ ?_ ?_ ?_ ?_ ?_ ?_ ?_ ?_ ?_ ?_ ?_ r
  · intro q _; exact .non
  · intro q b _; exact .bl b
  · intro q i _; exact .int i
  · intro q x _; exact .str x
  · intro q a vs ds h r ih _; exact .tup h (ih (fun _ z => (List.not_mem_nil z).elim))
  · intro q a ks vs ds h r ih _; exact .dic h (ih (fun _ z => (List.not_mem_nil z).elim))
  · intro q a nm ob u h x n _; exact .exc h x n
  · intro q f c fo oc u u' vs ds h1 h2 x r ih _; exact .ob h1 h2 x (ih (fun _ z => (List.not_mem_nil z).elim))
  · intro a vs ds h r ih _; exact .kl h (ih (fun _ z => (List.not_mem_nil z).elim))
  · intro a vs ds h e r ih _; exact .shr h (n _ e) (ih (fun _ z => (List.not_mem_nil z).elim))
  · intro q a vs ds F h e r ne ih k; exact .shr (Rd.of h) (k _ List.mem_cons_self) (ih fun a m => k a (List.mem_cons_of_mem _ m))
  · intro q _; exact .nil
  · intro q d v ds vs F G r s ne ih1 ih2 k; exact .cons (F := []) (G := []) (ih1 fun a m => k a (List.mem_append_left _ m)) (ih2 fun a m => k a (List.mem_append_right _ m)) (fun _ z => (List.not_mem_nil z).elim)
theorem Rep.owns {K : PySem.W.Frag} {H : Hp} {w : Wn} {o : Ow} : ∀ {q : Nat} {d : D} {v : V} {F : List Addr}, Rep K H w o q d v F → ∀ a ∈ F, w a = some o := by
  intro q d v F r
  refine Rep.rec (motive_1 := fun q d v F _ => ∀ a ∈ F, w a = some o) (motive_2 := fun q ds vs F _ => ∀ a ∈ F, w a = some o) ?_ ?_ ?_ ?_ ?_ ?_ ?_ ?_ ?_ ?_ ?_ ?_ ?_ r
  · intro q a m; exact (List.not_mem_nil m).elim
  · intro q b a m; exact (List.not_mem_nil m).elim
  · intro q i a m; exact (List.not_mem_nil m).elim
  · intro q x a m; exact (List.not_mem_nil m).elim
  · intro q a vs ds h r ih b m; exact (List.not_mem_nil m).elim
  · intro q a ks vs ds h r ih b m; exact (List.not_mem_nil m).elim
  · intro q a nm ob u h x n b m; exact (List.not_mem_nil m).elim
  · intro q f c fo oc u u' vs ds h1 h2 x r ih b m; exact (List.not_mem_nil m).elim
  · intro a vs ds h r ih b m; exact (List.not_mem_nil m).elim
  · intro a vs ds h e r ih b m; exact (List.not_mem_nil m).elim
  · intro q a vs ds F h e r ne ih b m
    rcases List.mem_cons.mp m with z | z
    · rw [z]; exact e
    · exact ih b z
  · intro q a m; exact (List.not_mem_nil m).elim
  · intro q d v ds vs F G r s ne ih1 ih2 a m
    rcases List.mem_append.mp m with z | z
    · exact ih1 a z
    · exact ih2 a z
theorem Reps.owns {K : PySem.W.Frag} {H : Hp} {w : Wn} {o : Ow} : ∀ {q : Nat} {ds : List D} {vs : List V} {F : List Addr}, Reps K H w o q ds vs F → ∀ a ∈ F, w a = some o := by
  intro q ds vs F r
  refine Reps.rec (motive_1 := fun q d v F _ => ∀ a ∈ F, w a = some o) (motive_2 := fun q ds vs F _ => ∀ a ∈ F, w a = some o) ?_ ?_ ?_ ?_ ?_ ?_ ?_ ?_ ?_ ?_ ?_ ?_ ?_ r
  · intro q a m; exact (List.not_mem_nil m).elim
  · intro q b a m; exact (List.not_mem_nil m).elim
  · intro q i a m; exact (List.not_mem_nil m).elim
  · intro q x a m; exact (List.not_mem_nil m).elim
  · intro q a vs ds h r ih b m; exact (List.not_mem_nil m).elim
  · intro q a ks vs ds h r ih b m; exact (List.not_mem_nil m).elim
  · intro q a nm ob u h x n b m; exact (List.not_mem_nil m).elim
  · intro q f c fo oc u u' vs ds h1 h2 x r ih b m; exact (List.not_mem_nil m).elim
  · intro a vs ds h r ih b m; exact (List.not_mem_nil m).elim
  · intro a vs ds h e r ih b m; exact (List.not_mem_nil m).elim
  · intro q a vs ds F h e r ne ih b m
    rcases List.mem_cons.mp m with z | z
    · rw [z]; exact e
    · exact ih b z
  · intro q a m; exact (List.not_mem_nil m).elim
  · intro q d v ds vs F G r s ne ih1 ih2 a m
    rcases List.mem_append.mp m with z | z
    · exact ih1 a z
    · exact ih2 a z
noncomputable def D.isL : D → Bool
  | .lst _ => true
  | _ => false
@[simp] theorem D.isL_non : D.isL .non = false := rfl
@[simp] theorem D.isL_bl (b : Bool) : D.isL (.bl b) = false := rfl
@[simp] theorem D.isL_int (i : Int) : D.isL (.int i) = false := rfl
@[simp] theorem D.isL_str (x : Str) : D.isL (.str x) = false := rfl
@[simp] theorem D.isL_tup (ds : List D) : D.isL (.tup ds) = false := rfl
@[simp] theorem D.isL_dic (ks : List Str) (ds : List D) : D.isL (.dic ks ds) = false := rfl
@[simp] theorem D.isL_exc (nm : Str) : D.isL (.exc nm) = false := rfl
@[simp] theorem D.isL_ob (f : Addr) (fo : Obj) (vs : List V) (ds : List D) : D.isL (.ob f fo vs ds) = false := rfl
@[simp] theorem D.isL_lst (ds : List D) : D.isL (.lst ds) = true := rfl
theorem Rep.nolist {K : PySem.W.Frag} {H : Hp} {w : Wn} {o : Ow} {q : Nat} {d : D} {v : V} {F : List Addr} (r : Rep K H w o q d v F) (h : d.isL = false) : F = [] ∧ ∀ q', Rep K H w o q' d v [] := by
  cases r with
  | non => exact ⟨rfl, fun _ => .non⟩
  | bl b => exact ⟨rfl, fun _ => .bl b⟩
  | int i => exact ⟨rfl, fun _ => .int i⟩
  | str x => exact ⟨rfl, fun _ => .str x⟩
  | tup h' r' => exact ⟨rfl, fun _ => .tup h' r'⟩
  | dic h' r' => exact ⟨rfl, fun _ => .dic h' r'⟩
  | exc h' x n => exact ⟨rfl, fun _ => .exc h' x n⟩
  | ob h1 h2 x r => exact ⟨rfl, fun _ => .ob h1 h2 x r⟩
  | kl => cases h
  | shr => cases h
  | own => cases h
theorem Rep.zero {K : PySem.W.Frag} {H : Hp} {w : Wn} {o : Ow} {d : D} {v : V} {F : List Addr} (r : Rep K H w o 0 d v F) : F = [] := by
  cases r <;> rfl
theorem Reps.zero {K : PySem.W.Frag} {H : Hp} {w : Wn} {o : Ow} : ∀ {ds : List D} {vs : List V} {F : List Addr}, Reps K H w o 0 ds vs F → F = []
  | _, _, _, .nil => rfl
  | _, _, _, .cons r s _ => by rw [r.zero, s.zero]; rfl
theorem Reps.length {K : PySem.W.Frag} {H : Hp} {w : Wn} {o : Ow} {q : Nat} : ∀ {ds : List D} {vs : List V} {F : List Addr}, Reps K H w o q ds vs F → ds.length = vs.length
  | _, _, _, .nil => rfl
  | _, _, _, .cons _ s _ => by simp [s.length]
theorem Rep.any {K : PySem.W.Frag} {H : Hp} {w : Wn} {o o' : Ow} {q : Nat} {d : D} {v : V} (r : Rep K H w o q d v []) (wl : WL K w H) : Rep K H w o' q d v [] :=
  Rep.go wl (fun a x h n => ⟨sm h, n⟩) r (fun _ z => nomatch z)
theorem Reps.any {K : PySem.W.Frag} {H : Hp} {w : Wn} {o o' : Ow} {q : Nat} {d : List D} {v : List V} (r : Reps K H w o q d v []) (wl : WL K w H) : Reps K H w o' q d v [] :=
  Reps.go wl (fun a x h n => ⟨sm h, n⟩) r (fun _ z => nomatch z)
theorem Reps.get {K : PySem.W.Frag} {H : Hp} {w : Wn} {o : Ow} : ∀ {ds : List D} {vs : List V} {i : Nat} {d : D}, Reps K H w o 0 ds vs [] → ds[i]? = some d → ∃ v, vs[i]? = some v ∧ Rep K H w o 0 d v []
  | ds, vs, i, d, r, e => by
    generalize hF : ([] : List Addr) = F at r
    cases r with
    | nil => simp at e
    | @cons _ d' v' ds' vs' F' G' r s _ =>
      have h1 : F' = [] := r.zero
      have h2 : G' = [] := s.zero
      subst h1 h2
      cases i with
      | zero => simp at e; subst e; exact ⟨v', rfl, r⟩
      | succ j =>
        obtain ⟨v, h1, h2⟩ := Reps.get (i := j) (d := d) s (by simpa using e)
        exact ⟨v, by simpa using h1, h2⟩
theorem Reps.snoc {K : PySem.W.Frag} {H : Hp} {w : Wn} {o : Ow} {q : Nat} {d : D} {v : V} {G : List Addr} (r' : Rep K H w o q d v G) : ∀ {ds : List D} {vs : List V} {F : List Addr}, Reps K H w o q ds vs F → (∀ a ∈ F, a ∉ G) → Reps K H w o q (ds ++ [d]) (vs ++ [v]) (F ++ G)
  | _, _, _, .nil, _ => by
    have : Reps K H w o q [d] [v] (G ++ []) := .cons r' .nil (fun a _ z => nomatch z)
    simpa using this
  | _, _, _, .cons (F := F) (G := F') r s ne, k => by
    rw [List.append_assoc]
    refine .cons r (Reps.snoc r' s fun a m => k a (List.mem_append_right _ m)) fun a m z => ?_
    rcases List.mem_append.mp z with z | z
    · exact ne a m z
    · exact k a (List.mem_append_left _ m) z
noncomputable abbrev Rho := List (Option (D × Nat))
structure Good (K : PySem.W.Frag) (ρ : Rho) (σ : St) (H : Hp) (w : Wn) (t : Nat) : Prop where
  wl : WL K w H
  ws : ∀ a i, w a = some (.s i) → i < σ.length
  wt : ∀ a i, w a = some (.t i) → i < t
  len : ρ.length = σ.length
  slot : ∀ (i : Nat) d q, ρ[i]? = some (some (d, q)) → ∃ v F, σ[i]? = some (some v) ∧ Rep K H w (.s i) q d v F
structure Go (H : Hp) (w : Wn) (H' : Hp) (w' : Wn) : Prop where
  stab : Stab H w H' w'
  keep : ∀ a o, w a = some o → (∀ i, o ≠ .s i) → H' a = H a ∧ w' a = some o
theorem Go.refl {H : Hp} {w : Wn} : Go H w H w := ⟨fun a x h n => ⟨sm h, n⟩, fun a o e _ => ⟨rfl, e⟩⟩
theorem Go.trans {H H1 H2 : Hp} {w w1 w2 : Wn} (a : Go H w H1 w1) (b : Go H1 w1 H2 w2) : Go H w H2 w2 :=
  ⟨a.stab.trans b.stab, fun c o e h => by
    obtain ⟨h1, w1⟩ := a.keep c o e h
    obtain ⟨h2, w2⟩ := b.keep c o w1 h
    exact ⟨h2.trans h1, w2⟩⟩
theorem Rep.gone {K : PySem.W.Frag} {H H' : Hp} {w w' : Wn} {q : Nat} {d : D} {v : V} {F : List Addr} {i : Nat} (r : Rep K H w (.t i) q d v F) (wl : WL K w H) (g : Go H w H' w') : Rep K H' w' (.t i) q d v F :=
  Rep.go wl g.stab r fun a m => g.keep a _ (r.owns a m) (fun _ z => nomatch z)
theorem Reps.gone {K : PySem.W.Frag} {H H' : Hp} {w w' : Wn} {q : Nat} {d : List D} {v : List V} {F : List Addr} {i : Nat} (r : Reps K H w (.t i) q d v F) (wl : WL K w H) (g : Go H w H' w') : Reps K H' w' (.t i) q d v F :=
  Reps.go wl g.stab r fun a m => g.keep a _ (r.owns a m) (fun _ z => nomatch z)
noncomputable def dropT (t : Nat) (w : Wn) : Wn := fun a => match w a with
  | some (.t i) => if t ≤ i then none else some (.t i)
  | x => x
theorem dropT_none {t : Nat} {w : Wn} {a : Addr} (h : w a = none) : dropT t w a = none := by unfold dropT; rw [h]
theorem dropT_s {t : Nat} {w : Wn} {a : Addr} {i : Nat} (h : w a = some (.s i)) : dropT t w a = some (.s i) := by unfold dropT; rw [h]
theorem dropT_f {t : Nat} {w : Wn} {a : Addr} (h : w a = some .f) : dropT t w a = some .f := by unfold dropT; rw [h]
theorem dropT_lt {t : Nat} {w : Wn} {a : Addr} {i : Nat} (h : w a = some (.t i)) (hi : i < t) : dropT t w a = some (.t i) := by unfold dropT; rw [h]; exact if_neg (by omega)
theorem dropT_ge {t : Nat} {w : Wn} {a : Addr} {i : Nat} (h : w a = some (.t i)) (hi : t ≤ i) : dropT t w a = none := by unfold dropT; rw [h]; exact if_pos hi
theorem dropT_some {t : Nat} {w : Wn} {a : Addr} {o : Ow} (h : dropT t w a = some o) : w a = some o ∧ ∀ i, o = .t i → i < t := by
  unfold dropT at h
  cases e : w a with
  | none => rw [e] at h; cases h
  | some o' =>
    rw [e] at h
    cases o' with
    | s i => cases h; exact ⟨rfl, fun i z => nomatch z⟩
    | f => cases h; exact ⟨rfl, fun i z => nomatch z⟩
    | t i =>
      dsimp only at h
      split at h
      · cases h
      · cases h; exact ⟨rfl, fun j z => by cases z; omega⟩
theorem Good.drop {K : PySem.W.Frag} {ρ : Rho} {σ : St} {H : Hp} {w : Wn} {t t' : Nat} (g : Good K ρ σ H w t) : Good K ρ σ H (dropT t' w) t' := by
  refine ⟨⟨fun a o e => g.wl a o (dropT_some e).1, g.wl.tb⟩, fun a i e => g.ws a i (dropT_some e).1, fun a i e => (dropT_some e).2 i rfl, g.len, fun i d q e => ?_⟩
  obtain ⟨v, F, h1, h2⟩ := g.slot i d q e
  exact ⟨v, F, h1, Rep.go g.wl (fun a x h n => ⟨sm h, dropT_none n⟩) h2 fun a m => ⟨rfl, dropT_s (h2.owns a m)⟩⟩
theorem Go.drop {H H' : Hp} {w w' : Wn} {t : Nat} (g : Go H w H' w') (wt : ∀ a i, w a = some (.t i) → i < t) : Go H w H' (dropT t w') :=
  ⟨fun a x h n => ⟨(g.stab a x h n).1, dropT_none (g.stab a x h n).2⟩, fun a o e h => by
    obtain ⟨h1, h2⟩ := g.keep a o e h
    refine ⟨h1, ?_⟩
    cases o with
    | s i => exact absurd rfl (h i)
    | f => exact dropT_f h2
    | t i => exact dropT_lt h2 (wt a i e)⟩
theorem Rep.drop {K : PySem.W.Frag} {H : Hp} {w : Wn} {q : Nat} {d : D} {v : V} {F : List Addr} {t : Nat} {o : Ow} (r : Rep K H w (.t t) q d v F) {t' : Nat} (h : t' ≤ t) : Rep K H (dropT t' w) o 0 d v [] :=
  Rep.freeze (fun a n => dropT_none n) r fun a m => dropT_ge (r.owns a m) h
noncomputable abbrev Den := Rho → Option (D × Nat × Rho)
noncomputable def tD (K : PySem.W.Frag) (f : Den) : TE := fun σ H Q => ∃ ρ w t r q ρ', Good K ρ σ H w t ∧ f ρ = some (r, q, ρ') ∧ ∀ v H' w' F, Good K ρ' σ H' w' (t + 1) → Go H w H' w' → Rep K H' w' (.t t) q r v F → Q v H'
theorem PE.imp {X : Cx} {e : Expr} {t t' : TE} (h : PE X e t) (i : ∀ σ H Q, t' σ H Q → t σ H Q) : PE X e t' := fun pins s σ H Q I q => h pins s σ H Q I (i σ H Q q)
noncomputable abbrev PD (X : Cx) (e : Expr) (f : Den) : Prop := PE X e (tD X.K f)
end L3
set_option Elab.async false
set_option linter.all false
set_option maxRecDepth 100000
namespace L3
open PySem PySem.Spec PyProof.Rows L2
theorem Good.up {K : PySem.W.Frag} {ρ : Rho} {σ : St} {H : Hp} {w : Wn} {t : Nat} (g : Good K ρ σ H w t) : Good K ρ σ H w (t + 1) := ⟨g.wl, g.ws, fun a i e => Nat.lt_succ_of_lt (g.wt a i e), g.len, g.slot⟩
@[simp] noncomputable def dep0 (d : D) : Nat := if d.isL then 0 else 9
theorem Rep.dep {K : PySem.W.Frag} {H : Hp} {w : Wn} {o : Ow} {d : D} {v : V} (r : Rep K H w o 0 d v []) : Rep K H w o (dep0 d) d v [] := by
  unfold dep0
  cases e : d.isL with
  | true => exact r
  | false => exact (r.nolist e).2 9
section
variable {K : PySem.W.Frag} {σ : St} {H : Hp} {ρ ρ' ρ1 ρ2 : Rho} {w : Wn} {t : Nat} {Q : VK}
theorem seq2 {fa fb : Den} {R : V → V → Hp → Prop} (g : Good K ρ σ H w t) {d1 d2 : D} {q1 q2 : Nat} (e1 : fa ρ = some (d1, q1, ρ1)) (e2 : fb ρ1 = some (d2, q2, ρ2))
    (k : ∀ x y H2 w2 F1 F2, Good K ρ2 σ H2 w2 (t + 2) → Go H w H2 w2 → Rep K H2 w2 (.t t) q1 d1 x F1 → Rep K H2 w2 (.t (t + 1)) q2 d2 y F2 → R x y H2) :
    tD K fa σ H fun x H1 => tD K fb σ H1 fun y H2 => R x y H2 :=
  ⟨ρ, w, t, d1, q1, ρ1, g, e1, fun x H1 w1 F1 g1 go1 r1 => ⟨ρ1, w1, t + 1, d2, q2, ρ2, g1, e2, fun y H2 w2 F2 g2 go2 r2 => k x y H2 w2 F1 F2 g2 (go1.trans go2) (r1.gone g1.wl go2) r2⟩⟩
theorem fin0 {r : D} {q : Nat} {v : V} {H2 : Hp} {w2 : Wn} {t2 : Nat} (k : ∀ v H' w' F, Good K ρ' σ H' w' (t + 1) → Go H w H' w' → Rep K H' w' (.t t) q r v F → Q v H') (g : Good K ρ σ H w t) (g2 : Good K ρ' σ H2 w2 t2) (go : Go H w H2 w2)
    (rr : Rep K H2 (dropT t w2) (.t t) q r v []) : Q v H2 := k v H2 (dropT t w2) [] g2.drop.up (go.drop g.wt) rr
noncomputable def setW (p : Addr) (o : Ow) (w : Wn) : Wn := fun a => if a = p then some o else w a
theorem setW_same {p : Addr} {o : Ow} {w : Wn} : setW p o w p = some o := if_pos rfl
theorem setW_ne {p a : Addr} {o : Ow} {w : Wn} (h : a ≠ p) : setW p o w a = w a := if_neg h
theorem alloc {H1 : Hp} {p : Addr} {vs : List V} {ds : List D} {w1 : Wn} (g : Good K ρ σ H1 w1 t) (hp : H1 p = none) (r : Reps K H1 w1 .f 0 ds vs []) :
    Good K ρ σ (upd H1 p (.lst vs)) (setW p (.t t) w1) (t + 1) ∧ Go H1 w1 (upd H1 p (.lst vs)) (setW p (.t t) w1) ∧ Rep K (upd H1 p (.lst vs)) (setW p (.t t) w1) (.t t) 1 (.lst ds) (.ref p) [p] := by
  have ne : ∀ a x, H1 a = some x → a ≠ p := fun a x e => ne_of_none e hp
  have nw : ∀ a o, w1 a = some o → a ≠ p := fun a o e => by obtain ⟨vs, q⟩ := g.wl a o e; exact ne a _ q
  have st : Stab H1 w1 (upd H1 p (.lst vs)) (setW p (.t t) w1) := fun a x e n => ⟨sm (by rw [upd_ne (ne a x e)]; exact e), by rw [setW_ne (ne a x e)]; exact n⟩
  refine ⟨⟨⟨fun a o e => ?_, g.wl.tb.upd rfl (.inl hp)⟩, fun a i e => ?_, fun a i e => ?_, g.len, fun i d q e => ?_⟩, ⟨st, fun a o e _ => ⟨upd_ne (nw a o e), (setW_ne (nw a o e)).trans e⟩⟩, ?_⟩
  · by_cases h : a = p
    · subst h; exact ⟨vs, upd_same⟩
    · rw [setW_ne h] at e
      obtain ⟨us, q⟩ := g.wl a o e
      exact ⟨us, by rw [upd_ne h]; exact q⟩
  · by_cases h : a = p
    · subst h; rw [setW_same] at e; cases e
    · rw [setW_ne h] at e; exact g.ws a i e
  · by_cases h : a = p
    · subst h; rw [setW_same] at e; cases e; exact Nat.lt_succ_self _
    · rw [setW_ne h] at e; exact Nat.lt_succ_of_lt (g.wt a i e)
  · obtain ⟨v, F, h1, h2⟩ := g.slot i d q e
    exact ⟨v, F, h1, Rep.go g.wl st h2 fun a m => ⟨upd_ne (nw a _ (h2.owns a m)), (setW_ne (nw a _ (h2.owns a m))).trans (h2.owns a m)⟩⟩
  · exact .own upd_same setW_same (Reps.go g.wl st r (fun _ z => nomatch z)) (fun z => nomatch z)
theorem allocT {H1 : Hp} {p : Addr} {vs : List V} {ds : List D} {w1 : Wn} (g : Good K ρ σ H1 w1 t) (hp : H1 p = none) (r : Reps K H1 w1 .f 0 ds vs []) :
    Good K ρ σ (upd H1 p (.tup vs)) w1 (t + 1) ∧ Go H1 w1 (upd H1 p (.tup vs)) w1 ∧ Rep K (upd H1 p (.tup vs)) w1 (.t t) 9 (.tup ds) (.ref p) [] := by
  have ne : ∀ a x, H1 a = some x → a ≠ p := fun a x e => ne_of_none e hp
  have nw : ∀ a o, w1 a = some o → a ≠ p := fun a o e => by obtain ⟨vs, q⟩ := g.wl a o e; exact ne a _ q
  have st : Stab H1 w1 (upd H1 p (.tup vs)) w1 := fun a x e n => ⟨sm (by rw [upd_ne (ne a x e)]; exact e), n⟩
  refine ⟨⟨⟨fun a o e => ?_, g.wl.tb.upd rfl (.inl hp)⟩, g.ws, fun a i e => Nat.lt_succ_of_lt (g.wt a i e), g.len, fun i d q e => ?_⟩, ⟨st, fun a o e _ => ⟨upd_ne (nw a o e), e⟩⟩, ?_⟩
  · obtain ⟨us, q⟩ := g.wl a o e
    exact ⟨us, by rw [upd_ne (nw a o e)]; exact q⟩
  · obtain ⟨v, F, h1, h2⟩ := g.slot i d q e
    exact ⟨v, F, h1, Rep.go g.wl st h2 fun a m => ⟨upd_ne (nw a _ (h2.owns a m)), h2.owns a m⟩⟩
  · exact .tup upd_same (Reps.go g.wl st r (fun _ z => nomatch z))
end
@[simp] noncomputable def eC (d : D) : Den := fun ρ => some (d, 9, ρ)
@[simp] noncomputable def eVar (i : Nat) : Den := fun ρ => match ρ[i]? with
  | some (some (d, q)) => if d.isL = false then some (d, 9, ρ) else if q = 0 then some (d, 0, ρ) else some (d, 0, ρ.set i (some (d, 0)))
  | _ => none
section
variable {X : Cx} {a b c e : Expr} {fa fb fc f : Den} {pos : Pos}
theorem pd_const {v : V} {d : D} (h : PE X e (tC v)) (r : ∀ K H w o q, Rep K H w o q d v []) : PD X e (eC d) := PE.imp h fun σ H Q hh0 => by
  obtain ⟨ρ, w, t, r', q, ρ', g, ee, k⟩ := hh0
  cases ee
  exact k v H w [] g.up Go.refl (r _ _ _ _ _)
theorem pd_int {i j} : PD X (.Constant (.int i) j pos) (eC (.int i)) := pd_const pe_int fun _ _ _ _ _ => .int i
theorem pd_bl {i j} : PD X (.Constant (.bool i) j pos) (eC (.bl i)) := pd_const pe_bl fun _ _ _ _ _ => .bl i
noncomputable def giveS (i : Nat) (w : Wn) : Wn := fun a => if w a = some (.s i) then none else w a
theorem giveS_none {i : Nat} {w : Wn} {a : Addr} (h : w a = none) : giveS i w a = none := by unfold giveS; rw [h]; rfl
theorem giveS_this {i : Nat} {w : Wn} {a : Addr} (h : w a = some (.s i)) : giveS i w a = none := by unfold giveS; rw [if_pos h]
theorem giveS_ne {i : Nat} {w : Wn} {a : Addr} {o : Ow} (h : w a = some o) (n : o ≠ .s i) : giveS i w a = some o := by unfold giveS; rw [if_neg (by rw [h]; exact fun z => n (Option.some.inj z))]; exact h
theorem giveS_some {i : Nat} {w : Wn} {a : Addr} {o : Ow} (h : giveS i w a = some o) : w a = some o ∧ o ≠ .s i := by
  unfold giveS at h
  split at h
  · cases h
  · rename_i n; exact ⟨h, fun z => n (by rw [h, z])⟩
theorem Good.give {K : PySem.W.Frag} {ρ : Rho} {σ : St} {H : Hp} {w : Wn} {t i : Nat} {d : D} {q : Nat} (g : Good K ρ σ H w t) (e : ρ[i]? = some (some (d, q))) : Good K (ρ.set i (some (d, 0))) σ H (giveS i w) t ∧ Go H w H (giveS i w) := by
  have st : Stab H w H (giveS i w) := fun a x h n => ⟨sm h, giveS_none n⟩
  refine ⟨⟨⟨fun a o h => g.wl a o (giveS_some h).1, g.wl.tb⟩, fun a j h => g.ws a j (giveS_some h).1, fun a j h => g.wt a j (giveS_some h).1, by rw [List.length_set]; exact g.len, fun j d' q' e' => ?_⟩, ⟨st, fun a o h n => ⟨rfl, giveS_ne h (n i)⟩⟩⟩
  by_cases hj : i = j
  · subst hj
    rw [List.getElem?_set_self (List.getElem?_eq_some_iff.mp e).1] at e'
    cases e'
    obtain ⟨v, F, h1, h2⟩ := g.slot i d q e
    exact ⟨v, [], h1, Rep.freeze (fun a n => giveS_none n) h2 fun a m => giveS_this (h2.owns a m)⟩
  · rw [List.getElem?_set_ne hj] at e'
    obtain ⟨v, F, h1, h2⟩ := g.slot j d' q' e'
    exact ⟨v, F, h1, Rep.go g.wl st h2 fun a m => ⟨rfl, giveS_ne (h2.owns a m) (fun z => hj (by cases z; rfl))⟩⟩
theorem pd_var {i : Nat} {x : Str} (h : PE X (.Name x pos) (tVar i)) : PD X (.Name x pos) (eVar i) := PE.imp h fun σ H Q hh0 => by
  obtain ⟨ρ, w, t, r', q, ρ', g, ee, k⟩ := hh0
  unfold eVar at ee
  split at ee
  · rename_i d q0 e0
    obtain ⟨v, F, h1, h2⟩ := g.slot i d q0 e0
    refine ⟨v, h1, ?_⟩
    split at ee
    · rename_i hl
      cases ee
      obtain ⟨hF, hr⟩ := h2.nolist hl
      exact k v H w [] g.up Go.refl ((hr 9).any g.wl)
    · split at ee
      · rename_i hq
        subst hq
        cases ee
        have := h2.zero
        subst this
        exact k v H w [] g.up Go.refl (h2.any g.wl)
      · cases ee
        obtain ⟨g', go'⟩ := g.give e0
        refine k v H (giveS i w) [] g'.up go' ?_
        exact Rep.freeze (fun a n => giveS_none n) h2 fun a m => giveS_this (h2.owns a m)
  · cases ee
noncomputable def scalV : D → Option V
  | .non => some .non
  | .bl b => some (.bl b)
  | .int i => some (.int i)
  | .str x => some (.str x)
  | _ => none
theorem scal_rep {K : PySem.W.Frag} {H : Hp} {w : Wn} {o : Ow} {q : Nat} {d : D} {v : V} (h : scalV d = some v) : Rep K H w o q d v [] := by
  cases d <;> cases h
  · exact .non
  · exact .bl _
  · exact .int _
  · exact .str _
@[simp] noncomputable def e2 (g : D → D → Option D) (fa fb : Den) : Den := fun ρ => match fa ρ with
  | some (x, _, ρ1) => match fb ρ1 with
    | some (y, _, ρ2) => match g x y with
      | some d => some (d, 9, ρ2)
      | none => none
    | none => none
  | none => none
theorem e2_some {g : D → D → Option D} {ρ ρ' : Rho} {r : D} {q : Nat} (h : e2 g fa fb ρ = some (r, q, ρ')) : ∃ x q1 ρ1 y q2, fa ρ = some (x, q1, ρ1) ∧ fb ρ1 = some (y, q2, ρ') ∧ g x y = some r ∧ q = 9 := by
  unfold e2 at h
  split at h
  · rename_i x q1 ρ1 h1
    split at h
    · rename_i y q2 ρ2 h2
      split at h
      · rename_i d hd
        cases h
        exact ⟨x, q1, ρ1, y, q2, h1, h2, hd, rfl⟩
      · cases h
    · cases h
  · cases h
theorem tOp_of {K : PySem.W.Frag} {g : D → D → Option D} {r : R2} (hg : ∀ x y d, g x y = some d → ∃ v, scalV d = some v ∧ ∀ H w o o' q q' u u' F F', Rep K H w o q x u F → Rep K H w o' q' y u' F' → WL K w H → ∀ Q : VK, Q v H → r u u' H Q) :
    ∀ σ H Q, tD K (e2 g fa fb) σ H Q → tOp r (tD K fa) (tD K fb) σ H Q := fun σ H Q hh0 => by
  obtain ⟨ρ, w, t, r', q, ρ', gd, ee, k⟩ := hh0
  obtain ⟨x, q1, ρ1, y, q2, h1, h2, h3, rfl⟩ := e2_some ee
  obtain ⟨v, hv, hr⟩ := hg x y r' h3
  exact seq2 gd h1 h2 fun u u' H2 w2 F1 F2 g2 go r1 r2 => hr H2 w2 _ _ _ _ u u' F1 F2 r1 r2 g2.wl Q (fin0 k gd g2 go (scal_rep hv))
@[simp] noncomputable def gI (f : Int → Int → Option D) : D → D → Option D
  | .int i, .int j => f i j
  | _, _ => none
theorem gI_some {f : Int → Int → Option D} {x y d : D} (h : gI f x y = some d) : ∃ i j, x = .int i ∧ y = .int j ∧ f i j = some d := by
  unfold gI at h
  split at h
  · exact ⟨_, _, rfl, rfl, h⟩
  · cases h
theorem intOf {K : PySem.W.Frag} {H : Hp} {w : Wn} {o : Ow} {q : Nat} {i : Int} {v : V} {F : List Addr} (r : Rep K H w o q (.int i) v F) : v = .int i := by cases r; rfl
theorem tOp_int {K : PySem.W.Frag} {f : Int → Int → Option D} {C : Int → Int → Prop} {h : Int → Int → V} (hf : ∀ i j d, f i j = some d → C i j ∧ scalV d = some (h i j)) :
    ∀ σ H Q, tD K (e2 (gI f) fa fb) σ H Q → tOp (rI C h) (tD K fa) (tD K fb) σ H Q :=
  tOp_of fun x y d e => by
    obtain ⟨i, j, rfl, rfl, e⟩ := gI_some e
    obtain ⟨c, s⟩ := hf i j d e
    exact ⟨_, s, fun H w o o' q q' u u' F F' r1 r2 _ Q hq => ⟨i, j, intOf r1, intOf r2, c, hq⟩⟩
theorem tOp_int0 {K : PySem.W.Frag} {f : Int → Int → Option D} {h : Int → Int → V} (hf : ∀ i j d, f i j = some d → scalV d = some (h i j)) :
    ∀ σ H Q, tD K (e2 (gI f) fa fb) σ H Q → tOp (rI0 h) (tD K fa) (tD K fb) σ H Q :=
  tOp_of fun x y d e => by
    obtain ⟨i, j, rfl, rfl, e⟩ := gI_some e
    exact ⟨_, hf i j d e, fun H w o o' q q' u u' F F' r1 r2 _ Q hq => ⟨i, j, intOf r1, intOf r2, hq⟩⟩
end
end L3
set_option Elab.async false
set_option linter.all false
set_option maxRecDepth 100000
namespace L3
open PySem PySem.Spec PyProof.Rows L2
section
variable {X : Cx} {a b c e : Expr} {fa fb fc f : Den} {pos : Pos}
@[simp] noncomputable def dAdd : D → D → Option D := gI fun i j => some (.int (i + j))
@[simp] noncomputable def dMul : D → D → Option D := gI fun i j => if (-(2 ^ 64) < i ∧ i < 2 ^ 64) ∨ (-(2 ^ 64) < j ∧ j < 2 ^ 64) then some (.int (i * j)) else none
@[simp] noncomputable def dDiv : D → D → Option D := gI fun i j => if 0 < j ∧ j < 1073741824 then some (.int (i / j)) else none
@[simp] noncomputable def dMod : D → D → Option D := gI fun i j => if 0 < j then some (.int (i % j)) else none
theorem pd_add (ha : PD X a fa) (hb : PD X b fb) : PD X (.BinOp a .Add b pos) (e2 dAdd fa fb) := PE.imp (pe_op op_add ha hb) (tOp_int0 fun i j d h => by cases h; rfl)
theorem pd_mul (ha : PD X a fa) (hb : PD X b fb) : PD X (.BinOp a .Mult b pos) (e2 dMul fa fb) := PE.imp (pe_op op_mul ha hb) (tOp_int fun i j d h => by
  split at h
  · cases h; exact ⟨by assumption, rfl⟩
  · cases h)
theorem pd_div (ha : PD X a fa) (hb : PD X b fb) : PD X (.BinOp a .FloorDiv b pos) (e2 dDiv fa fb) := PE.imp (pe_op op_fdiv ha hb) (tOp_int fun i j d h => by
  split at h
  · cases h; exact ⟨by assumption, rfl⟩
  · cases h)
theorem pd_mod (ha : PD X a fa) (hb : PD X b fb) : PD X (.BinOp a .Mod b pos) (e2 dMod fa fb) := PE.imp (pe_op op_mod ha hb) (tOp_int fun i j d h => by
  split at h
  · cases h; exact ⟨by assumption, rfl⟩
  · cases h)
noncomputable def atD : D → Int → Option D
  | .lst ds, i => atI ds i
  | .tup ds, i => atI ds i
  | _, _ => none
@[simp] noncomputable def eIx (fa fb : Den) : Den := fun ρ => match fa ρ with
  | some (x, _, ρ1) => match fb ρ1 with
    | some (.int i, _, ρ2) => match atD x i with
      | some d => some (d, dep0 d, ρ2)
      | none => none
    | _ => none
  | none => none
theorem Rep.seqL {K : PySem.W.Frag} {H : Hp} {w : Wn} {o : Ow} {q : Nat} {ds : List D} {v : V} {F : List Addr} (r : Rep K H w o q (.lst ds) v F) : ∃ a vs q' G, v = .ref a ∧ SqL K H a vs ∧ Reps K H w o q' ds vs G := by
  cases r with
  | kl h r => exact ⟨_, _, _, _, rfl, h.sq, r⟩
  | shr h n r => exact ⟨_, _, _, _, rfl, .inl h, r⟩
  | own h n r _ => exact ⟨_, _, _, _, rfl, SqL.of h, r⟩
theorem Rep.seqL0 {K : PySem.W.Frag} {H : Hp} {w : Wn} {o : Ow} {ds : List D} {v : V} {F : List Addr} (r : Rep K H w o 0 (.lst ds) v F) : ∃ a vs, v = .ref a ∧ SqL K H a vs ∧ Reps K H w o 0 ds vs [] := by
  cases r with
  | kl h r => exact ⟨_, _, rfl, h.sq, r⟩
  | shr h n r => exact ⟨_, _, rfl, .inl h, r⟩
theorem Rep.seqT {K : PySem.W.Frag} {H : Hp} {w : Wn} {o : Ow} {q : Nat} {ds : List D} {v : V} {F : List Addr} (r : Rep K H w o q (.tup ds) v F) : ∃ a vs, v = .ref a ∧ SqT K H a vs ∧ Reps K H w o 0 ds vs [] := by
  cases r with
  | tup h r => exact ⟨_, _, rfl, SqT.of h, r⟩
theorem Rep.tupAt {K : PySem.W.Frag} {H : Hp} {w : Wn} {o : Ow} {q : Nat} {ds : List D} {v : V} {F : List Addr} (r : Rep K H w o q (.tup ds) v F) : ∃ a vs, v = .ref a ∧ H a = some (.tup vs) ∧ Reps K H w o 0 ds vs [] := by
  cases r with
  | tup h r => exact ⟨_, _, rfl, h, r⟩
theorem Reps.atI {K : PySem.W.Frag} {H : Hp} {w : Wn} {o : Ow} {ds : List D} {vs : List V} {i : Int} {d : D} (r : Reps K H w o 0 ds vs []) (h : L2.atI ds i = some d) : ∃ v, L2.atI vs i = some v ∧ Rep K H w o 0 d v [] := by
  unfold L2.atI at h ⊢
  rw [← r.length]
  cases e : ixN ds.length i with
  | none => rw [e] at h; cases h
  | some j =>
    rw [e] at h
    exact r.get h
theorem pd_ix (ha : PD X a fa) (hb : PD X b fb) (hs : PlainIx b := by exact fun _ _ => rfl) : PD X (.Subscript a b pos) (eIx fa fb) := PE.imp (pe_ix ix_seq ha hb hs) fun σ H Q hh0 => by
  obtain ⟨ρ, w, t, r', q, ρ', gd, ee, k⟩ := hh0
  unfold eIx at ee
  split at ee
  · rename_i x q1 ρ1 h1
    split at ee
    · rename_i i q2 ρ2 h2
      split at ee
      · rename_i d hd
        cases ee
        refine seq2 gd h1 h2 fun u u' H2 w2 F1 F2 g2 go r1 r2 => ?_
        have hu' := intOf r2
        subst hu'
        have r0 := r1.drop (o := .t t) (Nat.le_refl t)
        cases x with
        | lst ds =>
          obtain ⟨p, vs, rfl, hq, rs⟩ := r0.seqL0
          obtain ⟨v, hv, rv⟩ := rs.atI hd
          exact .inl ⟨p, vs, i, v, rfl, rfl, hq, hv, fin0 k gd g2 go rv.dep⟩
        | tup ds =>
          obtain ⟨p, vs, rfl, hq, rs⟩ := r0.seqT
          obtain ⟨v, hv, rv⟩ := rs.atI hd
          exact .inr (.inl ⟨p, vs, i, v, rfl, rfl, hq, hv, fin0 k gd g2 go rv.dep⟩)
        | _ => cases hd
      · cases ee
    · cases ee
  · cases ee
noncomputable abbrev DenA := Rho → Option (List D × Rho)
noncomputable def tDA (K : PySem.W.Frag) (f : DenA) : TA := fun σ H Q => ∃ ρ w t ds ρ', Good K ρ σ H w t ∧ f ρ = some (ds, ρ') ∧ ∀ vs H' w', Good K ρ' σ H' w' t → Go H w H' w' → Reps K H' w' .f 0 ds vs [] → Q vs H'
noncomputable abbrev PDA (X : Cx) (es : List Expr) (f : DenA) : Prop := PA X es (tDA X.K f)
theorem PA.imp {X : Cx} {e : List Expr} {t t' : TA} (h : PA X e t) (i : ∀ σ H Q, t' σ H Q → t σ H Q) : PA X e t' := fun pos pins s σ H Q I q => h pos pins s σ H Q I (i σ H Q q)
@[simp] noncomputable def aNil : DenA := fun ρ => some ([], ρ)
@[simp] noncomputable def aCons (f : Den) (g : DenA) : DenA := fun ρ => match f ρ with
  | some (d, _, ρ1) => match g ρ1 with
    | some (ds, ρ2) => some (d :: ds, ρ2)
    | none => none
  | none => none
theorem pda_nil : PDA X [] aNil := PA.imp pa_nil fun σ H Q hh0 => by
  obtain ⟨ρ, w, t, ds, ρ', gd, ee, k⟩ := hh0
  cases ee
  exact k [] H w gd Go.refl .nil
theorem pda_cons {es : List Expr} {g : DenA} (ha : PD X e f) (hr : PDA X es g) (hs : starEach (e :: es) X.env = (false, eval e X.env) :: starEach es X.env := by rfl) : PDA X (e :: es) (aCons f g) := PA.imp (pa_cons ha hr hs) fun σ H Q hh0 => by
  obtain ⟨ρ, w, t, ds, ρ', gd, ee, k⟩ := hh0
  unfold aCons at ee
  split at ee
  · rename_i d q ρ1 h1
    split at ee
    · rename_i ds' ρ2 h2
      cases ee
      refine ⟨ρ, w, t, d, q, ρ1, gd, h1, fun x H1 w1 F1 g1 go1 r1 => ⟨ρ1, dropT t w1, t, ds', _, g1.drop, h2, fun vs H2 w2 g2 go2 r2 => ?_⟩⟩
      have gl := (g1.drop (t' := t)).wl
      have r0 : Rep X.K H2 w2 .f 0 d x [] := Rep.go gl go2.stab (r1.drop (o := .f) (Nat.le_refl t)) (fun _ z => nomatch z)
      exact k (x :: vs) H2 w2 g2 ((go1.drop gd.wt).trans go2) (.cons (F := []) (G := []) r0 r2 (fun _ z => nomatch z))
    · cases ee
  · cases ee
@[simp] noncomputable def eLst (g : DenA) : Den := fun ρ => match g ρ with
  | some (ds, ρ1) => if ds.length ≤ 1000 then some (.lst ds, 1, ρ1) else none
  | none => none
@[simp] noncomputable def eTup (g : DenA) : Den := fun ρ => match g ρ with
  | some (ds, ρ1) => if ds.length ≤ 1000 then some (.tup ds, 9, ρ1) else none
  | none => none
theorem le1000 {n : Nat} (h : n ≤ 1000) : n ≤ sizeLine := Nat.le_of_lt (small1000 h)
theorem pd_lst {es : List Expr} {g : DenA} (h : PDA X es g) : PD X (.List es pos) (eLst g) := PE.imp (pe_lst h) fun σ H Q hh0 => by
  obtain ⟨ρ, w, t, r', q, ρ', gd, ee, k⟩ := hh0
  unfold eLst at ee
  split at ee
  · rename_i ds ρ1 h1
    split at ee
    · rename_i hl
      cases ee
      refine ⟨ρ, w, t, ds, _, gd, h1, fun vs H1 w1 g1 go1 r1 => ⟨by rw [← r1.length]; exact le1000 hl, fun p hp => ?_⟩⟩
      obtain ⟨a1, a2, a3⟩ := alloc g1 hp r1
      exact k _ _ _ _ a1 (go1.trans a2) a3
    · cases ee
  · cases ee
theorem pd_tup {es : List Expr} {g : DenA} {x1} (h : PDA X es g) : PD X (.Tuple es x1 pos) (eTup g) := PE.imp (pe_tup h) fun σ H Q hh0 => by
  obtain ⟨ρ, w, t, r', q, ρ', gd, ee, k⟩ := hh0
  unfold eTup at ee
  split at ee
  · rename_i ds ρ1 h1
    split at ee
    · rename_i hl
      cases ee
      refine ⟨ρ, w, t, ds, _, gd, h1, fun vs H1 w1 g1 go1 r1 => ⟨by rw [← r1.length]; exact le1000 hl, fun p hp => ?_⟩⟩
      obtain ⟨a1, a2, a3⟩ := allocT g1 hp r1
      exact k _ _ _ _ a1 (go1.trans a2) a3
    · cases ee
  · cases ee
noncomputable def spD (K : PySem.W.Frag) (n : Nat) (F : List D → Option (D × Nat)) : Sp := fun vs H Q _ => vs.length = n ∧ ∃ ds w r q, (∀ a o, w a = some o → o = .f) ∧ WL K w H ∧ Reps K H w .f 0 ds vs [] ∧ F ds = some (r, q) ∧
  ∀ v H' w' Fo, Go H w H' w' → WL K w' H' → Rep K H' w' (.t 0) q r v Fo → Q v H'
@[simp] noncomputable def eCall (F : List D → Option (D × Nat)) (n : Nat) (g : DenA) : Den := fun ρ => match g ρ with
  | some (ds, ρ1) => if ds.length = n then match F ds with
    | some (r, q) => some (r, q, ρ1)
    | none => none
    else none
  | none => none
theorem back {K : PySem.W.Frag} {ρ : Rho} {σ : St} {H H' : Hp} {w w' : Wn} {t q : Nat} {d : D} {v : V} {Fo : List Addr} (g : Good K ρ σ H w t)
    (go : Go H (fun a => (w a).map fun _ => Ow.f) H' w') (wl' : WL K w' H') (r : Rep K H' w' (.t 0) q d v Fo) :
    Good K ρ σ H' (fun a => if a ∈ Fo then some (.t t) else w a) (t + 1) ∧ Go H w H' (fun a => if a ∈ Fo then some (.t t) else w a) ∧ Rep K H' (fun a => if a ∈ Fo then some (.t t) else w a) (.t t) q d v Fo := by
  have kf : ∀ a o, w a = some o → H' a = H a ∧ w' a = some .f := fun a o e => go.keep a .f (by show (w a).map _ = _; rw [e]; rfl) (fun _ z => nomatch z)
  have nf : ∀ a x, H a = some x → a ∉ Fo := fun a x e m => by
    have h1 := r.owns a m
    cases ew : w a with
    | none =>
      have := (go.stab a x e (by show (w a).map _ = _; rw [ew]; rfl)).2
      rw [h1] at this; cases this
    | some o => rw [(kf a o ew).2] at h1; cases h1
  have nw : ∀ a o, w a = some o → a ∉ Fo := fun a o e => by obtain ⟨vs, q⟩ := g.wl a o e; exact nf a _ q
  have st : Stab H w H' (fun a => if a ∈ Fo then some (.t t) else w a) := fun a x e n => ⟨(go.stab a x e (by show (w a).map _ = _; rw [n]; rfl)).1, by show (if a ∈ Fo then _ else _) = _; rw [if_neg (nf a x e)]; exact n⟩
  have wv : ∀ a o, (if a ∈ Fo then some (Ow.t t) else w a) = some o → (a ∈ Fo ∧ o = .t t) ∨ w a = some o := fun a o e => by
    split at e
    · cases e; exact .inl ⟨by assumption, rfl⟩
    · exact .inr e
  refine ⟨⟨⟨fun a o e => ?_, wl'.tb⟩, fun a i e => ?_, fun a i e => ?_, g.len, fun i d q e => ?_⟩, ⟨st, fun a o e _ => ⟨(kf a o e).1, by show (if a ∈ Fo then _ else _) = _; rw [if_neg (nw a o e)]; exact e⟩⟩, ?_⟩
  · rcases wv a o e with ⟨m, _⟩ | z
    · exact wl' a _ (r.owns a m)
    · obtain ⟨vs, h⟩ := g.wl a o z
      exact ⟨vs, (kf a o z).1.trans h⟩
  · rcases wv a _ e with ⟨_, z⟩ | z
    · cases z
    · exact g.ws a i z
  · rcases wv a _ e with ⟨_, z⟩ | z
    · cases z; exact Nat.lt_succ_self _
    · exact Nat.lt_succ_of_lt (g.wt a i z)
  · obtain ⟨v, F, h1, h2⟩ := g.slot i d q e
    refine ⟨v, F, h1, Rep.go g.wl st h2 fun a m => ⟨(kf a _ (h2.owns a m)).1, ?_⟩⟩
    show (if a ∈ Fo then _ else _) = _
    rw [if_neg (nw a _ (h2.owns a m))]
    exact h2.owns a m
  · refine Rep.go wl' (fun a x e n => ⟨sm e, ?_⟩) r fun a m => ⟨rfl, if_pos m⟩
    show (if a ∈ Fo then _ else _) = _
    rw [if_neg (fun m => by have := r.owns a m; rw [n] at this; cases this)]
    cases ew : w a with
    | none => rfl
    | some o => have := (kf a o ew).2; rw [n] at this; cases this
theorem pd_callF {CX : CXT} {k n : Nat} {fn : Addr} {fd : FuncData} {ps : List Str} {x : Str} {p : Pos} {es : List Expr} {F : List D → Option (D × Nat)} {g : DenA} {E : XK} (Fk : FnOk X.prog X.w X.K X.mg X.base CX k fn fd ps (spD X.K n F)) (hr : Room k X.A) (hm : X.mg x = some (.ref fn)) (hk : PySem.W.keepIn X.K (.ref fn) = true) (hb : Binds X.K fd ps [])
    (hx : Passes CX X E) (ha : PDA X (e :: es) g) (hg : Gl X x := by rfl) (hdb : (x == ("__debug__" : Str)) = false := by decide) (he : starEach (e :: es) X.env = (false, eval e X.env) :: starEach es X.env := by rfl) (hpl : (backTo pos (starEach es X.env)).any (·.1) = false := by rfl) :
    PD X (.Call (.Name x p) (e :: es) [] pos) (eCall F n g) := PE.imp (pe_call Fk hr hg hm hk hb .nil hx ha hdb he hpl) fun σ H Q hh0 => by
  obtain ⟨ρ, w, t, r', q, ρ', gd, ee, k⟩ := hh0
  unfold eCall at ee
  split at ee
  · rename_i ds ρ1 h1
    split at ee
    · rename_i hn
      split at ee
      · rename_i r0 q0 h2
        cases ee
        refine ⟨ρ, w, t, ds, _, gd, h1, fun vs H1 w1 g1 go1 r1 => ?_⟩
        show spD X.K n F (vs ++ []) H1 Q E
        rw [List.append_nil]
        refine ⟨by rw [← r1.length]; exact hn, ds, fun a => (w1 a).map fun _ => Ow.f, r', q, fun a o e => ?_, ⟨fun a o e => ?_, g1.wl.tb⟩, ?_, h2, fun v H2 w2 Fo go2 wl2 rr => ?_⟩
        · dsimp only at e
          cases ew : w1 a with
          | none => rw [ew] at e; cases e
          | some o' => rw [ew] at e; cases e; rfl
        · try dsimp only at e
          cases ew : w1 a with
          | none => rw [ew] at e; cases e
          | some o' => exact g1.wl a o' ew
        · exact Reps.freeze (fun a n => by show (w1 a).map _ = _; rw [n]; rfl) r1 (fun _ z => nomatch z)
        · obtain ⟨b1, b2, b3⟩ := back g1 go2 wl2 rr
          exact k _ _ _ _ b1 (go1.trans b2) b3
      · cases ee
    · cases ee
  · cases ee
end
end L3
set_option Elab.async false
set_option linter.all false
set_option maxRecDepth 100000
namespace L3
open PySem PySem.Spec PyProof.Rows L2
noncomputable abbrev DenT := Rho → Option (Bool × Rho)
noncomputable def tDT (K : PySem.W.Frag) (f : DenT) : TT := fun σ H Q => ∃ ρ w t b ρ', Good K ρ σ H w t ∧ f ρ = some (b, ρ') ∧ ∀ H' w', Good K ρ' σ H' w' t → Go H w H' w' → Q b H'
theorem PT.imp {X : Cx} {e : Expr} {t t' : TT} (h : PT X e t) (i : ∀ σ H Q, t' σ H Q → t σ H Q) : PT X e t' := fun pins s σ H Q I q => h pins s σ H Q I (i σ H Q q)
theorem PW.imp {X : Cx} {e : Expr} {t t' : TT} (h : PW X e t) (i : ∀ σ H Q, t' σ H Q → t σ H Q) : PW X e t' := fun whole pins s σ H Q I q => h whole pins s σ H Q I (i σ H Q q)
noncomputable abbrev PDT (X : Cx) (e : Expr) (f : DenT) : Prop := PT X e (tDT X.K f)
noncomputable abbrev PDW (X : Cx) (e : Expr) (f : DenT) : Prop := PW X e (tDT X.K f)
@[simp] noncomputable def truD : D → Option Bool
  | .non => some false
  | .bl b => some b
  | .int i => some (i != 0)
  | .tup ds => some (!ds.isEmpty)
  | .lst ds => some (!ds.isEmpty)
  | .str _ => none
  | .dic _ _ => none
  | .exc _ => none
  | .ob _ _ _ _ => none
@[simp] noncomputable def tOfV (f : Den) : DenT := fun ρ => match f ρ with
  | some (d, _, ρ1) => match truD d with
    | some b => some (b, ρ1)
    | none => none
  | none => none
section
variable {X : Cx} {a b c e : Expr} {fa fb fc f : Den} {ga gb gc : DenT} {pos : Pos}
theorem empty_of {α β : Type} {l : List α} {l' : List β} (h : l.length = l'.length) : (!l.isEmpty) = !l'.isEmpty := by
  cases l <;> cases l' <;> first | rfl | cases h
theorem pdt_val (ha : PD X a fa) (he : ∀ whole, isTrue a X.env whole = (do let v ← whole; standAt a.pos; holding [v] (truthy v)) := by exact fun _ => rfl) : PDT X a (tOfV fa) := PT.imp (pt_truth ha he) fun σ H Q hh0 => by
  obtain ⟨ρ, w, t, b, ρ', gd, ee, k⟩ := hh0
  unfold tOfV at ee
  split at ee
  · rename_i d q ρ1 h1
    split at ee
    · rename_i b' hb
      cases ee
      refine ⟨ρ, w, t, d, q, _, gd, h1, fun v H1 w1 F g1 go1 r1 => ⟨b, ?_, k H1 (dropT t w1) g1.drop (go1.drop gd.wt)⟩⟩
      cases r1 with
      | non => cases hb; rfl
      | bl x => cases hb; rfl
      | int i => cases hb; rfl
      | str x => cases hb
      | tup h r => cases hb; exact .inr (.inl ⟨_, SqT.of h, empty_of r.length⟩)
      | dic h r => cases hb
      | exc h x n => cases hb
      | ob h1 h2 x r => cases hb
      | kl h r => cases hb; exact .inl ⟨_, h.sq, empty_of r.length⟩
      | shr h _ r => cases hb; exact .inl ⟨_, .inl h, empty_of r.length⟩
      | own h _ r _ => cases hb; exact .inl ⟨_, SqL.of h, empty_of r.length⟩
    · cases ee
  · cases ee
@[simp] noncomputable def tOfB (f : Den) : DenT := fun ρ => match f ρ with
  | some (.bl b, _, ρ1) => some (b, ρ1)
  | _ => none
theorem tTest_of {K : PySem.W.Frag} {te : TE} (h : ∀ σ H Q, tD K f σ H Q → te σ H Q) : ∀ σ H Q, tDT K (tOfB f) σ H Q → tTest te σ H Q := fun σ H Q hh0 => by
  obtain ⟨ρ, w, t, b, ρ', gd, ee, k⟩ := hh0
  unfold tOfB at ee
  split at ee
  · rename_i b' q ρ1 h1
    cases ee
    refine h σ H _ ⟨ρ, w, t, .bl b, q, _, gd, h1, fun v H1 w1 F g1 go1 r1 => ?_⟩
    cases r1
    exact ⟨b, rfl, k H1 (dropT t w1) g1.drop (go1.drop gd.wt)⟩
  · cases ee
theorem pdt_cmp {op : CmpOp} {g : D → D → Option D} {r : R2} (ho : OpR X (compareOp op) r) (hr : ∀ σ H Q, tD X.K (e2 g fa fb) σ H Q → tOp r (tD X.K fa) (tD X.K fb) σ H Q) (ha : PD X a fa) (hb : PD X b fb) (hm : behindInMarks op b = false) :
    PDT X (.Compare a [op] [b] pos) (tOfB (e2 g fa fb)) := PT.imp (pt_cmpR ho ha hb hm) (tTest_of hr)
theorem pd_cmp {op : CmpOp} {g : D → D → Option D} {r : R2} (ho : OpR X (compareOp op) r) (hr : ∀ σ H Q, tD X.K (e2 g fa fb) σ H Q → tOp r (tD X.K fa) (tD X.K fb) σ H Q) (ha : PD X a fa) (hb : PD X b fb) (hm : behindInMarks op b = false) :
    PD X (.Compare a [op] [b] pos) (e2 g fa fb) := PE.imp (pe_cmpR ho ha hb hm) hr
@[simp] noncomputable def dLt : D → D → Option D := gI fun i j => some (.bl (decide (i < j)))
theorem hLt {K : PySem.W.Frag} : ∀ σ H Q, tD K (e2 dLt fa fb) σ H Q → tOp (rI0 fun i j => .bl (decide (i < j))) (tD K fa) (tD K fb) σ H Q := tOp_int0 fun i j d h => by cases h; rfl
theorem pdt_lt (ha : PD X a fa) (hb : PD X b fb) : PDT X (.Compare a [.Lt] [b] pos) (tOfB (e2 dLt fa fb)) := pdt_cmp op_lt hLt ha hb (nomark _)
@[simp] noncomputable def tNotD (g : DenT) : DenT := fun ρ => match g ρ with
  | some (b, ρ1) => some (!b, ρ1)
  | none => none
@[simp] noncomputable def tAndD (g h : DenT) : DenT := fun ρ => match g ρ with
  | some (b, ρ1) => if b = true then h ρ1 else some (false, ρ1)
  | none => none
@[simp] noncomputable def tOrD (g h : DenT) : DenT := fun ρ => match g ρ with
  | some (b, ρ1) => if b = true then some (true, ρ1) else h ρ1
  | none => none
variable {rest : List Expr}
theorem pdw_and1 (ha : PDT X a ga) : PDW X (.BoolOp .And [a] pos) ga := pw_and1 ha
theorem pdw_or1 (ha : PDT X a ga) : PDW X (.BoolOp .Or [a] pos) ga := pw_or1 ha
theorem pdw_and (ha : PDT X a ga) (hb : PDW X (.BoolOp .And (b :: rest) pos) gb) : PDW X (.BoolOp .And (a :: b :: rest) pos) (tAndD ga gb) := PW.imp (pw_and ha hb) fun σ H Q hh0 => by
  obtain ⟨ρ, w, t, b, ρ', gd, ee, k⟩ := hh0
  unfold tAndD at ee
  split at ee
  · rename_i b' ρ1 h1
    refine ⟨ρ, w, t, b', ρ1, gd, h1, fun H1 w1 g1 go1 => ?_⟩
    split at ee
    · rename_i hb; rw [if_pos hb]
      exact ⟨ρ1, w1, t, b, ρ', g1, ee, fun H2 w2 g2 go2 => k H2 w2 g2 (go1.trans go2)⟩
    · rename_i hb; rw [if_neg hb]
      cases ee
      exact k H1 w1 g1 go1
  · cases ee
theorem pdw_or (ha : PDT X a ga) (hb : PDW X (.BoolOp .Or (b :: rest) pos) gb) : PDW X (.BoolOp .Or (a :: b :: rest) pos) (tOrD ga gb) := PW.imp (pw_or ha hb) fun σ H Q hh0 => by
  obtain ⟨ρ, w, t, b, ρ', gd, ee, k⟩ := hh0
  unfold tOrD at ee
  split at ee
  · rename_i b' ρ1 h1
    refine ⟨ρ, w, t, b', ρ1, gd, h1, fun H1 w1 g1 go1 => ?_⟩
    split at ee
    · rename_i hb; rw [if_pos hb]
      cases ee
      exact k H1 w1 g1 go1
    · rename_i hb; rw [if_neg hb]
      exact ⟨ρ1, w1, t, b, ρ', g1, ee, fun H2 w2 g2 go2 => k H2 w2 g2 (go1.trans go2)⟩
  · cases ee
@[simp] noncomputable def eIf (g : DenT) (fa fb : Den) : Den := fun ρ => match g ρ with
  | some (b, ρ1) => if b = true then fa ρ1 else fb ρ1
  | none => none
theorem pd_ifExp (hc : PDT X c gc) (ha : PD X a fa) (hb : PD X b fb) : PD X (.IfExp c a b pos) (eIf gc fa fb) := PE.imp (pe_ifExp hc ha hb) fun σ H Q hh0 => by
  obtain ⟨ρ, w, t, r', q, ρ', gd, ee, k⟩ := hh0
  unfold eIf at ee
  split at ee
  · rename_i b' ρ1 h1
    refine ⟨ρ, w, t, b', ρ1, gd, h1, fun H1 w1 g1 go1 => ?_⟩
    split at ee
    · rename_i hb; rw [if_pos hb]
      exact ⟨ρ1, w1, t, r', q, ρ', g1, ee, fun v H2 w2 F g2 go2 => k v H2 w2 F g2 (go1.trans go2)⟩
    · rename_i hb; rw [if_neg hb]
      exact ⟨ρ1, w1, t, r', q, ρ', g1, ee, fun v H2 w2 F g2 go2 => k v H2 w2 F g2 (go1.trans go2)⟩
  · cases ee
end
inductive Out where
  | nx (ρ : Rho) | rt (d : D) (q : Nat) | bk (ρ : Rho) | ct (ρ : Rho)
noncomputable abbrev DenS := Rho → Option Out
noncomputable def EndsD (K : PySem.W.Frag) (Dn : Ends) (n : Nat) (H : Hp) (w : Wn) : Out → Prop
  | .nx ρ' => ∀ σ' H' w', σ'.length = n → Good K ρ' σ' H' w' 0 → Go H w H' w' → Dn.nx σ' H'
  | .bk ρ' => ∀ σ' H' w', σ'.length = n → Good K ρ' σ' H' w' 0 → Go H w H' w' → Dn.bk σ' H'
  | .ct ρ' => ∀ σ' H' w', σ'.length = n → Good K ρ' σ' H' w' 0 → Go H w H' w' → Dn.ct σ' H'
  | .rt d q => ∀ v H' w' F, WL K w' H' → Go H w H' w' → Rep K H' w' (.t 0) q d v F → Dn.rt v H'
noncomputable def tDS (K : PySem.W.Frag) (f : DenS) : TS := fun Dn σ H => ∃ ρ w o, Good K ρ σ H w 0 ∧ f ρ = some o ∧ EndsD K Dn σ.length H w o
theorem PS.imp {X : Cx} {e : Stmt} {t t' : TS} (h : PS X e t) (i : ∀ D σ H, t' D σ H → t D σ H) : PS X e t' := fun pins s σ H D I q => h pins s σ H D I (i D σ H q)
theorem PSs.imp {X : Cx} {e : List Stmt} {t t' : TS} (h : PSs X e t) (i : ∀ D σ H, t' D σ H → t D σ H) : PSs X e t' := fun pins s σ H D I q => h pins s σ H D I (i D σ H q)
noncomputable abbrev PDS (X : Cx) (st : Stmt) (f : DenS) : Prop := PS X st (tDS X.K f)
noncomputable abbrev PDSs (X : Cx) (st : List Stmt) (f : DenS) : Prop := PSs X st (tDS X.K f)
@[simp] noncomputable def sNil : DenS := fun ρ => some (.nx ρ)
@[simp] noncomputable def sSeq (f g : DenS) : DenS := fun ρ => match f ρ with
  | some (.nx ρ1) => g ρ1
  | o => o
theorem EndsD.trans {K : PySem.W.Frag} {Dn : Ends} {n : Nat} {H H1 : Hp} {w w1 : Wn} (go : Go H w H1 w1) : ∀ {o : Out}, EndsD K Dn n H w o → EndsD K Dn n H1 w1 o
  | .nx _, h => fun σ' H' w' e g go' => h σ' H' w' e g (go.trans go')
  | .bk _, h => fun σ' H' w' e g go' => h σ' H' w' e g (go.trans go')
  | .ct _, h => fun σ' H' w' e g go' => h σ' H' w' e g (go.trans go')
  | .rt _ _, h => fun v H' w' F wl go' => h v H' w' F wl (go.trans go')
section
variable {X : Cx} {a b c e : Expr} {fa fb fc f : Den} {ga gb gc : DenT} {pos : Pos} {st : Stmt} {rest sa sb : List Stmt} {s s' : DenS}
theorem pds_nil : PDSs X [] sNil := PSs.imp pss_nil fun D σ H hh0 => by
  obtain ⟨ρ, w, o, g, ee, k⟩ := hh0
  cases ee
  exact k σ H w rfl g Go.refl
theorem pds_cons (h1 : PDS X st s) (h2 : PDSs X rest s') : PDSs X (st :: rest) (sSeq s s') := PSs.imp (pss_cons h1 h2) fun D σ H hh0 => by
  obtain ⟨ρ, w, o, g, ee, k⟩ := hh0
  unfold sSeq at ee
  split at ee
  · rename_i ρ1 h1
    exact ⟨ρ, w, .nx ρ1, g, h1, fun σ' H' w' e g' go' => ⟨ρ1, w', o, g', ee, by rw [e]; exact k.trans go'⟩⟩
  · rename_i hne
    refine ⟨ρ, w, o, g, ee, ?_⟩
    cases o with
    | nx ρ1 => exact absurd ee (hne ρ1)
    | bk ρ1 => exact k
    | ct ρ1 => exact k
    | rt d q => exact k
theorem pds_one (h1 : PDS X st s) : PDSs X [st] s := pss_one h1
@[simp] noncomputable def sRet (f : Den) : DenS := fun ρ => match f ρ with
  | some (d, q, _) => some (.rt d q)
  | none => none
theorem pds_ret (h : PD X e f) : PDS X (.Return (some e) pos) (sRet f) := PS.imp (ps_ret h) fun D σ H hh0 => by
  obtain ⟨ρ, w, o, g, ee, k⟩ := hh0
  unfold sRet at ee
  split at ee
  · rename_i d q ρ1 h1
    cases ee
    exact ⟨ρ, w, 0, d, q, ρ1, g, h1, fun v H' w' F g' go' r => k v H' w' F g'.wl go' r⟩
  · cases ee
@[simp] noncomputable def sIf (g : DenT) (s s' : DenS) : DenS := fun ρ => match g ρ with
  | some (b, ρ1) => if b = true then s ρ1 else s' ρ1
  | none => none
theorem pds_if (hc : PDT X c gc) (ha : PDSs X sa s) (hb : PDSs X sb s') : PDS X (.If c sa sb pos) (sIf gc s s') := PS.imp (ps_if hc ha hb) fun D σ H hh0 => by
  obtain ⟨ρ, w, o, g, ee, k⟩ := hh0
  unfold sIf at ee
  split at ee
  · rename_i b' ρ1 h1
    refine ⟨ρ, w, 0, b', ρ1, g, h1, fun H1 w1 g1 go1 => ?_⟩
    split at ee
    · rename_i hb; rw [if_pos hb]
      exact ⟨ρ1, w1, o, g1, ee, k.trans go1⟩
    · rename_i hb; rw [if_neg hb]
      exact ⟨ρ1, w1, o, g1, ee, k.trans go1⟩
  · cases ee
noncomputable def moveW (t i : Nat) (w : Wn) : Wn := fun a => if w a = some (.t t) then some (.s i) else if w a = some (.s i) then none else w a
theorem Good.set {K : PySem.W.Frag} {ρ : Rho} {σ : St} {H : Hp} {w : Wn} {i q : Nat} {d : D} {v : V} {F : List Addr} (g : Good K ρ σ H w 1) (hi : i < σ.length) (r : Rep K H w (.t 0) q d v F) :
    Good K (ρ.set i (some (d, q))) (σ.set i (some v)) H (moveW 0 i w) 0 ∧ ∀ H₀ w₀, Go H₀ w₀ H w → (∀ a j, w₀ a = some (.t j) → j < 0) → Go H₀ w₀ H (moveW 0 i w) := by
  have mN : ∀ a, w a = none → moveW 0 i w a = none := fun a e => by unfold moveW; rw [e]; rfl
  have mT : ∀ a, w a = some (.t 0) → moveW 0 i w a = some (.s i) := fun a e => by unfold moveW; rw [if_pos e]
  have mS : ∀ a j, w a = some (.s j) → j ≠ i → moveW 0 i w a = some (.s j) := fun a j e n => by
    unfold moveW
    rw [if_neg (by rw [e]; exact fun z => nomatch z), if_neg (by rw [e]; intro z; cases z; exact n rfl)]
    exact e
  have mF : ∀ a, w a = some .f → moveW 0 i w a = some .f := fun a e => by
    unfold moveW
    rw [if_neg (by rw [e]; exact fun z => nomatch z), if_neg (by rw [e]; exact fun z => nomatch z)]
    exact e
  have mI : ∀ a o, moveW 0 i w a = some o → (w a = some (.t 0) ∧ o = .s i) ∨ (w a = some o ∧ o ≠ .s i ∧ o ≠ .t 0) := fun a o e => by
    unfold moveW at e
    split at e
    · cases e; exact .inl ⟨by assumption, rfl⟩
    · rename_i n1
      split at e
      · cases e
      · rename_i n2; exact .inr ⟨e, fun z => n2 (by rw [e, z]), fun z => n1 (by rw [e, z])⟩
  have st : Stab H w H (moveW 0 i w) := fun a x h n => ⟨sm h, mN a n⟩
  refine ⟨⟨⟨fun a o e => ?_, g.wl.tb⟩, fun a j e => ?_, fun a j e => ?_, by rw [List.length_set, List.length_set]; exact g.len, fun j d' q' e' => ?_⟩, fun H₀ w₀ go hw => ⟨fun a x h n => ⟨(go.stab a x h n).1, mN a (go.stab a x h n).2⟩, fun a o e n => ?_⟩⟩
  · rcases mI a o e with ⟨z, _⟩ | ⟨z, _⟩
    · exact g.wl a _ z
    · exact g.wl a _ z
  · rw [List.length_set]
    rcases mI a _ e with ⟨_, z⟩ | ⟨z, _⟩
    · cases z; exact hi
    · exact g.ws a j z
  · rcases mI a _ e with ⟨_, z⟩ | ⟨z, _, n⟩
    · cases z
    · have := g.wt a j z
      have : j = 0 := by omega
      subst this
      exact absurd rfl n
  · by_cases hj : i = j
    · subst hj
      rw [List.getElem?_set_self (by rw [g.len]; exact hi)] at e'
      cases e'
      exact ⟨v, F, List.getElem?_set_self hi, Rep.go g.wl st r fun a m => ⟨rfl, mT a (r.owns a m)⟩⟩
    · rw [List.getElem?_set_ne hj] at e'
      obtain ⟨v', F', h1, h2⟩ := g.slot j d' q' e'
      exact ⟨v', F', by rw [List.getElem?_set_ne hj]; exact h1, Rep.go g.wl st h2 fun a m => ⟨rfl, mS a j (h2.owns a m) (fun z => hj z.symm)⟩⟩
  · obtain ⟨h1, h2⟩ := go.keep a o e n
    refine ⟨h1, ?_⟩
    cases o with
    | s j => exact absurd rfl (n j)
    | f => exact mF a h2
    | t j => exact absurd (hw a j e) (Nat.not_lt_zero _)
@[simp] noncomputable def sSet (i : Nat) (f : Den) : DenS := fun ρ => match f ρ with
  | some (d, q, ρ1) => some (.nx (ρ1.set i (some (d, q))))
  | none => none
theorem sSet_ok {K : PySem.W.Frag} {i : Nat} {D : Ends} {σ : St} {H : Hp} {te : TE} (hi : i < σ.length) (he : ∀ Q, tD K f σ H Q → te σ H Q) (h : tDS K (sSet i f) D σ H) : te σ H fun x H1 => D.nx (σ.set i (some x)) H1 := by
  obtain ⟨ρ, w, o, g, ee, k⟩ := h
  unfold sSet at ee
  split at ee
  · rename_i d q ρ1 h1
    cases ee
    refine he _ ⟨ρ, w, 0, d, q, ρ1, g, h1, fun v H' w' F g' go' r => ?_⟩
    obtain ⟨a1, a2⟩ := g'.set hi r
    exact k _ _ _ (by rw [List.length_set]) a1 (a2 _ _ go' g.wt)
  · cases ee
theorem pds_set {i : Nat} {x : Str} {pos' : Pos} (hN : X.N.Nodup) (hi : X.N[i]? = some x) (hx : Loc X.env.scope x) (he : PD X e f) (hs : swapsWith e (some (.Name x pos')) pos.line X.env = pure false := by rfl) (hf : X.fn x = true ∨ X.env.scope.names.lookup x = some .local := by first | exact .inl rfl | exact .inr rfl) :
    PDS X (.Assign [.Name x pos'] e pos) (sSet i f) := by
  intro pins s σ H D I h
  have hl : i < σ.length := by rw [I.len]; exact (List.getElem?_eq_some_iff.mp hi).1
  exact ps_set (te := tD X.K f) hN hi hx he hs hf pins s σ H D I (sSet_ok hl (fun _ z => z) h)
@[simp] noncomputable def sDrop (f : Den) : DenS := fun ρ => match f ρ with
  | some (_, _, ρ1) => some (.nx ρ1)
  | none => none
theorem pds_expr (he : PD X e f) (hs : swapsWith e none pos.line X.env = pure false := by rfl) : PDS X (.Expr e pos) (sDrop f) := PS.imp (ps_expr he hs) fun D σ H hh0 => by
  obtain ⟨ρ, w, o, g, ee, k⟩ := hh0
  unfold sDrop at ee
  split at ee
  · rename_i d q ρ1 h1
    cases ee
    exact ⟨ρ, w, 0, d, q, ρ1, g, h1, fun v H' w' F g' go' r => k σ H' (dropT 0 w') rfl g'.drop (go'.drop g.wt)⟩
  · cases ee
end
end L3
set_option Elab.async false
set_option linter.all false
set_option maxRecDepth 100000
namespace L3
open PySem PySem.Spec PyProof.Rows L2
structure Mo (K : PySem.W.Frag) (H H' : Hp) : Prop where
  mo : ∀ a o, H a = some o → H' a = some o
  tb : TB K H → TB K H'
theorem Mo.rfl' {K : PySem.W.Frag} {H : Hp} : Mo K H H := ⟨fun _ _ e => e, fun t => t⟩
structure ItOk (K : PySem.W.Frag) (J : It) (ds : List D) (P : Hp → Wn → Prop) : Prop where
  go : ∀ i H w, P H w → i < ds.length → J.go i H
  yld : ∀ i H w x H' d, P H w → WL K w H → ds[i]? = some d → J.yld i H x H' → Mo K H H' ∧ Rep K H' w .f 0 d x [] ∧ P H' w
  stop : ∀ H w, P H w → J.stop ds.length H
  st : ∀ H w H' w', P H w → WL K w H → Stab H w H' w' → P H' w'
noncomputable abbrev DenI := Rho → Option (List D × Rho)
noncomputable def tDI (K : PySem.W.Frag) (f : DenI) : TI := fun σ H R => ∃ ρ w t ds ρ', Good K ρ σ H w t ∧ f ρ = some (ds, ρ') ∧
  ∀ J P H' w', Good K ρ' σ H' w' t → Go H w H' w' → ItOk K J ds P → P H' w' → ds.length < sizeLine → R J H'
theorem PI.imp {X : Cx} {tg e : Expr} {t t' : TI} (h : PI X tg e t) (i : ∀ σ H R, t' σ H R → t σ H R) : PI X tg e t' := fun pins s σ H R I q => h pins s σ H R I (i σ H R q)
noncomputable abbrev PDI (X : Cx) (tg e : Expr) (f : DenI) : Prop := PI X tg e (tDI X.K f)
theorem It.list {K : PySem.W.Frag} {a : Addr} {vs : List V} {ds : List D} (hl : ds.length = vs.length) : ItOk K (Itl K a) ds fun H w => (KL K a vs ∨ (Rd H a (.lst vs) ∧ w a = none)) ∧ Reps K H w .f 0 ds vs [] := by
  have sq : ∀ {H : Hp} {w : Wn}, KL K a vs ∨ (Rd H a (.lst vs) ∧ w a = none) → SqL K H a vs := fun h => h.elim (fun z => z.sq) fun z => .inl z.1
  refine ⟨fun i H w p hi => ⟨vs, vs[i], sq p.1, by simp [hl ▸ hi]⟩, fun i H w x H' d p wl hd y => ?_, fun H w p => ⟨vs, sq p.1, by omega⟩, fun H w H' w' p wl st => ?_⟩
  · obtain ⟨rfl, hx⟩ := y
    obtain ⟨v, hv, rv⟩ := p.2.get hd
    have := hx vs (sq p.1)
    rw [hv] at this
    cases this
    exact ⟨Mo.rfl', rv, p⟩
  · refine ⟨?_, Reps.go wl st p.2 (fun _ z => nomatch z)⟩
    rcases p.1 with p | ⟨p, n⟩
    · exact .inl p
    · exact .inr (RdL.go st n p)
theorem It.tup {K : PySem.W.Frag} {a : Addr} {vs : List V} {ds : List D} (hl : ds.length = vs.length) : ItOk K (Itt K a) ds fun H w => SqT K H a vs ∧ Reps K H w .f 0 ds vs [] :=
  ⟨fun i H w p hi => ⟨vs, vs[i], p.1, by simp [hl ▸ hi]⟩, fun i H w x H' d p wl hd y => by
    obtain ⟨rfl, hx⟩ := y
    obtain ⟨v, hv, rv⟩ := p.2.get hd
    have := hx vs p.1
    rw [hv] at this
    cases this
    exact ⟨Mo.rfl', rv, p⟩, fun H w p => ⟨vs, p.1, by omega⟩, fun H w H' w' p wl st => ⟨SqT.go wl st p.1, Reps.go wl st p.2 (fun _ z => nomatch z)⟩⟩
noncomputable def rangeV (n : Nat) : List V := (List.range n).map fun i => .int (Int.ofNat i)
noncomputable def rangeD (n : Nat) : List D := (List.range n).map fun i => .int (Int.ofNat i)
theorem rangeD_len (n : Nat) : (rangeD n).length = n := by simp [rangeD]
theorem rangeV_len (n : Nat) : (rangeV n).length = n := by simp [rangeV]
theorem It.range {K : PySem.W.Frag} {n : Nat} : ItOk K (Itr 0 n) (rangeD n) fun _ _ => True := by
  refine ⟨fun i H w _ hi => by rw [rangeD_len] at hi; exact hi, fun i H w x H' d _ _ hd y => ?_, fun H w _ => by rw [rangeD_len]; exact Nat.le_refl _, fun _ _ _ _ _ _ _ => trivial⟩
  have hi : i < n := by have := (List.getElem?_eq_some_iff.mp hd).1; rw [rangeD_len] at this; exact this
  have e : x = .int (0 + (i : Int)) := y.2
  have ed : d = .int (Int.ofNat i) := by
    have : (rangeD n)[i]? = some (.int (Int.ofNat i)) := by simp [rangeD, hi]
    rw [hd] at this
    exact Option.some.inj this
  obtain ⟨rfl, _⟩ := y
  subst ed
  rw [e, Int.zero_add]
  exact ⟨Mo.rfl', .int _, trivial⟩
theorem reps_ints {K : PySem.W.Frag} {H : Hp} {w : Wn} {o : Ow} : ∀ (ns : List Int), Reps K H w o 0 (ns.map D.int) (ns.map V.int) []
  | [] => .nil
  | n :: r => .cons (F := []) (G := []) (.int n) (reps_ints r) (fun _ z => nomatch z)
theorem reps_range {K : PySem.W.Frag} {H : Hp} {w : Wn} {o : Ow} (n : Nat) : Reps K H w o 0 (rangeD n) (rangeV n) [] := by
  have := reps_ints (K := K) (H := H) (w := w) (o := o) ((List.range n).map Int.ofNat)
  rw [List.map_map, List.map_map] at this
  exact this
section
variable {X : Cx} {tg a b c e : Expr} {fa fb fc f : Den} {ga gb gc : DenT} {pos p : Pos}
@[simp] noncomputable def iRange (g : DenA) : DenI := fun ρ => match g ρ with
  | some ([.int n], ρ1) => if -1000 ≤ n ∧ n ≤ 1000 then some (rangeD n.toNat, ρ1) else none
  | _ => none
theorem pdi_range1 {g : DenA} (hm : X.mg "range" = none) (ha : PDA X [a] g) (hg : Gl X "range" := by rfl) (hs : starEach [a] X.env = [(false, eval a X.env)] := by rfl) : PDI X tg (.Call (.Name "range" p) [a] [] pos) (iRange g) := PI.imp (pi_range1 hg hm ha hs) fun σ H R hh0 => by
  obtain ⟨ρ, w, t, ds, ρ', gd, ee, k⟩ := hh0
  unfold iRange at ee
  split at ee
  · rename_i n ρ1 h1
    split at ee
    · rename_i hn
      cases ee
      refine ⟨ρ, w, t, [.int n], _, gd, h1, fun vs H1 w1 g1 go1 r1 => ?_⟩
      have hv : vs = [.int n] := by
        have l := r1.length
        match vs, l with
        | [v], _ =>
          obtain ⟨v', h1, h2⟩ := r1.get (i := 0) rfl
          cases h1
          rw [intOf h2]
      subst hv
      refine ⟨n, rfl, by omega, by omega, k _ _ H1 w1 g1 go1 It.range trivial ?_⟩
      rw [rangeD_len]
      exact small1000 (by omega)
    · cases ee
  · cases ee
noncomputable def iSeq (K : PySem.W.Frag) (tl : TE) : TI := fun σ H R => tl σ H fun x H1 => ∃ a, x = .ref a ∧ (((∃ xs, SqL K H1 a xs) ∧ R (Itl K a) H1) ∨ ((∃ xs, SqT K H1 a xs) ∧ R (Itt K a) H1))
theorem pi_seq {l : Expr} {tl : TE} (hl : PE X l tl) : PI X tg l (iSeq X.K tl) := by
  intro pins s σ H R I h
  refine thn (hl pins s σ H _ I h) fun v s1 ⟨x, H1, I1, r1, q1⟩ => ?_
  obtain ⟨a, e, q⟩ := q1
  subst e
  cases r1
  rcases q with ⟨⟨xs, hq⟩, q⟩ | ⟨⟨xs, hq⟩, q⟩
  · obtain ⟨its, rv, p, hz⟩ := I1.list hq
    refine wpAny_pyIter_list p.isList ?_
    refine ⟨s1.heap.objs.size, [s1.heap.objs.size], _, _, H1, rfl, I1.kept (t' := s1.toks) fun b o e => Heap.get?_push_of_some _ e, turn_list a _, ⟨_, Heap.get?_push_size _ rfl, rfl, rfl⟩, fun b hb => ?_, q⟩
    have e : b = s1.heap.objs.size := by simpa using hb
    subst e
    exact I1.fpOk (Nat.le_refl _) (I1.hok.fresh (Nat.le_refl _))
  · obtain ⟨its, rv, p, hz⟩ := I1.tuple hq
    refine wpAny_pyIter_tuple (show s1.heap.IsTuple a its.toArray from p) ?_
    refine ⟨s1.heap.objs.size, [s1.heap.objs.size], _, _, H1, rfl, I1.kept (t' := s1.toks) fun b o e => Heap.get?_push_of_some _ e, turn_tuple a _, ⟨_, Heap.get?_push_size _ rfl, rfl, rfl⟩, fun b hb => ?_, q⟩
    have e : b = s1.heap.objs.size := by simpa using hb
    subst e
    exact I1.fpOk (Nat.le_refl _) (I1.hok.fresh (Nat.le_refl _))
@[simp] noncomputable def iVal (f : Den) : DenI := fun ρ => match f ρ with
  | some (.lst ds, _, ρ1) => if ds.length ≤ 1000 then some (ds, ρ1) else none
  | some (.tup ds, _, ρ1) => if ds.length ≤ 1000 then some (ds, ρ1) else none
  | _ => none
theorem pdi_val (ha : PD X a fa) : PDI X tg a (iVal fa) := PI.imp (pi_seq ha) fun σ H R hh0 => by
  obtain ⟨ρ, w, t, ds, ρ', gd, ee, k⟩ := hh0
  unfold iVal at ee
  split at ee
  · rename_i ds' q ρ1 h1
    split at ee
    · rename_i hl
      cases ee
      refine ⟨ρ, w, t, .lst ds, q, ρ', gd, h1, fun v H1 w1 F g1 go1 r1 => ?_⟩
      have r0 := r1.drop (o := .f) (Nat.le_refl t)
      cases r0 with
      | kl h r => exact ⟨_, rfl, .inl ⟨⟨_, h.sq⟩, k _ _ H1 (dropT t w1) g1.drop (go1.drop gd.wt) (It.list r.length) ⟨.inl h, r⟩ (small1000 hl)⟩⟩
      | shr h n r => exact ⟨_, rfl, .inl ⟨⟨_, .inl h⟩, k _ _ H1 (dropT t w1) g1.drop (go1.drop gd.wt) (It.list r.length) ⟨.inr ⟨h, n⟩, r⟩ (small1000 hl)⟩⟩
    · cases ee
  · rename_i ds' q ρ1 h1
    split at ee
    · rename_i hl
      cases ee
      refine ⟨ρ, w, t, .tup ds, q, ρ', gd, h1, fun v H1 w1 F g1 go1 r1 => ?_⟩
      have r0 := r1.drop (o := .f) (Nat.le_refl t)
      cases r0 with
      | tup h r => exact ⟨_, rfl, .inr ⟨⟨_, SqT.of h⟩, k _ _ H1 (dropT t w1) g1.drop (go1.drop gd.wt) (It.tup r.length) ⟨SqT.of h, r⟩ (small1000 hl)⟩⟩
    · cases ee
  · cases ee
end
noncomputable abbrev DenP := D → Rho → Option Rho
noncomputable def tDG (K : PySem.W.Frag) (b : Nat) (pt : DenP) : TG := fun v σ H Q => ∃ d ρ w t ρ', Good K ρ σ H w t ∧ Rep K H w .f 0 d v [] ∧ pt d ρ = some ρ' ∧ ∀ σ' H' w', σ'.length = σ.length → (∀ i, i < b → σ'[i]? = σ[i]?) → Good K ρ' σ' H' w' t → Go H w H' w' → Q σ' H'
theorem PG.imp {X : Cx} {tg : Expr} {t t' : TG} (h : PG X tg t) (i : ∀ v σ H Q, t' v σ H Q → t v σ H Q) : PG X tg t' := fun pins s σ H v u Q I r q => h pins s σ H v u Q I r (i v σ H Q q)
noncomputable abbrev PDG (X : Cx) (b : Nat) (tg : Expr) (pt : DenP) : Prop := PG X tg (tDG X.K b pt)
@[simp] noncomputable def pName (i : Nat) : DenP := fun d ρ => if i < ρ.length then some (ρ.set i (some (d, dep0 d))) else none
theorem Good.setV {K : PySem.W.Frag} {ρ : Rho} {σ : St} {H : Hp} {w : Wn} {t i : Nat} {d : D} {v : V} (g : Good K ρ σ H w t) (hi : i < σ.length) (r : Rep K H w .f 0 d v []) :
    Good K (ρ.set i (some (d, dep0 d))) (σ.set i (some v)) H (giveS i w) t ∧ Go H w H (giveS i w) := by
  have st : Stab H w H (giveS i w) := fun a x h n => ⟨sm h, giveS_none n⟩
  refine ⟨⟨⟨fun a o h => g.wl a o (giveS_some h).1, g.wl.tb⟩, fun a j h => by rw [List.length_set]; exact g.ws a j (giveS_some h).1, fun a j h => g.wt a j (giveS_some h).1, by rw [List.length_set, List.length_set]; exact g.len, fun j d' q' e' => ?_⟩, ⟨st, fun a o h n => ⟨rfl, giveS_ne h (n i)⟩⟩⟩
  by_cases hj : i = j
  · subst hj
    rw [List.getElem?_set_self (by rw [g.len]; exact hi)] at e'
    cases e'
    exact ⟨v, [], List.getElem?_set_self hi, (Rep.go g.wl st r (fun _ z => nomatch z) : Rep K H (giveS i w) (.s i) 0 d v []).dep⟩
  · rw [List.getElem?_set_ne hj] at e'
    obtain ⟨v', F, h1, h2⟩ := g.slot j d' q' e'
    exact ⟨v', F, by rw [List.getElem?_set_ne hj]; exact h1, Rep.go g.wl st h2 fun a m => ⟨rfl, giveS_ne (h2.owns a m) (fun z => hj (by cases z; rfl))⟩⟩
theorem pdg_name {X : Cx} {b i : Nat} {x : Str} {pos : Pos} (hb : b ≤ i) (hN : X.N.Nodup) (hi : X.N[i]? = some x) (hx : Loc X.env.scope x) (hf : X.fn x = true ∨ X.env.scope.names.lookup x = some .local := by first | exact .inl rfl | exact .inr rfl) : PDG X b (.Name x pos) (pName i) := PG.imp (pg_name hN hi hx hf) fun v σ H Q hh0 => by
  obtain ⟨d, ρ, w, t, ρ', g, r, e, k⟩ := hh0
  unfold pName at e
  split at e
  · rename_i hl
    cases e
    obtain ⟨a1, a2⟩ := g.setV (by rw [← g.len]; exact hl) r
    exact k _ _ _ (by rw [List.length_set]) (fun j hj => List.getElem?_set_ne (by omega)) a1 a2
  · cases e
noncomputable def forD (pt : DenP) (body : DenS) : List D → Rho → Option Out
  | [], ρ => some (.nx ρ)
  | d :: ds, ρ => match pt d ρ with
    | none => none
    | some ρ1 => match body ρ1 with
      | some (.nx ρ2) => forD pt body ds ρ2
      | some (.ct ρ2) => forD pt body ds ρ2
      | some (.bk ρ2) => some (.nx ρ2)
      | o => o
@[simp] noncomputable def sFor (it : DenI) (pt : DenP) (body : DenS) : DenS := fun ρ => match it ρ with
  | some (ds, ρ1) => forD pt body ds ρ1
  | none => none
theorem Rep.go0 {K : PySem.W.Frag} {H H' : Hp} {w w' : Wn} {ds : D} {vs : V} (r : Rep K H w .f 0 ds vs []) (wl : WL K w H) (st : Stab H w H' w') : Rep K H' w' .f 0 ds vs [] := Rep.go wl st r (fun _ z => nomatch z)
theorem Good.more {K : PySem.W.Frag} {ρ : Rho} {σ : St} {H H' : Hp} {w : Wn} {t : Nat} (g : Good K ρ σ H w t) (hm : Mo K H H') : Good K ρ σ H' w t ∧ Go H w H' w := by
  have h := hm.mo
  have st : Stab H w H' w := fun a x e n => ⟨sm (h a x e), n⟩
  have kp : ∀ a o, w a = some o → H' a = H a := fun a o e => by
    obtain ⟨vs, q⟩ := g.wl a o e
    rw [q, h a _ q]
  refine ⟨⟨⟨fun a o e => ?_, hm.tb g.wl.tb⟩, g.ws, g.wt, g.len, fun i d q e => ?_⟩, st, fun a o e _ => ⟨kp a o e, e⟩⟩
  · obtain ⟨vs, q⟩ := g.wl a o e
    exact ⟨vs, h a _ q⟩
  · obtain ⟨v, F, h1, h2⟩ := g.slot i d q e
    exact ⟨v, F, h1, Rep.go g.wl st h2 fun a m => ⟨kp a _ (h2.owns a m), h2.owns a m⟩⟩
theorem pds_for {X : Cx} {tg iter : Expr} {body : List Stmt} {it : DenI} {pt : DenP} {s : DenS} {pos : Pos} (hp : PassesOwn (model X.prog X.w) X.A X.env X.xe) (hc : X.calm = true) (hi : PDI X tg iter it) (hg : PDG X 0 tg pt) (hb : PDSs X body s)
    (hs : ∀ x, foldedSetIterable iter X.env x = pure x := by intro _; rfl) : PDS X (.For tg iter body [] pos) (sFor it pt s) := PS.imp (ps_for hp hc hi hg hb hs) fun D σ H hh0 => by
  obtain ⟨ρ, w, o, g, ee, k⟩ := hh0
  unfold sFor at ee
  split at ee
  · rename_i ds ρ1 h1
    refine ⟨ρ, w, 0, ds, ρ1, g, h1, fun J P H1 w1 g1 go1 ok p1 hl => ?_⟩
    refine ⟨fun i m σ' H' => m = ds.length - i ∧ i ≤ ds.length ∧ σ'.length = σ.length ∧ ∃ ρ' w', Good X.K ρ' σ' H' w' 0 ∧ P H' w' ∧ forD pt s (ds.drop i) ρ' = some o ∧ EndsD X.K D σ.length H' w' o,
      ⟨ds.length, by simp, Nat.zero_le _, rfl, ρ1, w1, g1, p1, ee, k.trans go1⟩, ?_⟩
    rintro i m σ' H' ⟨rfl, hile, hσ, ρ', w', g', p', e', k'⟩
    by_cases hlt : i < ds.length
    · refine .inr ⟨ok.go i H' w' p' hlt, fun σ2 H2 => ds.length - (i + 1) = ds.length - (i + 1) ∧ i + 1 ≤ ds.length ∧ σ2.length = σ.length ∧ ∃ ρ2 w2, Good X.K ρ2 σ2 H2 w2 0 ∧ P H2 w2 ∧ forD pt s (ds.drop (i + 1)) ρ2 = some o ∧ EndsD X.K D σ.length H2 w2 o,
        fun σ2 H2 n2 => ⟨ds.length - (i + 1), by omega, n2⟩, fun x H2 hy => ?_⟩
      obtain ⟨mo, rx, p2⟩ := ok.yld i H' w' x H2 ds[i] p' g'.wl (List.getElem?_eq_getElem hlt) hy
      obtain ⟨g2, go2⟩ := g'.more mo
      have ed : ds.drop i = ds[i] :: ds.drop (i + 1) := List.drop_eq_getElem_cons hlt
      rw [ed] at e'
      unfold forD at e'
      split at e'
      · cases e'
      · rename_i ρ3 h3
        refine ⟨ds[i], ρ', w', 0, ρ3, g2, rx, h3, fun σ4 H4 w4 l4 _ g4 go4 => ?_⟩
        have p4 := ok.st _ _ _ _ p2 g2.wl go4.stab
        have nx : ∀ {ρ5 : Rho}, forD pt s (ds.drop (i + 1)) ρ5 = some o → ∀ σ5 H5 w5, σ5.length = σ4.length → Good X.K ρ5 σ5 H5 w5 0 → Go H4 w4 H5 w5 → ds.length - (i + 1) = ds.length - (i + 1) ∧ i + 1 ≤ ds.length ∧ σ5.length = σ.length ∧ ∃ ρ2 w2, Good X.K ρ2 σ5 H5 w2 0 ∧ P H5 w2 ∧ forD pt s (ds.drop (i + 1)) ρ2 = some o ∧ EndsD X.K D σ.length H5 w2 o := fun {ρ5} e5 σ5 H5 w5 l5 g5 go5 =>
          ⟨rfl, hlt, by rw [l5, l4, hσ], ρ5, w5, g5, ok.st _ _ _ _ p4 g4.wl go5.stab, e5, k'.trans ((go2.trans go4).trans go5)⟩
        cases h6 : s ρ3 with
        | none => rw [h6] at e'; cases e'
        | some o6 =>
          rw [h6] at e'
          refine ⟨ρ3, w4, o6, g4, h6, ?_⟩
          cases o6 with
          | nx ρ5 => exact nx e'
          | ct ρ5 => exact nx e'
          | bk ρ5 =>
            cases e'
            exact fun σ5 H5 w5 l5 g5 go5 => k' σ5 H5 w5 (by rw [l5, l4, hσ]) g5 ((go2.trans go4).trans go5)
          | rt d q =>
            cases e'
            exact fun v H5 w5 F wl5 go5 r5 => k' v H5 w5 F wl5 ((go2.trans go4).trans go5) r5
    · have hi' : i = ds.length := Nat.le_antisymm hile (Nat.not_lt.mp hlt)
      subst hi'
      refine .inl ⟨ok.stop H' w' p', ?_⟩
      have ed : ds.drop ds.length = [] := by simp
      rw [ed] at e'
      cases e'
      exact k' σ' H' w' hσ g' Go.refl
  · cases ee
@[simp] noncomputable def startD (n : Nat) (ds : List D) : Rho := ds.map (fun d => some (d, dep0 d)) ++ List.replicate (n - ds.length) none
@[simp] noncomputable def fnD (n : Nat) (body : DenS) : List D → Option (D × Nat) := fun ds => match body (startD n ds) with
  | some (.rt d q) => some (d, q)
  | some (.nx _) => some (.non, 9)
  | _ => none
theorem good_start {K : PySem.W.Frag} {H : Hp} {w : Wn} {N : List Str} {ds : List D} {vs : List V} (hw : ∀ a o, w a = some o → o = .f) (wl : WL K w H) (r : Reps K H w .f 0 ds vs []) : Good K (startD N.length ds) (start N vs) H w 0 := by
  refine ⟨wl, (fun a i e => by cases (hw a _ e)), (fun a i e => by cases (hw a _ e)), ?_, fun i d q e => ?_⟩
  · unfold startD L2.start
    rw [List.length_append, List.length_append, List.length_map, List.length_map, List.length_replicate, List.length_replicate, r.length]
  · unfold startD at e
    by_cases hi : i < ds.length
    · rw [List.getElem?_append_left (by simpa using hi), List.getElem?_map] at e
      cases h : ds[i]? with
      | none => rw [h] at e; cases e
      | some d' =>
        rw [h] at e
        cases e
        obtain ⟨v, hv, rv⟩ := r.get h
        refine ⟨v, [], ?_, (rv.any wl : Rep K H w (.s i) 0 d v []).dep⟩
        unfold L2.start
        rw [List.getElem?_append_left (by rw [List.length_map, ← r.length]; exact hi), List.getElem?_map, hv]
        rfl
    · rw [List.getElem?_append_right (by simpa using hi), List.getElem?_replicate] at e
      split at e <;> cases e
theorem fn_enter {K : PySem.W.Frag} {N : List Str} {n : Nat} {body : DenS} {vs : List V} {H : Hp} {Q : VK} {E : XK} (h : spD K n (fnD N.length body) vs H Q E) : tDS K body { nx := fun _ H' => Q .non H', rt := Q } (start N vs) H := by
  obtain ⟨hn, ds, w, r, q, hw, wl, rs, e, k⟩ := h
  unfold fnD at e
  split at e
  · rename_i d q' h1
    cases e
    exact ⟨_, w, _, good_start hw wl rs, h1, fun v H' w' F wl' go' r' => k v H' w' F go' wl' r'⟩
  · rename_i ρ' h1
    cases e
    exact ⟨_, w, _, good_start hw wl rs, h1, fun σ' H' w' _ g' go' => k .non H' w' [] go' g'.wl .non⟩
  · cases e
theorem fn_ok {P : Program} {wd : World} {K : PySem.W.Frag} {mg : Str → Option Value} {base : Heap} {x qual : Str} {st : Stmt} {f : Addr} {fd : FuncData} {N ps : List Str} {k : Nat} {body : DenS} (F : Fun K x qual st f fd) (S : FnScope N ps (defScope st))
    (h : ∀ (cdv : Value) (A : Around) (outer : List Env) (s : Shared) (H : Hp) (E : XK), Room k (A.deeper (envOfC qual (defScope st) s.heap.objs.size f cdv)) → PDSs (cxOf CX0 P wd K mg base N qual (defScope st) f cdv A outer s H E).nox (defBody st) body) :
    FnOk P wd K mg base CX0 (k + 1) f fd ps (spD K ps.length (fnD N.length body)) :=
  F.ok S (fun vs H Q E h => h.1) fun cdv A outer s H vs Q E hr hsp => ⟨_, h cdv A outer s H E hr, fn_enter hsp⟩
end L3
set_option Elab.async false
set_option linter.all false
set_option maxRecDepth 100000
namespace L3
open PySem PySem.Spec PyProof.Rows L2
noncomputable def compD (k : Nat) (pt : DenP) (tt : DenT) (te : Den) (deep : Bool) : List D → Rho → Option (List D × Rho)
  | [], ρ => some ([], ρ)
  | d :: ds, ρ => match pt d (ρ ++ List.replicate k none) with
    | none => none
    | some ρ1 => match tt ρ1 with
      | none => none
      | some (b, ρ2) => if b = true then (match te ρ2 with
          | none => none
          | some (v, q, ρ3) => if deep = true ∧ v.isL = true ∧ q ≠ 1 then none else match compD k pt tt te deep ds (ρ3.take ρ.length) with
            | none => none
            | some (vs, ρ4) => some (v :: vs, ρ4))
        else compD k pt tt te deep ds (ρ2.take ρ.length)
@[simp] noncomputable def eComp (k : Nat) (it : DenI) (pt : DenP) (tt : DenT) (te : Den) (deep : Bool) : Den := fun ρ => match it ρ with
  | some (ds, ρ1) => match compD k pt tt te deep ds ρ1 with
    | some (vs, ρ2) => some (.lst vs, if deep = true then 2 else 1, ρ2)
    | none => none
  | none => none
@[simp] noncomputable def tYesD : DenT := fun ρ => some (true, ρ)
theorem Good.ext {K : PySem.W.Frag} {ρ : Rho} {σ : St} {H : Hp} {w : Wn} {t : Nat} (g : Good K ρ σ H w t) (k : Nat) : Good K (ρ ++ List.replicate k none) (σ ++ List.replicate k none) H w t := by
  refine ⟨g.wl, fun a i e => by rw [List.length_append]; exact Nat.lt_of_lt_of_le (g.ws a i e) (Nat.le_add_right _ _), g.wt, by rw [List.length_append, List.length_append, List.length_replicate, List.length_replicate, g.len], fun i d q e => ?_⟩
  by_cases hi : i < ρ.length
  · rw [List.getElem?_append_left hi] at e
    obtain ⟨v, F, h1, h2⟩ := g.slot i d q e
    exact ⟨v, F, by rw [List.getElem?_append_left (by rw [← g.len]; exact hi)]; exact h1, h2⟩
  · rw [List.getElem?_append_right (by omega), List.getElem?_replicate] at e
    split at e <;> cases e
noncomputable def giveFrom (n : Nat) (w : Wn) : Wn := fun a => match w a with
  | some (.s i) => if n ≤ i then none else some (.s i)
  | x => x
theorem giveFrom_none {n : Nat} {w : Wn} {a : Addr} (h : w a = none) : giveFrom n w a = none := by unfold giveFrom; rw [h]
theorem giveFrom_lt {n : Nat} {w : Wn} {a : Addr} {i : Nat} (h : w a = some (.s i)) (hi : i < n) : giveFrom n w a = some (.s i) := by unfold giveFrom; rw [h]; exact if_neg (by omega)
theorem giveFrom_ns {n : Nat} {w : Wn} {a : Addr} {o : Ow} (h : w a = some o) (hn : ∀ i, o ≠ .s i) : giveFrom n w a = some o := by
  unfold giveFrom; rw [h]
  cases o with
  | s i => exact absurd rfl (hn i)
  | t i => rfl
  | f => rfl
theorem giveFrom_some {n : Nat} {w : Wn} {a : Addr} {o : Ow} (h : giveFrom n w a = some o) : w a = some o ∧ ∀ i, o = .s i → i < n := by
  unfold giveFrom at h
  cases e : w a with
  | none => rw [e] at h; cases h
  | some o' =>
    rw [e] at h
    cases o' with
    | t i => cases h; exact ⟨rfl, fun i z => nomatch z⟩
    | f => cases h; exact ⟨rfl, fun i z => nomatch z⟩
    | s i =>
      dsimp only at h
      split at h
      · cases h
      · cases h; exact ⟨rfl, fun j z => by cases z; omega⟩
theorem Good.cut {K : PySem.W.Frag} {ρ : Rho} {σ τ : St} {H : Hp} {w : Wn} {t : Nat} (g : Good K ρ (σ ++ τ) H w t) : Good K (ρ.take σ.length) σ H (giveFrom σ.length w) t ∧ Go H w H (giveFrom σ.length w) := by
  have st : Stab H w H (giveFrom σ.length w) := fun a x h n => ⟨sm h, giveFrom_none n⟩
  refine ⟨⟨⟨fun a o e => g.wl a o (giveFrom_some e).1, g.wl.tb⟩, fun a i e => (giveFrom_some e).2 i rfl, fun a i e => g.wt a i (giveFrom_some e).1, ?_, fun i d q e => ?_⟩, ⟨st, fun a o e n => ⟨rfl, giveFrom_ns e n⟩⟩⟩
  · rw [List.length_take, g.len, List.length_append]
    omega
  · by_cases hi : i < σ.length
    · rw [List.getElem?_take_of_lt hi] at e
      obtain ⟨v, F, h1, h2⟩ := g.slot i d q e
      rw [List.getElem?_append_left hi] at h1
      exact ⟨v, F, h1, Rep.go g.wl st h2 fun a m => ⟨rfl, giveFrom_lt (h2.owns a m) hi⟩⟩
    · rw [List.getElem?_take_eq_none (by omega)] at e
      cases e
theorem shape {σ σ' τ : St} (l : σ'.length = (σ ++ τ).length) (h : ∀ i, i < σ.length → σ'[i]? = (σ ++ τ)[i]?) : ∃ τ', σ' = σ ++ τ' ∧ τ'.length = τ.length := by
  refine ⟨σ'.drop σ.length, ?_, by rw [List.length_drop, l, List.length_append]; omega⟩
  have e : σ'.take σ.length = σ := by
    apply List.ext_getElem?
    intro i
    by_cases hi : i < σ.length
    · rw [List.getElem?_take_of_lt hi, h i hi, List.getElem?_append_left hi]
    · rw [List.getElem?_take_eq_none (by omega), List.getElem?_eq_none (by omega)]
  conv => lhs; rw [← List.take_append_drop σ.length σ', e]
noncomputable def dq (deep : Bool) : Nat := if deep = true then 1 else 0
noncomputable def sinkW (deep : Bool) (t : Nat) (w : Wn) : Wn := fun a => if w a = some (.t (t + 1)) then (if deep = true then some (.t t) else none) else w a
theorem sink {K : PySem.W.Frag} {ρ : Rho} {σ : St} {H : Hp} {w : Wn} {t q : Nat} {d : D} {v : V} {F : List Addr} {deep : Bool} (g : Good K ρ σ H w (t + 2)) (r : Rep K H w (.t (t + 1)) q d v F) (hq : ¬ (deep = true ∧ d.isL = true ∧ q ≠ 1)) :
    Good K ρ σ H (sinkW deep t w) (t + 1) ∧ (∃ F', Rep K H (sinkW deep t w) (.t t) (dq deep) d v F' ∧ ∀ a ∈ F', w a = some (.t (t + 1))) ∧ Stab H w H (sinkW deep t w) ∧ (∀ a o, w a = some o → o ≠ .t (t + 1) → sinkW deep t w a = some o) := by
  have hN : ∀ a, w a = none → sinkW deep t w a = none := fun a e => by unfold sinkW; rw [e]; rfl
  have hO : ∀ a o, w a = some o → o ≠ .t (t + 1) → sinkW deep t w a = some o := fun a o e n => by
    unfold sinkW
    rw [if_neg (by rw [e]; exact fun z => n (Option.some.inj z))]
    exact e
  have hI : ∀ a o, sinkW deep t w a = some o → (w a = some (.t (t + 1)) ∧ o = .t t) ∨ (w a = some o ∧ o ≠ .t (t + 1)) := fun a o e => by
    unfold sinkW at e
    split at e
    · split at e
      · cases e; exact .inl ⟨by assumption, rfl⟩
      · cases e
    · rename_i n; exact .inr ⟨e, fun z => n (by rw [e, z])⟩
  have st : Stab H w H (sinkW deep t w) := fun a x h n => ⟨sm h, hN a n⟩
  refine ⟨⟨⟨fun a o e => ?_, g.wl.tb⟩, fun a i e => ?_, fun a i e => ?_, g.len, fun i d' q' e' => ?_⟩, ?_, st, hO⟩
  · rcases hI a o e with ⟨z, _⟩ | ⟨z, _⟩ <;> exact g.wl a _ z
  · rcases hI a _ e with ⟨_, z⟩ | ⟨z, _⟩
    · cases z
    · exact g.ws a i z
  · rcases hI a _ e with ⟨_, z⟩ | ⟨z, n⟩
    · cases z; exact Nat.lt_succ_self _
    · have := g.wt a i z
      have : i ≠ t + 1 := fun z => n (by rw [z])
      omega
  · obtain ⟨v', F', h1, h2⟩ := g.slot i d' q' e'
    exact ⟨v', F', h1, Rep.go g.wl st h2 fun a m => ⟨rfl, hO a _ (h2.owns a m) (fun z => nomatch z)⟩⟩
  · cases deep with
    | false =>
      refine ⟨[], Rep.freeze hN r fun a m => ?_, fun _ z => nomatch z⟩
      unfold sinkW
      rw [if_pos (r.owns a m)]
      rfl
    | true =>
      have hT : ∀ a, w a = some (.t (t + 1)) → sinkW true t w a = some (.t t) := fun a e => by unfold sinkW; rw [if_pos e]; rfl
      cases hl : d.isL with
      | false =>
        obtain ⟨_, hr⟩ := r.nolist hl
        exact ⟨[], Rep.go g.wl st (hr 1) (fun _ z => nomatch z), fun _ z => nomatch z⟩
      | true =>
        have : q = 1 := by
          by_cases h : q = 1
          · exact h
          · exact absurd ⟨rfl, hl, h⟩ hq
        subst this
        exact ⟨F, Rep.go g.wl st r fun a m => ⟨rfl, hT a (r.owns a m)⟩, r.owns⟩
theorem allocQ {K : PySem.W.Frag} {ρ : Rho} {σ : St} {H1 : Hp} {w1 : Wn} {t q : Nat} {p : Addr} {vs : List V} {ds : List D} {F : List Addr} (g : Good K ρ σ H1 w1 (t + 1)) (hp : H1 p = none) (r : Reps K H1 w1 (.t t) q ds vs F) :
    Good K ρ σ (upd H1 p (.lst vs)) (setW p (.t t) w1) (t + 1) ∧ Go H1 w1 (upd H1 p (.lst vs)) (setW p (.t t) w1) ∧ Rep K (upd H1 p (.lst vs)) (setW p (.t t) w1) (.t t) (q + 1) (.lst ds) (.ref p) (p :: F) := by
  have ne : ∀ a x, H1 a = some x → a ≠ p := fun a x e => ne_of_none e hp
  have nw : ∀ a o, w1 a = some o → a ≠ p := fun a o e => by obtain ⟨vs, q⟩ := g.wl a o e; exact ne a _ q
  have st : Stab H1 w1 (upd H1 p (.lst vs)) (setW p (.t t) w1) := fun a x e n => ⟨sm (by rw [upd_ne (ne a x e)]; exact e), by rw [setW_ne (ne a x e)]; exact n⟩
  refine ⟨⟨⟨fun a o e => ?_, g.wl.tb.upd rfl (.inl hp)⟩, fun a i e => ?_, fun a i e => ?_, g.len, fun i d q e => ?_⟩, ⟨st, fun a o e _ => ⟨upd_ne (nw a o e), (setW_ne (nw a o e)).trans e⟩⟩, ?_⟩
  · by_cases h : a = p
    · subst h; exact ⟨vs, upd_same⟩
    · rw [setW_ne h] at e
      obtain ⟨us, q⟩ := g.wl a o e
      exact ⟨us, by rw [upd_ne h]; exact q⟩
  · by_cases h : a = p
    · subst h; rw [setW_same] at e; cases e
    · rw [setW_ne h] at e; exact g.ws a i e
  · by_cases h : a = p
    · subst h; rw [setW_same] at e; cases e; exact Nat.lt_succ_self _
    · rw [setW_ne h] at e; exact g.wt a i e
  · obtain ⟨v, F, h1, h2⟩ := g.slot i d q e
    exact ⟨v, F, h1, Rep.go g.wl st h2 fun a m => ⟨upd_ne (nw a _ (h2.owns a m)), (setW_ne (nw a _ (h2.owns a m))).trans (h2.owns a m)⟩⟩
  · exact .own upd_same setW_same (Reps.go g.wl st r fun a m => ⟨upd_ne (nw a _ (r.owns a m)), (setW_ne (nw a _ (r.owns a m))).trans (r.owns a m)⟩) fun m => absurd rfl (nw p _ (r.owns p m))
theorem comp_reads {K : PySem.W.Frag} {k : Nat} {it : DenI} {pt : DenP} {tt : DenT} {te : Den} {deep : Bool} : ∀ σ H Q, tD K (eComp k it pt tt te deep) σ H Q → tComp k (tDI K it) (tDG K σ.length pt) (tDT K tt) (tD K te) σ H Q := fun σ H Q hh0 => by
  obtain ⟨ρ, w, t, r', q, ρ', g, ee, kk⟩ := hh0
  unfold eComp at ee
  split at ee
  · rename_i ds ρ1 h1
    split at ee
    · rename_i all ρ2 h2
      cases ee
      refine ⟨ρ, w, t, ds, ρ1, g, h1, fun J P H1 w1 g1 go1 ok p1 hl => ?_⟩
      refine ⟨fun i m ys H' => m = ds.length - i ∧ i ≤ ds.length ∧ ys.length ≤ i ∧ ∃ ρ3 w3 zs F rest, Good K ρ3 σ H' w3 (t + 1) ∧ Go H w H' w3 ∧ P H' w3 ∧ Reps K H' w3 (.t t) (dq deep) zs ys F ∧
          compD k pt tt te deep (ds.drop i) ρ3 = some (rest, ρ') ∧ zs ++ rest = all,
        ⟨ds.length, by simp, Nat.zero_le _, Nat.le_refl _, ρ1, w1, [], [], all, g1.up, go1, p1, .nil, h2, rfl⟩, ?_⟩
      rintro i m ys H' ⟨rfl, hile, hys, ρ3, w3, zs, F, rest, g0, go0, p0, rz0, e3, ez⟩
      have hsz : ys.length < sizeLine := by omega
      refine ⟨Nat.le_of_lt hsz, ?_⟩
      by_cases hlt : i < ds.length
      · refine .inr ⟨ok.go i H' w3 p0 hlt, hsz, fun x H2 hy => ?_⟩
        obtain ⟨mo, rx, p3⟩ := ok.yld i H' w3 x H2 ds[i] p0 g0.wl (List.getElem?_eq_getElem hlt) hy
        obtain ⟨g3, go2⟩ := g0.more mo
        have go3 := go0.trans go2
        have rz := rz0.gone g0.wl go2
        have ed : ds.drop i = ds[i] :: ds.drop (i + 1) := List.drop_eq_getElem_cons hlt
        rw [ed] at e3
        unfold compD at e3
        split at e3
        · cases e3
        · rename_i ρ4 h4
          split at e3
          · cases e3
          · rename_i b ρ5 h5
            have gx := g3.ext k
            have lρ : ρ3.length = σ.length := g3.len
            refine ⟨ds[i], _, w3, t + 1, ρ4, gx, rx, h4, fun σ4 H4 w4 l4 s4 g4 go4 => ?_⟩
            obtain ⟨τ, rfl, lτ⟩ := shape l4 s4
            refine ⟨⟨τ, rfl, by rw [lτ, List.length_replicate]⟩, ρ4, w4, t + 1, b, ρ5, g4, h5, fun H5 w5 g5 go5 => ?_⟩
            have p5 := ok.st _ _ _ _ (ok.st _ _ _ _ p3 g3.wl go4.stab) g4.wl go5.stab
            have z5 : Reps K H5 w5 (.t t) (dq deep) zs ys F := (rz.gone g3.wl go4).gone g4.wl go5
            cases b with
            | false =>
              rw [if_neg (by decide)] at e3
              dsimp only
              rw [if_neg (by decide)]
              obtain ⟨gc, goc⟩ := g5.cut
              rw [lρ] at e3
              refine ⟨ds.length - (i + 1), by omega, rfl, hlt, by omega, _, _, zs, F, rest, gc, (go3.trans go4).trans (go5.trans goc), ok.st _ _ _ _ p5 g5.wl goc.stab, z5.gone g5.wl goc, e3, ez⟩
            | true =>
              rw [if_pos rfl] at e3
              dsimp only
              rw [if_pos rfl]
              split at e3
              · cases e3
              · rename_i d6 q6 ρ6 h6
                split at e3
                · cases e3
                · rename_i hq6
                  split at e3
                  · cases e3
                  · rename_i vs7 ρ7 h7
                    cases e3
                    refine ⟨ρ5, w5, t + 1, d6, q6, ρ6, g5, h6, fun v H6 w6 F6 g6 go6 r6 => ?_⟩
                    obtain ⟨gs, ⟨F', rs, hF'⟩, sts, hOs⟩ := sink g6 r6 hq6
                    obtain ⟨gc, goc⟩ := gs.cut
                    rw [lρ] at h7
                    have zs6 := z5.gone g5.wl go6
                    have zF : ∀ a ∈ F, w6 a = some (.t t) := zs6.owns
                    have zs7 : Reps K H6 (sinkW deep t w6) (.t t) (dq deep) zs ys F := Reps.go g6.wl sts zs6 fun a m => ⟨rfl, hOs a _ (zF a m) (by intro z; cases z)⟩
                    have gos : Go H w H6 (sinkW deep t w6) := by
                      have go : Go H w H6 w6 := (go3.trans go4).trans (go5.trans go6)
                      refine ⟨go.stab.trans sts, fun a o h n => ⟨(go.keep a o h n).1, hOs a o (go.keep a o h n).2 fun z => ?_⟩⟩
                      subst z
                      have := g.wt a _ h
                      omega
                    refine ⟨ds.length - (i + 1), by omega, rfl, hlt, by rw [List.length_append]; simp; omega, _, _, zs ++ [d6], F ++ F', vs7, gc, gos.trans goc, ok.st _ _ _ _ (ok.st _ _ _ _ p5 g5.wl go6.stab |> fun q => ok.st _ _ _ _ q g6.wl sts) gs.wl goc.stab,
                      ?_, h7, by rw [List.append_assoc]; exact ez⟩
                    refine (Reps.snoc rs zs7 fun a m m' => ?_).gone gs.wl goc
                    have h1 := zF a m
                    rw [hF' a m'] at h1
                    cases h1
      · have hi' : i = ds.length := Nat.le_antisymm hile (Nat.not_lt.mp hlt)
        subst hi'
        refine .inl ⟨ok.stop H' w3 p0, fun p hp => ?_⟩
        have ed : ds.drop ds.length = [] := by simp
        rw [ed] at e3
        cases e3
        rw [List.append_nil] at ez
        subst ez
        obtain ⟨a1, a2, a3⟩ := allocQ g0 hp rz0
        refine kk _ _ _ (p :: F) a1 (go0.trans a2) ?_
        cases deep <;> exact a3
    · cases ee
  · cases ee
section
variable {X : Cx} {k : Nat} {N' : List Str} {scope : Scope} {elt tg iter : Expr} {ifs : List Expr} {pos : Pos} {it : DenI} {pt : DenP} {tt : DenT} {te : Den}
noncomputable abbrev PDTs (X : Cx) (ifs : List Expr) (f : DenT) : Prop := PTs X ifs (tDT X.K f)
theorem pdts_nil : PDTs X [] tYesD := fun pins s σ H Q I hh0 => by
  obtain ⟨ρ, w, t, b, ρ', gd, ee, k⟩ := hh0
  cases ee
  exact pts_nil pins s σ H Q I (k H w gd Go.refl)
theorem pdts_one {c : Expr} {g : DenT} (h : PDT X c g) : PDTs X [c] g := pts_one h
theorem pd_comp (deep : Bool) (hc : X.calm = true) (S : CompOk X k N' scope) (hi : PDI X tg iter it) (hg : ∀ C s H fp, PDG (compCx X N' scope C s H fp) X.N.length tg pt) (ht : ∀ C s H fp, PDTs (compCx X N' scope C s H fp) ifs tt) (he : ∀ C s H fp, PD (compCx X N' scope C s H fp) elt te)
    (hs : ∀ x, foldedSetIterable iter X.env x = pure x := by intro _; rfl) : PD X (.ListComp elt [⟨tg, iter, ifs, 0⟩] scope pos) (eComp k it pt tt te deep) := by
  intro pins s σ H Q I h
  have := comp_reads σ H Q h
  rw [I.len] at this
  exact pe_comp (N' := N') hc S hi hg ht he hs pins s σ H Q I this
theorem pds_setC {i : Nat} {y : Str} {py spos : Pos} (deep : Bool) (hN : X.N.Nodup) (hy : X.N[i]? = some y) (hx : Loc X.env.scope y) (hsw : swapsWith (.ListComp elt [⟨tg, iter, ifs, 0⟩] scope pos) (some (.Name y py)) spos.line X.env = pure true)
    (hc : X.calm = true) (S : CompOk X k N' scope) (hi : PDI X tg iter it) (hg : ∀ C s H fp, PDG (compCx X N' scope C s H fp) X.N.length tg pt) (ht : ∀ C s H fp, PDTs (compCx X N' scope C s H fp) ifs tt) (he : ∀ C s H fp, PD (compCx X N' scope C s H fp) elt te)
    (hs : ∀ x, foldedSetIterable iter X.env x = pure x := by intro _; rfl) (hf : X.fn y = true ∨ X.env.scope.names.lookup y = some .local := by first | exact .inl rfl | exact .inr rfl | assumption) :
    PDS X (.Assign [.Name y py] (.ListComp elt [⟨tg, iter, ifs, 0⟩] scope pos) spos) (sSet i (eComp k it pt tt te deep)) := by
  intro pins s σ H D I h
  have hl : i < σ.length := by rw [I.len]; exact (List.getElem?_eq_some_iff.mp hy).1
  refine ps_setC (N' := N') (te := tD X.K te) (tt := tDT X.K tt) (g := tDG X.K X.N.length pt) (wi := tDI X.K it) hN hy hx hsw hc S hi hg ht he hs hf pins s σ H D I ?_
  have z := sSet_ok (te := tComp k (tDI X.K it) (tDG X.K σ.length pt) (tDT X.K tt) (tD X.K te)) hl (fun Q q => comp_reads σ H Q q) h
  rw [I.len] at z
  exact z
end
end L3
set_option Elab.async false
set_option linter.all false
set_option maxRecDepth 100000
namespace L3
open PySem PySem.Spec PyProof.Rows L2
mutual
noncomputable def toP : D → PyData
  | .non => .none
  | .bl b => .bool b
  | .int i => .int i
  | .str x => .str x
  | .tup ds => .tuple (toPs ds)
  | .lst ds => .list (toPs ds)
  | .dic _ _ => .none
  | .exc _ => .none
  | .ob _ _ _ _ => .none
noncomputable def toPs : List D → List PyData
  | [] => []
  | d :: ds => toP d :: toPs ds
end
mutual
noncomputable def noDic : D → Bool
  | .dic _ _ => false
  | .exc _ => false
  | .ob _ _ _ _ => false
  | .tup ds => noDics ds
  | .lst ds => noDics ds
  | _ => true
noncomputable def noDics : List D → Bool
  | [] => true
  | d :: ds => noDic d && noDics ds
end
noncomputable def okD (d : D) : Bool := noDic d && SeqAt.shaped (toP d)
theorem okD_1 {d : D} (h : okD d = true) : noDic d = true := (Bool.and_eq_true_iff.mp h).1
theorem okD_2 {d : D} (h : okD d = true) : SeqAt.shaped (toP d) = true := (Bool.and_eq_true_iff.mp h).2
noncomputable def eqD (d e : D) : Bool := PyData.eqv (toP d) (toP e)
section
variable {X : Cx} {pins : List (Addr × Obj)} {σ : St} {H : Hp} {s : Shared}
theorem Rep.reads (I : Inv X pins σ H s) {w : Wn} {o : Ow} : ∀ {q : Nat} {d : D} {v : V} {F : List Addr} {u : Value}, Rep X.K H w o q d v F → RelV v u → noDic d = true → ∃ as, Reads s.heap u (toP d) as := by
  intro q d v F u r
  refine (Rep.rec (motive_1 := fun q d v F _ => ∀ u, RelV v u → noDic d = true → ∃ as, Reads s.heap u (toP d) as) (motive_2 := fun q ds vs F _ => ∀ us, Vals vs us → noDics ds = true → ∃ as, ReadsAll s.heap us (toPs ds) as) ?_ ?_ ?_ ?_ ?_ ?_ ?_ ?_ ?_ ?_ ?_ ?_ ?_ r : ∀ u, RelV v u → noDic d = true → ∃ as, Reads s.heap u (toP d) as) u
  · intro q u ru hn; cases ru; exact ⟨_, by unfold toP; exact .none⟩
  · intro q b u ru hn; cases ru; exact ⟨_, by unfold toP; exact .bool b⟩
  · intro q i u ru hn; obtain ⟨t, rfl⟩ := ru; exact ⟨_, by unfold toP; exact .int i t⟩
  · intro q x u ru hn; obtain ⟨t, rfl⟩ := ru; exact ⟨_, by unfold toP; exact .str x t⟩
  · intro q a vs ds h r ih u ru hn
    cases ru
    obtain ⟨its, rv, p, hz⟩ := I.tuple (SqT.of h)
    obtain ⟨as, ra⟩ := ih its rv (by unfold noDic at hn; exact hn)
    obtain ⟨ob, ho, hc, n, hd⟩ := p
    exact ⟨_, by unfold toP; exact .tuple ho hc hd ra⟩
  · intro q a ks vs ds h r ih u ru hn; cases hn
  · intro q a nm ob v h x n u ru hn; cases hn
  · intro q f c fo oc u1 u2 vs ds h1 h2 x r ih u ru hn; cases hn
  · intro a vs ds h r ih u ru hn
    cases ru
    obtain ⟨its, rv, p, hz⟩ := I.list h.sq
    obtain ⟨as, ra⟩ := ih its rv (by unfold noDic at hn; exact hn)
    obtain ⟨ob, ho, hc, n, hd⟩ := p.isList
    exact ⟨_, by unfold toP; exact .list ho hc hd ra⟩
  · intro a vs ds h n0 r ih u ru hn
    cases ru
    obtain ⟨its, rv, p, hz⟩ := I.list (.inl h)
    obtain ⟨as, ra⟩ := ih its rv (by unfold noDic at hn; exact hn)
    obtain ⟨ob, ho, hc, n, hd⟩ := p.isList
    exact ⟨_, by unfold toP; exact .list ho hc hd ra⟩
  · intro q a vs ds F h e r ne ih u ru hn
    cases ru
    obtain ⟨its, rv, p, hz⟩ := I.list (SqL.of h)
    obtain ⟨as, ra⟩ := ih its rv (by unfold noDic at hn; exact hn)
    obtain ⟨ob, ho, hc, n, hd⟩ := p.isList
    exact ⟨_, by unfold toP; exact .list ho hc hd ra⟩
  · intro q us ru hn; cases ru; exact ⟨_, by unfold toPs; exact .nil⟩
  · intro q d v ds vs F G r s' ne ih1 ih2 us ru hn
    cases ru with
    | cons rv rvs =>
      unfold noDics at hn
      obtain ⟨as, ra⟩ := ih1 _ rv (Bool.and_eq_true_iff.mp hn).1
      obtain ⟨bs, rb⟩ := ih2 _ rvs (Bool.and_eq_true_iff.mp hn).2
      exact ⟨_, by unfold toPs; exact .cons ra rb⟩
end
noncomputable def Is (K : PySem.W.Frag) (H : Hp) (d : D) (v : V) : Prop := ∃ w o q F, Rep K H w o q d v F
noncomputable def rEqD (K : PySem.W.Frag) : R2 := fun x y H Q => ∃ d e, Is K H d x ∧ Is K H e y ∧ okD d = true ∧ okD e = true ∧ Q (.bl (eqD d e)) H
noncomputable def rNeD (K : PySem.W.Frag) : R2 := fun x y H Q => ∃ d e, Is K H d x ∧ Is K H e y ∧ okD d = true ∧ okD e = true ∧ Q (.bl (!eqD d e)) H
noncomputable def inD (d : D) : D → Option Bool
  | .lst ds => some ((toPs ds).any fun y => PyData.eqv y (toP d))
  | .tup ds => some ((toPs ds).any fun y => PyData.eqv y (toP d))
  | _ => none
noncomputable def rInD (K : PySem.W.Frag) (neg : Bool) : R2 := fun x y H Q => ∃ d e b, Is K H d x ∧ Is K H e y ∧ okD d = true ∧ okD e = true ∧ inD d e = some b ∧ Q (.bl (if neg then !b else b)) H
section
variable {X : Cx} {a b c e : Expr} {fa fb fc f : Den} {pos : Pos}
theorem op_eqD (hu : X.A.units + 64 < cLine) : OpR X (compareOp .Eq) (rEqD X.K) := by
  intro pins s σ H x y v u Q I rx ry ⟨d, e, ⟨w, o, q, F, h1⟩, ⟨w', o', q', F', h2⟩, k1, k2, hq⟩
  obtain ⟨as, ra⟩ := h1.reads I rx (okD_1 k1)
  obtain ⟨bs, rb⟩ := h2.reads I ry (okD_1 k2)
  exact eq_dataH ra rb (okD_2 k1) (okD_2 k2) hu ⟨.bl _, H, I, rfl, hq⟩
theorem op_neD (hu : X.A.units + 64 < cLine) : OpR X (compareOp .NotEq) (rNeD X.K) := by
  intro pins s σ H x y v u Q I rx ry ⟨d, e, ⟨w, o, q, F, h1⟩, ⟨w', o', q', F', h2⟩, k1, k2, hq⟩
  obtain ⟨as, ra⟩ := h1.reads I rx (okD_1 k1)
  obtain ⟨bs, rb⟩ := h2.reads I ry (okD_1 k2)
  exact ne_dataH ra rb (okD_2 k1) (okD_2 k2) hu ⟨.bl _, H, I, rfl, hq⟩
theorem op_inD (hu : X.A.units + 65 < cLine) : OpR X (compareOp .In) (rInD X.K false) := by
  intro pins s σ H x y v u Q I rx ry ⟨d, e, b, ⟨w, o, q, F, h1⟩, ⟨w', o', q', F', h2⟩, k1, k2, hb, hq⟩
  obtain ⟨as, ra⟩ := h1.reads I rx (okD_1 k1)
  obtain ⟨bs, rb⟩ := h2.reads I ry (okD_1 k2)
  replace k1 := okD_2 k1
  replace k2 := okD_2 k2
  cases e with
  | lst ds =>
    cases hb
    unfold toP at rb k2
    exact SeqAt.in_list_reads rb ra (SeqAt.canLay_of_shaped k2) (SeqAt.canLay_of_shaped k1) (room_in_shaped k1 hu) ⟨.bl _, H, I, rfl, hq⟩
  | tup ds =>
    cases hb
    unfold toP at rb k2
    exact SeqAt.in_tuple_reads rb ra (SeqAt.canLay_of_shaped k2) (SeqAt.canLay_of_shaped k1) (room_in_shaped k1 hu) ⟨.bl _, H, I, rfl, hq⟩
  | _ => cases hb
noncomputable def dEq (x y : D) : Option D := if okD x = true ∧ okD y = true then some (.bl (eqD x y)) else none
noncomputable def dNe (x y : D) : Option D := if okD x = true ∧ okD y = true then some (.bl (!eqD x y)) else none
noncomputable def dIn (x y : D) : Option D := if okD x = true ∧ okD y = true then (inD x y).map fun b => .bl b else none
theorem hEq {K : PySem.W.Frag} : ∀ σ H Q, tD K (e2 dEq fa fb) σ H Q → tOp (rEqD K) (tD K fa) (tD K fb) σ H Q := tOp_of fun x y d h => by
  unfold dEq at h
  split at h
  · rename_i hk
    cases h
    exact ⟨_, rfl, fun H w o o' q q' u u' F F' r1 r2 _ Q hq => ⟨x, y, ⟨_, _, _, _, r1⟩, ⟨_, _, _, _, r2⟩, hk.1, hk.2, hq⟩⟩
  · cases h
theorem hNe {K : PySem.W.Frag} : ∀ σ H Q, tD K (e2 dNe fa fb) σ H Q → tOp (rNeD K) (tD K fa) (tD K fb) σ H Q := tOp_of fun x y d h => by
  unfold dNe at h
  split at h
  · rename_i hk
    cases h
    exact ⟨_, rfl, fun H w o o' q q' u u' F F' r1 r2 _ Q hq => ⟨x, y, ⟨_, _, _, _, r1⟩, ⟨_, _, _, _, r2⟩, hk.1, hk.2, hq⟩⟩
  · cases h
theorem hIn {K : PySem.W.Frag} : ∀ σ H Q, tD K (e2 dIn fa fb) σ H Q → tOp (rInD K false) (tD K fa) (tD K fb) σ H Q := tOp_of fun x y d h => by
  unfold dIn at h
  split at h
  · rename_i hk
    cases hi : inD x y with
    | none => rw [hi] at h; cases h
    | some b =>
      rw [hi] at h
      cases h
      exact ⟨_, rfl, fun H w o o' q q' u u' F F' r1 r2 _ Q hq => ⟨x, y, b, ⟨_, _, _, _, r1⟩, ⟨_, _, _, _, r2⟩, hk.1, hk.2, hi, hq⟩⟩
  · cases h
theorem pd_eq {k : Nat} (hr : Room k X.A) (ha : PD X a fa) (hb : PD X b fb) : PD X (.Compare a [.Eq] [b] pos) (e2 dEq fa fb) := pd_cmp (op_eqD hr.units) hEq ha hb (nomark _)
theorem pdt_eq {k : Nat} (hr : Room k X.A) (ha : PD X a fa) (hb : PD X b fb) : PDT X (.Compare a [.Eq] [b] pos) (tOfB (e2 dEq fa fb)) := pdt_cmp (op_eqD hr.units) hEq ha hb (nomark _)
theorem pdt_ne {k : Nat} (hr : Room k X.A) (ha : PD X a fa) (hb : PD X b fb) : PDT X (.Compare a [.NotEq] [b] pos) (tOfB (e2 dNe fa fb)) := pdt_cmp (op_neD hr.units) hNe ha hb (nomark _)
theorem u65 {k : Nat} {A : Around} (r : Room k A) : A.units + 65 < cLine := by have := r.un; omega
theorem pdt_in {k : Nat} (hr : Room k X.A) (ha : PD X a fa) (hb : PD X b fb) (hm : behindInMarks .In b = false := by with_unfolding_all rfl) : PDT X (.Compare a [.In] [b] pos) (tOfB (e2 dIn fa fb)) := pdt_cmp (op_inD (u65 hr)) hIn ha hb hm
end
end L3
set_option Elab.async false
set_option linter.all false
set_option maxRecDepth 100000
namespace L3
open PySem PySem.Spec PyProof.Rows L2
@[simp] noncomputable def eB (h : List D → Option D) (g : DenA) : Den := fun ρ => match g ρ with
  | some (ds, ρ1) => match h ds with
    | some d => some (d, 9, ρ1)
    | none => none
  | none => none
section
variable {X : Cx} {a b c e : Expr} {es : List Expr} {fa fb fc f : Den} {g : DenA} {pos p p1 p2 : Pos}
theorem tCB_of {K : PySem.W.Frag} {h : List D → Option D} {r : List V → Hp → VK → Prop} (hh : ∀ ds d, h ds = some d → ∃ v, scalV d = some v ∧ ∀ H w vs, WL K w H → Reps K H w .f 0 ds vs [] → ∀ Q : VK, Q v H → r vs H Q) :
    ∀ σ H Q, tD K (eB h g) σ H Q → tCB r (tDA K g) σ H Q := fun σ H Q hh0 => by
  obtain ⟨ρ, w, t, r', q, ρ', gd, ee, k⟩ := hh0
  unfold eB at ee
  split at ee
  · rename_i ds ρ1 h1
    split at ee
    · rename_i d hd
      cases ee
      obtain ⟨v, hv, hr⟩ := hh ds _ hd
      exact ⟨ρ, w, t, ds, _, gd, h1, fun vs H1 w1 g1 go1 r1 => hr H1 w1 vs g1.wl r1 Q (k v H1 w1 [] g1.up go1 (scal_rep hv))⟩
    · cases ee
  · cases ee
theorem one {K : PySem.W.Frag} {H : Hp} {w : Wn} {o : Ow} {d : D} {vs : List V} (r : Reps K H w o 0 [d] vs []) : ∃ v, vs = [v] ∧ Rep K H w o 0 d v [] := by
  have l := r.length
  match vs, l with
  | [v], _ =>
    obtain ⟨v', h1, h2⟩ := r.get (i := 0) rfl
    cases h1
    exact ⟨v, rfl, h2⟩
theorem two {K : PySem.W.Frag} {H : Hp} {w : Wn} {o : Ow} {d d' : D} {vs : List V} (r : Reps K H w o 0 [d, d'] vs []) : ∃ v v', vs = [v, v'] ∧ Rep K H w o 0 d v [] ∧ Rep K H w o 0 d' v' [] := by
  have l := r.length
  match vs, l with
  | [v, v'], _ =>
    obtain ⟨u, h1, h2⟩ := r.get (i := 0) rfl
    obtain ⟨u', h3, h4⟩ := r.get (i := 1) rfl
    cases h1
    cases h3
    exact ⟨v, v', rfl, h2, h4⟩
noncomputable def lenD : D → Option Nat
  | .lst ds => some ds.length
  | .tup ds => some ds.length
  | _ => none
@[simp] noncomputable def bLen : List D → Option D
  | [d] => (lenD d).map fun n => .int (Int.ofNat n)
  | _ => none
theorem Rep.len {K : PySem.W.Frag} {H : Hp} {w : Wn} {o : Ow} {q : Nat} {d : D} {v : V} {F : List Addr} {n : Nat} (r : Rep K H w o q d v F) (h : lenD d = some n) : ∃ p ys, v = .ref p ∧ (SqL K H p ys ∨ SqT K H p ys) ∧ ys.length = n := by
  cases d with
  | lst ds =>
    cases h
    obtain ⟨p, vs, q', G, rfl, hq, rs⟩ := r.seqL
    exact ⟨p, vs, rfl, .inl hq, rs.length.symm⟩
  | tup ds =>
    cases h
    obtain ⟨p, vs, rfl, hq, rs⟩ := r.seqT
    exact ⟨p, vs, rfl, .inr hq, rs.length.symm⟩
  | _ => cases h
theorem pd_len (hm : X.mg "len" = none) (ha : PDA X [a] g) (hg : Gl X "len" := by rfl) (he : starEach [a] X.env = (false, eval a X.env) :: starEach [] X.env := by rfl) (hpl : (backTo pos (starEach [] X.env)).any (·.1) = false := by rfl) : PD X (.Call (.Name "len" p) [a] [] pos) (eB bLen g) :=
  PE.imp (pe_callB call_len_seq hg hm PySem.boot_len ha (by decide) (by decide) he hpl) (tCB_of fun ds d h => by
    match ds, h with
    | [d0], h =>
      cases hl : lenD d0 with
      | none => simp only [bLen, hl, Option.map_none] at h; cases h
      | some n =>
        simp only [bLen, hl, Option.map_some, Option.some.injEq] at h
        subst h
        refine ⟨_, rfl, fun H w vs wl r Q hq => ?_⟩
        obtain ⟨v, rfl, rv⟩ := one r
        obtain ⟨p, ys, rfl, hs, hn⟩ := rv.len hl
        exact ⟨p, ys, rfl, hs, by rw [hn]; exact hq⟩)
@[simp] noncomputable def eLenV (i : Nat) : Den := fun ρ => match ρ[i]? with
  | some (some (d, _)) => match lenD d with
    | some n => some (.int (Int.ofNat n), 9, ρ)
    | none => none
  | _ => none
theorem pd_lenV {i : Nat} {x : Str} (hm : X.mg "len" = none) (h : PE X (.Name x p1) (tVar i)) (hg : Gl X "len" := by rfl) (he : starEach [.Name x p1] X.env = (false, eval (.Name x p1) X.env) :: starEach [] X.env := by rfl) (hpl : (backTo pos (starEach [] X.env)).any (·.1) = false := by rfl) : PD X (.Call (.Name "len" p) [.Name x p1] [] pos) (eLenV i) :=
  PE.imp (pe_callB call_len_seq hg hm PySem.boot_len (pa_cons h pa_nil he) (by decide) (by decide) he hpl) fun σ H Q hh0 => by
  obtain ⟨ρ, w, t, r', q, ρ', gd, ee, k⟩ := hh0
  unfold eLenV at ee
  split at ee
  · rename_i d q0 e0
    split at ee
    · rename_i n hn
      cases ee
      obtain ⟨v, F, h1, h2⟩ := gd.slot i d q0 e0
      obtain ⟨p, ys, rfl, hs, hl⟩ := h2.len hn
      exact ⟨_, h1, p, ys, rfl, hs, by rw [hl]; exact k _ H w [] gd.up Go.refl (.int _)⟩
    · cases ee
  · cases ee
@[simp] noncomputable def bMax : List D → Option D
  | [.int i, .int j] => some (.int (if j > i then j else i))
  | _ => none
theorem pd_max2 (hc : X.calm = true) (hm : X.mg "max" = none) (hb : bootBuiltins "max" = some (.builtin "max")) (ha : PDA X (a :: es) g) (hg : Gl X "max" := by rfl) (he : starEach (a :: es) X.env = (false, eval a X.env) :: starEach es X.env := by rfl) (hpl : (backTo pos (starEach es X.env)).any (·.1) = false := by rfl) : PD X (.Call (.Name "max" p) (a :: es) [] pos) (eB bMax g) :=
  PE.imp (pe_callB (call_max2 hc) hg hm hb ha (by decide) (by decide) he hpl) (tCB_of fun ds d h => by
    unfold bMax at h
    split at h
    · rename_i i j
      cases h
      refine ⟨_, rfl, fun H w vs wl r Q hq => ?_⟩
      obtain ⟨v, v', rfl, r1, r2⟩ := two r
      exact ⟨i, j, by rw [intOf r1, intOf r2], hq⟩
    · cases h)
@[simp] noncomputable def eListOf (g : DenA) : Den := fun ρ => match g ρ with
  | some ([.lst ds], ρ1) => some (.lst ds, 1, ρ1)
  | some ([.tup ds], ρ1) => some (.lst ds, 1, ρ1)
  | _ => none
theorem pd_listOf (hm : X.mg "list" = none) (hb : bootBuiltins "list" = some (.type "list")) (ha : PDA X [a] g) (hg : Gl X "list" := by rfl) (he : starEach [a] X.env = (false, eval a X.env) :: starEach [] X.env := by rfl) (hpl : (backTo pos (starEach [] X.env)).any (·.1) = false := by rfl) : PD X (.Call (.Name "list" p) [a] [] pos) (eListOf g) :=
  PE.imp (pe_callTy call_list_of hg hm hb ha (by decide) (by decide) he hpl) fun σ H Q hh0 => by
  obtain ⟨ρ, w, t, r', q, ρ', gd, ee, k⟩ := hh0
  unfold eListOf at ee
  split at ee
  · rename_i ds ρ1 h1
    cases ee
    refine ⟨ρ, w, t, _, _, gd, h1, fun vs H1 w1 g1 go1 r1 => ?_⟩
    obtain ⟨v, rfl, rv⟩ := one r1
    obtain ⟨p, ys, rfl, hs, rs⟩ := rv.seqL0
    refine ⟨p, ys, rfl, .inl hs, fun l hl => ?_⟩
    obtain ⟨a1, a2, a3⟩ := alloc g1 hl rs
    exact k _ _ _ _ a1 (go1.trans a2) a3
  · rename_i ds ρ1 h1
    cases ee
    refine ⟨ρ, w, t, _, _, gd, h1, fun vs H1 w1 g1 go1 r1 => ?_⟩
    obtain ⟨v, rfl, rv⟩ := one r1
    obtain ⟨p, ys, rfl, hs, rs⟩ := rv.seqT
    refine ⟨p, ys, rfl, .inr hs, fun l hl => ?_⟩
    obtain ⟨a1, a2, a3⟩ := alloc g1 hl rs
    exact k _ _ _ _ a1 (go1.trans a2) a3
  · cases ee
@[simp] noncomputable def eTupOf (g : DenA) : Den := fun ρ => match g ρ with
  | some ([.lst ds], ρ1) => some (.tup ds, 9, ρ1)
  | some ([.tup ds], ρ1) => some (.tup ds, 9, ρ1)
  | _ => none
theorem pd_tupOf (hm : X.mg "tuple" = none) (hb : bootBuiltins "tuple" = some (.type "tuple")) (ha : PDA X [a] g) (hg : Gl X "tuple" := by rfl) (he : starEach [a] X.env = (false, eval a X.env) :: starEach [] X.env := by rfl) (hpl : (backTo pos (starEach [] X.env)).any (·.1) = false := by rfl) : PD X (.Call (.Name "tuple" p) [a] [] pos) (eTupOf g) :=
  PE.imp (pe_callTy call_tuple_of hg hm hb ha (by decide) (by decide) he hpl) fun σ H Q hh0 => by
  obtain ⟨ρ, w, t, r', q, ρ', gd, ee, k⟩ := hh0
  unfold eTupOf at ee
  split at ee
  · rename_i ds ρ1 h1
    cases ee
    refine ⟨ρ, w, t, _, _, gd, h1, fun vs H1 w1 g1 go1 r1 => ?_⟩
    obtain ⟨v, rfl, rv⟩ := one r1
    obtain ⟨p, ys, rfl, hs, rs⟩ := rv.seqL0
    refine ⟨p, ys, rfl, .inl ⟨hs, fun l hl => ?_⟩⟩
    obtain ⟨a1, a2, a3⟩ := allocT g1 hl rs
    exact k _ _ _ _ a1 (go1.trans a2) a3
  · rename_i ds ρ1 h1
    cases ee
    refine ⟨ρ, w, t, _, _, gd, h1, fun vs H1 w1 g1 go1 r1 => ?_⟩
    obtain ⟨v, rfl, rv⟩ := one r1
    have rr := rv
    obtain ⟨p, ys, rfl, hs, rs⟩ := rv.seqT
    refine ⟨p, ys, rfl, .inr ⟨hs, ?_⟩⟩
    exact k _ H1 w1 [] g1.up go1 (((rr.nolist rfl).2 9).any g1.wl)
  · cases ee
noncomputable def tRange (ta : TA) : TE := fun σ H Q => ta σ H fun vs H1 => ∃ j : Int, vs = [.int j] ∧ -(2 ^ 62) ≤ j ∧ j < 2 ^ 62 ∧ ∀ p, H1 p = none → Q (.ref p) (upd H1 p (.rng 0 j))
theorem pe_range {ta : TA} (hg : Gl X "range") (hm : X.mg "range" = none) (ha : PA X [a] ta) (hs : starEach [a] X.env = [(false, eval a X.env)] := by rfl) : PE X (.Call (.Name "range" p) [a] [] pos) (tRange ta) := by
  intro pins s σ H Q I h
  refine Call_ (ld_blt I hg hm boot_range (PyProof.Rows.callWith_type1 (thn (ha pos pins s σ H _ I h) fun us s1 ⟨vs, H1, I1, r1, q1⟩ => ?_) hs rfl))
  obtain ⟨j, e, q1, q2, q⟩ := q1
  subst e
  cases r1 with
  | cons r rr =>
    cases rr
    obtain ⟨t, rfl⟩ := r
    refine call_range_1 ?_
    exact ⟨.ref s1.heap.objs.size, upd H1 s1.heap.objs.size (.rng 0 j), I1.laid (fun b u e => Heap.get?_push_of_some _ e) (Nat.le_refl _) ⟨_, _, _, Heap.get?_push_size _ rfl⟩, rfl, q _ (I1.hok.fresh (Nat.le_refl _))⟩
end
end L3
set_option Elab.async false
set_option linter.all false
set_option maxRecDepth 100000
namespace L3
open PySem PySem.Spec PyProof.Rows L2
theorem range_small {j : Int} (h1 : -(2 ^ 62) ≤ j) (h2 : j < 2 ^ 62) : Builtin.Range.small 0 j 1 = true := by
  have hs : Builtin.Range.rangeSize 0 j 1 = ((j.toNat : Nat) : Int) := by
    simp [Builtin.Range.rangeSize] <;> split <;> omega
  simp only [Builtin.Range.small, hs, Builtin.Range.rangeFitsLong]
  simp
  omega
theorem range_size (j : Int) : Builtin.Range.rangeSize 0 j 1 = ((j.toNat : Nat) : Int) := by
  simp [Builtin.Range.rangeSize] <;> split <;> omega
theorem items_vals {n : Nat} {acc : Array Value} (h : ItemsOf (fun i v => ∃ t, v = Value.int (0 + (i : Nat) * 1) t) acc n) : Vals (rangeV n) acc.toList := by
  have key : ∀ (us : List Value) (k : Nat), (∀ j v, us[j]? = some v → ∃ t, v = Value.int (((k + j : Nat)) : Int) t) → Vals ((List.range' k us.length).map fun i => V.int (Int.ofNat i)) us := by
    intro us
    induction us with
    | nil => intro k _; exact .nil
    | cons u r ih =>
      intro k hk
      obtain ⟨t, e⟩ := hk 0 u rfl
      refine .cons ⟨t, by rw [e]; rfl⟩ (ih (k + 1) fun j v hv => ?_)
      obtain ⟨t', e'⟩ := hk (j + 1) v (by simpa using hv)
      exact ⟨t', by rw [e']; congr 2; omega⟩
  have := key acc.toList 0 fun j v hv => by
    obtain ⟨t, e⟩ := h.2 j v (by simpa using hv)
    exact ⟨t, by rw [e]; congr 1; omega⟩
  have hl : acc.toList.length = n := by simpa using h.1
  rw [hl] at this
  unfold rangeV
  rw [List.range_eq_range']
  exact this
section
variable {prog : Program} {w : World} {A : Around} {E : Value → Shared → Prop} {s : Shared}
open AutoSeq1 (wpAny_loadPart')
theorem collect_range {Q : List Value → Shared → Prop} {r : Addr} {a b c : Int} {t u v : Tok} {n : Nat} (hh : A.handled = none) (hr : IsRange s.heap r a b c t u v) (hsmall : Builtin.Range.small a b c = true) (hn : Builtin.Range.rangeSize a b c = n) (hlen : n ≤ 2 ^ 24)
    (hQ : ∀ h' tk acc', (∀ b o', s.heap.get? b = some o' → h'.get? b = some o') → ItemsOf (fun i v => ∃ t, v = .int (a + i * c) t) acc' n → Q acc'.toList { s with heap := h', toks := tk }) :
    wpAny (model prog w) A (collect (.ref r)) Q E s := by
  unfold collect
  refine wpAny_bind (wpAny_runValue (codeAny_builtin F.entry_proto_collect ?_))
  rw [Around.under_plainId F.plain_proto_collect _]
  show wpAny _ A.in1 (newList [] >>= fun l => again (.builtin "list.__iadd__" ⟨[l, .ref r], []⟩)) _ _ s
  refine wpAny_bind (wpAny_newObj_type ?_)
  refine wpAny_pure ⟨plainId_quiet F.plain_list_iadd _, codeAny_builtin F.entry_list_iadd ?_⟩
  rw [Around.under_plainId F.plain_list_iadd _]
  show wpAny _ A.in1 (Builtin.List.listExtendWith (.ref s.heap.objs.size) (.ref r) (.ref s.heap.objs.size)) _ _ _
  have hS : (s.heap.push { cls := .type "list", data := .seq ([] : List Value).toArray }).get? s.heap.objs.size = some { cls := .type "list", data := .seq #[] 0 } := Heap.get?_push_size _ rfl
  have fin' : ∀ (h' : Heap) (tk : Nat) (acc' : Array Value) (c' : Nat), (∀ b o, b ≠ s.heap.objs.size → (s.heap.push { cls := .type "list", data := .seq ([] : List Value).toArray }).get? b = some o → h'.get? b = some o) →
      h'.get? s.heap.objs.size = some { cls := .type "list", dict := none, data := .seq acc' c', slots := #[] } → ItemsOf (fun i v => ∃ t, v = .int (a + i * c) t) acc' n → wpAny (model prog w) A (match Value.ref s.heap.objs.size with
      | Value.ref a => do
        match (← load a).data with
          | Data.seq xs _ => pure xs.toList
          | _ => unsupported "internal:collect"
      | _ => unsupported "internal:collect") Q E { s with heap := h', toks := tk } := fun h' tk acc' c' hk hS' hacc => by
    show wpAny _ A (load s.heap.objs.size >>= _) _ _ _
    refine wpAny_bind (wpAny_load hS' ?_)
    refine wpAny_pure (hQ h' tk acc' (fun b o' hb => ?_) hacc)
    exact hk b o' (Nat.ne_of_lt (Heap.lt_size hb)) (Heap.get?_push_of_some _ hb)
  refine wpAny_mono (wpAny_extend_range (A := A) (R := fun rs s' => rs = .ok (.ret (.ref s.heap.objs.size)) ∧ ∃ h' tk acc' c', s' = { s with heap := h', toks := tk } ∧ (∀ b o, b ≠ s.heap.objs.size → (s.heap.push { cls := .type "list", data := .seq ([] : List Value).toArray }).get? b = some o → h'.get? b = some o) ∧
      h'.get? s.heap.objs.size = some { cls := .type "list", dict := none, data := .seq acc' c', slots := #[] } ∧ ItemsOf (fun i v => ∃ t, v = .int (a + i * c) t) acc' n)
    (s := { s with heap := s.heap.push { cls := .type "list", data := .seq ([] : List Value).toArray } }) hh (Heap.get?_push_of_some _ hr) hsmall hn hlen s.heap.objs.size (.ref s.heap.objs.size) 0 hS (fun h' tk acc' c' hk hS' hacc => ⟨rfl, h', tk, acc', c', rfl, hk, hS', hacc⟩)) (fun fin s' h => ?_) (fun e s' h => ?_)
  · cases fin with
    | done f =>
      obtain ⟨e, h', tk, acc', c', rfl, hk, hS', hacc⟩ := h
      cases e
      exact fin' h' tk acc' c' hk hS' hacc
    | again c' => exact ⟨h.1, codeAny_mono h.2 fun r s'' hr => by
        obtain ⟨rfl, h', tk, acc', c', rfl, hk, hS', hacc⟩ := hr
        exact fin' h' tk acc' c' hk hS' hacc⟩
  · exact absurd h.1 (by simp)
end
theorem meets_tuple_new_range (r : Addr) (a b c : Int) (t u v : Tok) (n : Nat) (hsmall : Builtin.Range.small a b c = true) (hn : Builtin.Range.rangeSize a b c = n) (hlen : n ≤ 2 ^ 24) :
    Meets (Builtin.«tuple.__new__» ⟨[.type "tuple", .ref r], []⟩)
      (fun A R s => A.handled = none ∧ IsRange s.heap r a b c t u v ∧ ∀ (h' : Heap) tk acc', (∀ b o', s.heap.get? b = some o' → h'.get? b = some o') → ItemsOf (fun i v => ∃ t, v = .int (a + i * c) t) acc' n → R (.ok (.ret (.ref h'.objs.size))) { s with heap := h'.push { cls := .type "tuple", data := .seq acc' }, toks := tk }) :=
  .of_wp fun prog w A R s h => by
    obtain ⟨hp, g, d, tk, os⟩ := s; obtain ⟨hh, hr, h⟩ := h
    have hsub := sub_tuple_self
    have hinit := init_tuple_lookup
    have hmh := madeHere_tuple
    have hT : Shared.TypeIs ⟨hp, g, d, tk, os⟩ (.ref r) "range" := ⟨_, hr, rfl⟩
    have hh1 : A.in1.handled = none := hh
    wp_walk using AutoSeq1.wpAny_loadPart' hr, wpAny_typeOf hT, collect_range hh1 hr hsmall hn hlen
    intro h' tk' acc' hk hacc
    show wpAny _ _ (Builtin.Tuple.tupleExact acc'.toList.toArray >>= fun v => ret v) _ _ _
    unfold Builtin.Tuple.tupleExact
    have hsz : acc'.size ≤ sizeLine := by rw [hacc.1]; exact hlen
    refine wpAny_bind (wpAny_newObj_type ?_ (by show acc'.toList.toArray.size ≤ sizeLine; simpa using hsz))
    refine wpAny_pure ⟨_, rfl, ?_⟩
    have e : acc'.toList.toArray = acc' := by simp
    rw [e]
    exact h h' tk' acc' hk hacc
theorem call_tuple_range {prog : Program} {w : World} {A : Around} {E : Value → Shared → Prop} {s : Shared} {r : Addr} {a b c : Int} {t u v : Tok} {n : Nat} {Q : Value → Shared → Prop} (hh : A.handled = none) (hr : IsRange s.heap r a b c t u v) (hsmall : Builtin.Range.small a b c = true) (hn : Builtin.Range.rangeSize a b c = n) (hlen : n ≤ 2 ^ 24)
    (h : ∀ (h' : Heap) tk acc', (∀ b o', s.heap.get? b = some o' → h'.get? b = some o') → ItemsOf (fun i v => ∃ t, v = .int (a + i * c) t) acc' n → Q (.ref h'.objs.size) { s with heap := h'.push { cls := .type "tuple", data := .seq acc' }, toks := tk }) :
    wpAny (model prog w) A (call (.type "tuple") [.ref r]) Q E s :=
  callType_new F.called_tuple (by decide) (F.typeCall_tuple_1 _) (F.newCall_tuple_1 _) (fun obj => F.args_object_init_2 obj _) F.entry_tuple_new
    (meets_tuple_new_range r a b c t u v n hsmall hn hlen) ⟨hh, hr, fun h' tk acc' hk hacc => ⟨⟨_, Heap.get?_push_size _ rfl, rfl⟩, h h' tk acc' hk hacc⟩⟩
section
variable {X : Cx}
noncomputable def rRng (mk : List V → HO) : List V → Hp → VK → Prop := fun xs H Q => ∃ a j, xs = [.ref a] ∧ H a = some (.rng 0 j) ∧ -1000 ≤ j ∧ j ≤ 1000 ∧ ∀ p, H p = none → Q (.ref p) (upd H p (mk (rangeV j.toNat)))
theorem call_list_rng (hc : X.calm = true) : CallR X (.type "list") (rRng .lst) := by
  intro pins s σ H xs us Q I r h
  obtain ⟨a, j, rfl, hr, j1, j2, q⟩ := h
  obtain ⟨u, rfl, rx⟩ := vals1 r
  cases rx
  obtain ⟨t, u, v, ho⟩ := (show ObjOk X.prog X.w H s.heap a (.rng 0 j) from I.hok a _ hr)
  refine call_list_range (I.ok.hd hc) ho (range_small (by omega) (by omega)) (range_size j) (by omega) fun h' tk acc' c' hk hS' hacc => ?_
  refine ⟨.ref s.heap.objs.size, _, I.laid (t' := tk) (o := .lst (rangeV j.toNat)) hk (Nat.le_refl _) ⟨by rw [rangeV_len]; exact Nat.le_trans (by omega : j.toNat ≤ 1000) (by decide), acc'.toList, c', items_vals hacc, by simpa using hS'⟩, rfl, q _ (I.hok.fresh (Nat.le_refl _))⟩
theorem call_tuple_rng (hc : X.calm = true) : CallR X (.type "tuple") (rRng .tup) := by
  intro pins s σ H xs us Q I r h
  obtain ⟨a, j, rfl, hr, j1, j2, q⟩ := h
  obtain ⟨u, rfl, rx⟩ := vals1 r
  cases rx
  obtain ⟨t, u, v, ho⟩ := (show ObjOk X.prog X.w H s.heap a (.rng 0 j) from I.hok a _ hr)
  refine call_tuple_range (I.ok.hd hc) ho (range_small (by omega) (by omega)) (range_size j) (by omega) fun h' tk acc' hk hacc => ?_
  have I1 : Inv X pins σ H { s with heap := h', toks := tk } := I.kept hk
  have I2 : Inv X pins σ (upd H h'.objs.size (.tup (rangeV j.toNat))) { s with heap := h'.push { cls := .type "tuple", data := .seq acc' }, toks := tk } :=
    I1.laid (t' := tk) (fun b o e => Heap.get?_push_of_some _ e) (Nat.le_refl _) (show ObjOk X.prog X.w _ _ _ (.tup _) from ⟨by rw [rangeV_len]; exact Nat.le_trans (by omega : j.toNat ≤ 1000) (by decide), acc'.toList, items_vals hacc, by simpa using IsTupD.new h' acc'⟩)
  exact ⟨.ref h'.objs.size, _, I2, rfl, q _ (I1.hok.fresh (Nat.le_refl _))⟩
variable {a : Expr} {g : DenA} {pos p p1 pos1 : Pos}
@[simp] noncomputable def eListR (g : DenA) : Den := fun ρ => match iRange g ρ with
  | some (ds, ρ1) => some (.lst ds, 1, ρ1)
  | none => none
@[simp] noncomputable def eTupR (g : DenA) : Den := fun ρ => match iRange g ρ with
  | some (ds, ρ1) => some (.tup ds, 9, ρ1)
  | none => none
theorem rng_reads {K : PySem.W.Frag} {mk : List V → HO} {q0 : Nat} {md : List D → D} (al : ∀ {ρ : Rho} {σ : St} {H1 : Hp} {w1 : Wn} {t : Nat} {p : Addr} {vs : List V} {ds : List D}, Good K ρ σ H1 w1 t → H1 p = none → Reps K H1 w1 .f 0 ds vs [] → ∃ w' F, Good K ρ σ (upd H1 p (mk vs)) w' (t + 1) ∧ Go H1 w1 (upd H1 p (mk vs)) w' ∧ Rep K (upd H1 p (mk vs)) w' (.t t) q0 (md ds) (.ref p) F) :
    ∀ σ H Q, tD K (fun ρ => match iRange g ρ with
      | some (ds, ρ1) => some (md ds, q0, ρ1)
      | none => none) σ H Q → tCB (rRng mk) (tCons (tRange (tDA K g)) tNil) σ H Q := fun σ H Q hh0 => by
  obtain ⟨ρ, w, t, r', q, ρ', gd, ee, k⟩ := hh0
  dsimp only at ee
  split at ee
  · rename_i ds ρ1 h1
    cases ee
    unfold iRange at h1
    split at h1
    · rename_i n ρ2 h2
      split at h1
      · rename_i hn
        cases h1
        refine ⟨ρ, w, t, _, _, gd, h2, fun vs H1 w1 g1 go1 r1 => ?_⟩
        obtain ⟨v, rfl, rv⟩ := one r1
        have hv := intOf rv
        subst hv
        refine ⟨n, rfl, by omega, by omega, fun p hp => ⟨p, n, rfl, upd_same, hn.1, hn.2, fun l hl => ?_⟩⟩
        have ne : ∀ a x, H1 a = some x → a ≠ p := fun a x e => ne_of_none e hp
        have st : Stab H1 w1 (upd H1 p (.rng 0 n)) w1 := fun a x e nn => ⟨sm (by rw [upd_ne (ne a x e)]; exact e), nn⟩
        have nw : ∀ a o, w1 a = some o → a ≠ p := fun a o e => by obtain ⟨vs, q⟩ := g1.wl a o e; exact ne a _ q
        have g2 : Good K ρ' σ (upd H1 p (.rng 0 n)) w1 t := ⟨⟨fun a o e => by
          obtain ⟨us, q⟩ := g1.wl a o e
          exact ⟨us, by rw [upd_ne (nw a o e)]; exact q⟩, g1.wl.tb.upd rfl (.inl hp)⟩, g1.ws, g1.wt, g1.len, fun i d q e => by
          obtain ⟨v, F, h1, h2⟩ := g1.slot i d q e
          exact ⟨v, F, h1, Rep.go g1.wl st h2 fun a m => ⟨upd_ne (nw a _ (h2.owns a m)), h2.owns a m⟩⟩⟩
        have go2 : Go H1 w1 (upd H1 p (.rng 0 n)) w1 := ⟨st, fun a o e _ => ⟨upd_ne (nw a o e), e⟩⟩
        obtain ⟨w', F, a1, a2, a3⟩ := al g2 hl (reps_range n.toNat)
        exact k _ _ _ _ a1 ((go1.trans go2).trans a2) a3
      · cases h1
    · cases h1
  · cases ee
theorem pd_listR (hc : X.calm = true) (hm : X.mg "list" = none) (hb : bootBuiltins "list" = some (.type "list")) (hmr : X.mg "range" = none) (ha : PDA X [a] g) (hg : Gl X "list" := by rfl) (hgr : Gl X "range" := by rfl) (hs : starEach [a] X.env = [(false, eval a X.env)] := by rfl)
    (he : starEach [.Call (.Name "range" p1) [a] [] pos1] X.env = (false, eval (.Call (.Name "range" p1) [a] [] pos1) X.env) :: starEach [] X.env := by rfl) (hpl : (backTo pos (starEach [] X.env)).any (·.1) = false := by rfl) : PD X (.Call (.Name "list" p) [.Call (.Name "range" p1) [a] [] pos1] [] pos) (eListR g) :=
  PE.imp (pe_callTy (call_list_rng hc) hg hm hb (pa_cons (pe_range hgr hmr ha hs) pa_nil he) (by decide) (by decide) he hpl) (rng_reads fun g hp r => by
    obtain ⟨a1, a2, a3⟩ := alloc g hp r
    exact ⟨_, _, a1, a2, a3⟩)
theorem pd_tupR (hc : X.calm = true) (hm : X.mg "tuple" = none) (hb : bootBuiltins "tuple" = some (.type "tuple")) (hmr : X.mg "range" = none) (ha : PDA X [a] g) (hg : Gl X "tuple" := by rfl) (hgr : Gl X "range" := by rfl) (hs : starEach [a] X.env = [(false, eval a X.env)] := by rfl)
    (he : starEach [.Call (.Name "range" p1) [a] [] pos1] X.env = (false, eval (.Call (.Name "range" p1) [a] [] pos1) X.env) :: starEach [] X.env := by rfl) (hpl : (backTo pos (starEach [] X.env)).any (·.1) = false := by rfl) : PD X (.Call (.Name "tuple" p) [.Call (.Name "range" p1) [a] [] pos1] [] pos) (eTupR g) :=
  PE.imp (pe_callTy (call_tuple_rng hc) hg hm hb (pa_cons (pe_range hgr hmr ha hs) pa_nil he) (by decide) (by decide) he hpl) (rng_reads fun g hp r => by
    obtain ⟨a1, a2, a3⟩ := allocT g hp r
    exact ⟨_, _, a1, a2, a3⟩)
end
end L3
set_option Elab.async false
set_option linter.all false
set_option maxRecDepth 100000
namespace L3
open PySem PySem.Spec PyProof.Rows L2
theorem wpAny_forIn_upto {M : Model} {A : Around} {E : Value → Shared → Prop} {s : Shared} {β : Type} {n : Nat} (f : Nat → β → Sem (ForInStep β)) (I : List Nat → β → Shared → Prop) (Q : β → Shared → Prop) (b : β)
    (turn : ∀ x rest b s, I (x :: rest) b s → wpAny M A (f x b) (fun r s' => match r with | .yield b' => I rest b' s' | .done b' => Q b' s') E s)
    (fin : ∀ b s, I [] b s → Q b s) (h : I (List.range' 0 n 1) b s) : wpAny M A (forIn [0:n] b f) Q E s := by
  rw [Std.Legacy.Range.forIn_eq_forIn_range']
  refine wpAny_forIn_list f I Q turn fin _ b ?_
  have e : (Std.Legacy.Range.size [0:n]) = n := by simp [Std.Legacy.Range.size]
  show I (List.range' 0 (Std.Legacy.Range.size [0:n]) 1) b s
  rw [e]
  exact h
open AutoSeq1 (wpAny_loadPart') in
theorem tuple_indexAt (l : Addr) (items : Array Value) (n : Nat) (dd : Option Addr) (sl : Array (Option Value)) (x : Value) (e : Value → Bool) (j : Nat) (hj : j < items.size) (hit : e items[j] = true) (hno : ∀ m (hm : m < items.size), m < j → e items[m] = false) :
    Meets (Builtin.«tuple.index» ⟨[.ref l, x], []⟩)
      (fun A R s => s.heap.get? l = some { cls := .type "tuple", dict := dd, data := .seq items n, slots := sl } ∧ (∀ y, y ∈ items → SeqAt.EqAt A.in1 s y x (e y)) ∧ R (.ok (.ret (.int j s.toks))) { s with toks := s.toks + 1 }) :=
  .of_wp fun prog w A R s h => by
    obtain ⟨hp, g, d, tk, os⟩ := s; obtain ⟨hl, he, h⟩ := h
    wp_walk using wpAny_loadPart' hl, wpAny_forIn_upto _ (fun rest b s' => b.1 = none ∧ s' = ⟨hp, g, d, tk, os⟩ ∧ ∃ i k, rest = List.range' i k 1 ∧ i + k = items.size ∧ i ≤ j) _
    case turn =>
      rintro y rest b s' ⟨hb, rfl, i, k, hr, hik, hij⟩
      cases k with
      | zero => simp at hr
      | succ k =>
        rw [List.range'_succ] at hr
        obtain ⟨rfl, rfl⟩ := List.cons.inj hr
        have hlt : y < items.size := by omega
        have hget : items[y]? = some items[y] := by simp [hlt]
        rw [hget]
        refine wpAny_bind (he _ (Array.getElem_mem hlt) prog w _ _ ?_)
        by_cases hyj : y = j
        · subst hyj
          rw [hit]
          wp_walk
          exact ⟨_, rfl, h⟩
        · rw [hno y hlt (by omega)]
          wp_walk
          exact ⟨rfl, rfl, y + 1, k, rfl, by omega, by omega⟩
    case fin =>
      rintro ⟨b1, b2⟩ s' ⟨hb, rfl, i, k, hr, hik, hij⟩
      cases k with
      | zero => omega
      | succ k => simp [List.range'_succ] at hr
    case h =>
      exact ⟨rfl, rfl, 0, items.size, by simp, by omega, by omega⟩
end L3
set_option Elab.async false
set_option linter.all false
set_option maxRecDepth 100000
namespace L3
open PySem PySem.Spec PyProof.Rows L2
noncomputable def ixOf (d : D) (ds : List D) : Option Nat := (toPs ds).findIdx? fun y => PyData.eqv y (toP d)
noncomputable def rIndexT (K : PySem.W.Frag) : V → List V → Hp → VK → Prop := fun x xs H Q => ∃ ds d y j, xs = [y] ∧ Is K H (.tup ds) x ∧ Is K H d y ∧ okD (.tup ds) = true ∧ okD d = true ∧ ixOf d ds = some j ∧ Q (.int (Int.ofNat j)) H
section
variable {X : Cx} {a b c e : Expr} {es : List Expr} {fa fb fc f : Den} {g : DenA} {pos p p1 p2 cpos apos : Pos}
theorem mt_indexT (hu : X.A.units + 65 < cLine) : MtR X "tuple.index" (rIndexT X.K) := by
  intro pins s σ H x xs v us Q I rx rs ⟨ds, d, y, j, e, ⟨w, o, q, F, h1⟩, ⟨w', o', q', F', h2⟩, k1, k2, hj, hq⟩
  subst e
  obtain ⟨u, rfl, ru⟩ := vals1 rs
  obtain ⟨as, ra⟩ := h1.reads I rx (okD_1 k1)
  obtain ⟨bs, rb⟩ := h2.reads I ru (okD_1 k2)
  replace k1 := okD_2 k1
  replace k2 := okD_2 k2
  unfold toP at ra k1
  have hc1 : PyData.canLayAll0 (toPs ds) = true := SeqAt.canLay_of_shaped k1
  have hc2 := SeqAt.canLay_of_shaped k2
  cases ra with
  | @tuple a ob vs n _ _ ho hcl hd hrs =>
    obtain ⟨cls, dd, data, sl⟩ := ob
    simp only at hcl hd
    subst hcl hd
    have hmap := SeqAt.readsAll_map _ _ _ hc1 hrs
    have hfi := List.findIdx?_eq_some_iff_getElem.mp hj
    obtain ⟨hjl, hjt, hjf⟩ := hfi
    have hlen : vs.size = (toPs ds).length := by rw [← hmap]; simp
    have hat : ∀ m (hm : m < vs.size) (hm' : m < (toPs ds).length), SeqAt.readOf s.heap vs[m] = (toPs ds)[m] := fun m hm hm' => by
      have : (vs.toList.map (SeqAt.readOf s.heap))[m]? = (toPs ds)[m]? := by rw [hmap]
      simpa [hm, hm'] using this
    refine call_meets PySem.F.slot_tuple_index ⟨_, ho, rfl⟩ PySem.F.entry_tuple_index (PySem.F.args_tuple_index_2 _ _)
      (tuple_indexAt a vs n dd sl u (fun y => PyData.eqv (SeqAt.readOf s.heap y) (toP d)) j (by omega) (by rw [hat j (by omega) hjl]; simpa using hjt) (fun m hm hmj => by rw [hat m hm (by omega)]; simpa using hjf m hmj)) ⟨ho, SeqAt.items_eqAt hrs rb hc1 hc2 (room_in_shaped k2 hu), ?_⟩
    exact ⟨.int (Int.ofNat j), H, I.tok _, ⟨_, rfl⟩, hq⟩
@[simp] noncomputable def eIndex (fo : Den) (g : DenA) : Den := fun ρ => match fo ρ with
  | some (.tup ds, _, ρ1) => match g ρ1 with
    | some ([d], ρ2) => if okD (.tup ds) = true ∧ okD d = true then match ixOf d ds with
      | some j => some (.int (Int.ofNat j), 9, ρ2)
      | none => none
      else none
    | _ => none
  | _ => none
theorem pd_index {k : Nat} (hr : Room k X.A) (ho : PD X a fa) (ha : PDA X [e] g)
    (hbase : attributeBase a "index" X.env (eval a X.env) = eval a X.env := by rfl)
    (hfew : ((backTo cpos (starEach [e] X.env)).all (fun x => !x.1) && (backToKw cpos (keywordEach [] X.env)).all (fun x => x.1.isSome)
      && decide ([e].length + ([] : List Keyword).length + (if ([] : List Keyword).isEmpty then 0 else 1) < 30)) = true := by rfl)
    (hline : (apos.endLine == cpos.line) = true := by rfl) (hs : starEach [e] X.env = (false, eval e X.env) :: starEach [] X.env := by rfl) (hplain : (backTo cpos (starEach [] X.env)).any (·.1) = false := by rfl) :
    PD X (.Call (.Attribute a "index" apos) [e] [] cpos) (eIndex fa g) :=
  PE.imp (pe_bm PySem.F.plainAttrs_tuple PySem.F.slot_tuple_index PySem.F.type_tuple_index (mt_indexT (u65 hr)) ho ha hbase hfew hline hs hplain) fun σ H Q hh0 => by
  obtain ⟨ρ, w, t, r', q, ρ', gd, ee, k⟩ := hh0
  unfold eIndex at ee
  split at ee
  · rename_i ds q1 ρ1 h1
    split at ee
    · rename_i d ρ2 h2
      split at ee
      · rename_i hok
        split at ee
        · rename_i j hj
          cases ee
          refine ⟨ρ, w, t, _, _, _, gd, h1, fun v H1 w1 F1 g1 go1 r1 => ?_⟩
          have r0 := r1.drop (o := .f) (Nat.le_refl t)
          have gg := g1.drop (t' := t)
          obtain ⟨p0, vs, rfl, hq, rs⟩ := r0.tupAt
          refine ⟨?_, ρ1, dropT t w1, t, _, _, gg, h2, fun vs2 H2 w2 g2 go2 r2 => ?_⟩
          · exact .inr (.inl ⟨rfl, .inr ⟨_, hq⟩⟩)
          · obtain ⟨v2, rfl, rv2⟩ := one r2
            have r3 : Rep X.K H2 w2 .f 0 (.tup ds) (.ref p0) [] := r0.go0 gg.wl go2.stab
            exact ⟨ds, d, v2, j, rfl, ⟨_, _, _, _, r3⟩, ⟨_, _, _, _, rv2⟩, hok.1, hok.2, hj, k _ H2 w2 [] g2.up ((go1.drop gd.wt).trans go2) (.int _)⟩
        · cases ee
      · cases ee
    · cases ee
  · cases ee
theorem Good.mut {K : PySem.W.Frag} {ρ : Rho} {σ : St} {H : Hp} {w : Wn} {t i : Nat} {ds : List D} (g : Good K ρ σ H w t) (e : ρ[i]? = some (some (.lst ds, 1))) :
    ∃ l vs, σ[i]? = some (some (.ref l)) ∧ H l = some (.lst vs) ∧ Reps K H w .f 0 ds vs [] ∧ ∀ ds' vs', Reps K H w .f 0 ds' vs' [] →
      Good K (ρ.set i (some (.lst ds', 1))) σ (upd H l (.lst vs')) w t ∧ Go H w (upd H l (.lst vs')) w := by
  obtain ⟨v, F, h1, h2⟩ := g.slot i _ _ e
  cases h2 with
  | @own _ l vs _ F' hl hw rs ne =>
    have hF := rs.zero
    subst hF
    refine ⟨l, vs, h1, hl, rs.any g.wl, fun ds' vs' r' => ?_⟩
    have nl : ∀ a o, w a = some o → o ≠ .s i → a ≠ l := fun a o e n z => by subst z; rw [hw] at e; exact n (Option.some.inj e).symm
    have nn : ∀ a, w a = none → a ≠ l := fun a e z => by subst z; rw [hw] at e; cases e
    have st : Stab H w (upd H l (.lst vs')) w := fun a x h n => ⟨sm (by rw [upd_ne (nn a n)]; exact h), n⟩
    refine ⟨⟨⟨fun a o h => ?_, g.wl.tb.upd rfl (.inr (g.wl l _ hw))⟩, g.ws, g.wt, by rw [List.length_set]; exact g.len, fun j d' q' e' => ?_⟩, ⟨st, fun a o h n => ⟨upd_ne (nl a o h (n i)), h⟩⟩⟩
    · by_cases z : a = l
      · subst z; exact ⟨_, upd_same⟩
      · obtain ⟨us, q⟩ := g.wl a o h
        exact ⟨us, by rw [upd_ne z]; exact q⟩
    · by_cases hj : i = j
      · subst hj
        rw [List.getElem?_set_self (List.getElem?_eq_some_iff.mp e).1] at e'
        cases e'
        exact ⟨_, _, h1, .own upd_same hw (Reps.go g.wl st r' (fun _ z => nomatch z)) (fun z => nomatch z)⟩
      · rw [List.getElem?_set_ne hj] at e'
        obtain ⟨v', F', h1', h2'⟩ := g.slot j d' q' e'
        exact ⟨v', F', h1', Rep.go g.wl st h2' fun a m => ⟨upd_ne (nl a _ (h2'.owns a m) (fun z => hj (by cases z; rfl))), h2'.owns a m⟩⟩
@[simp] noncomputable def isLst : Option (Option (D × Nat)) → Bool
  | some (some (.lst _, _)) => true
  | _ => false
theorem Good.isL {K : PySem.W.Frag} {ρ : Rho} {σ : St} {H : Hp} {w : Wn} {t i : Nat} (g : Good K ρ σ H w t) (h : isLst ρ[i]? = true) : ∃ l, σ[i]? = some (some (.ref l)) ∧ ∃ vs, SqL K H l vs := by
  unfold isLst at h
  split at h
  · rename_i ds q e
    obtain ⟨v, F, h1, h2⟩ := g.slot i _ _ e
    obtain ⟨p, vs, _, _, rfl, hq, _⟩ := h2.seqL
    exact ⟨p, h1, vs, hq⟩
  · cases h
@[simp] noncomputable def eApp (i : Nat) (g : DenA) : Den := fun ρ => if isLst ρ[i]? = true then match g ρ with
  | some ([d], ρ1) => match ρ1[i]? with
    | some (some (.lst ds, 1)) => if ds.length ≤ 1000 then some (.non, 9, ρ1.set i (some (.lst (ds ++ [d]), 1))) else none
    | _ => none
  | _ => none
  else none
theorem pd_append {i : Nat} {x : Str} (h : PE X (.Name x p1) (tVar i)) (ha : PDA X [e] g)
    (hbase : attributeBase (.Name x p1) "append" X.env (eval (.Name x p1) X.env) = eval (.Name x p1) X.env := by rfl)
    (hfew : ((backTo cpos (starEach [e] X.env)).all (fun x => !x.1) && (backToKw cpos (keywordEach [] X.env)).all (fun x => x.1.isSome)
      && decide ([e].length + ([] : List Keyword).length + (if ([] : List Keyword).isEmpty then 0 else 1) < 30)) = true := by rfl)
    (hline : (apos.endLine == cpos.line) = true := by rfl) (hs : starEach [e] X.env = (false, eval e X.env) :: starEach [] X.env := by rfl) (hplain : (backTo cpos (starEach [] X.env)).any (·.1) = false := by rfl) :
    PD X (.Call (.Attribute (.Name x p1) "append" apos) [e] [] cpos) (eApp i g) :=
  PE.imp (pe_bm PySem.F.plainAttrs_list PySem.F.slot_list_append PySem.F.type_list_append mt_append h ha hbase hfew hline hs hplain) fun σ H Q hh0 => by
  obtain ⟨ρ, w, t, r', q, ρ', gd, ee, k⟩ := hh0
  unfold eApp at ee
  split at ee
  · rename_i hl
    obtain ⟨l, hσ, us, hq⟩ := gd.isL hl
    split at ee
    · rename_i d ρ1 h1
      split at ee
      · rename_i ds e1
        split at ee
        · rename_i hlen
          cases ee
          refine ⟨_, hσ, .inl ⟨rfl, us, hq⟩, ρ, w, t, _, _, gd, h1, fun vs H1 w1 g1 go1 r1 => ?_⟩
          obtain ⟨v, rfl, rv⟩ := one r1
          obtain ⟨l', ws, hσ', hH, rs, mk⟩ := g1.mut e1
          rw [hσ] at hσ'
          cases hσ'
          have r2 : Reps X.K H1 w1 .f 0 (ds ++ [d]) (ws ++ [v]) [] := Reps.snoc (F := []) (G := []) rv rs (fun _ z => nomatch z)
          obtain ⟨m1, m2⟩ := mk _ _ r2
          refine ⟨l, ws, v, rfl, rfl, hH, by rw [← rs.length]; exact small1000 hlen, ?_⟩
          exact k .non _ w1 [] m1.up (go1.trans m2) .non
        · cases ee
      · cases ee
    · cases ee
  · cases ee
theorem Reps.eraseIdx {K : PySem.W.Frag} {H : Hp} {w : Wn} : ∀ {ds : List D} {vs : List V} (i : Nat), Reps K H w .f 0 ds vs [] → Reps K H w .f 0 (ds.eraseIdx i) (vs.eraseIdx i) []
  | ds, vs, i, r => by
    generalize hF : ([] : List Addr) = F at r
    cases r with
    | nil => exact .nil
    | @cons _ d v ds vs F G r s _ =>
      have h1 : F = [] := r.zero
      have h2 : G = [] := s.zero
      subst h1 h2
      cases i with
      | zero => exact s
      | succ j => exact .cons (F := []) (G := []) r (Reps.eraseIdx j s) (fun _ z => nomatch z)
@[simp] noncomputable def ePop (i : Nat) (g : DenA) : Den := fun ρ => if isLst ρ[i]? = true then match g ρ with
  | some ([.int n], ρ1) => match ρ1[i]? with
    | some (some (.lst ds, 1)) => if -1000 ≤ n ∧ n ≤ 1000 then match seqIndex? n ds.length with
      | some j => match ds[j]? with
        | some d => some (d, dep0 d, ρ1.set i (some (.lst (ds.eraseIdx j), 1)))
        | none => none
      | none => none
      else none
    | _ => none
  | _ => none
  else none
theorem pd_pop {i : Nat} {x : Str} (h : PE X (.Name x p1) (tVar i)) (ha : PDA X [e] g)
    (hbase : attributeBase (.Name x p1) "pop" X.env (eval (.Name x p1) X.env) = eval (.Name x p1) X.env := by rfl)
    (hfew : ((backTo cpos (starEach [e] X.env)).all (fun x => !x.1) && (backToKw cpos (keywordEach [] X.env)).all (fun x => x.1.isSome)
      && decide ([e].length + ([] : List Keyword).length + (if ([] : List Keyword).isEmpty then 0 else 1) < 30)) = true := by rfl)
    (hline : (apos.endLine == cpos.line) = true := by rfl) (hs : starEach [e] X.env = (false, eval e X.env) :: starEach [] X.env := by rfl) (hplain : (backTo cpos (starEach [] X.env)).any (·.1) = false := by rfl) :
    PD X (.Call (.Attribute (.Name x p1) "pop" apos) [e] [] cpos) (ePop i g) :=
  PE.imp (pe_bm PySem.F.plainAttrs_list PySem.F.slot_list_pop PySem.F.type_list_pop mt_popAt h ha hbase hfew hline hs hplain) fun σ H Q hh0 => by
  obtain ⟨ρ, w, t, r', q, ρ', gd, ee, k⟩ := hh0
  unfold ePop at ee
  split at ee
  · rename_i hl
    obtain ⟨l, hσ, us, hq⟩ := gd.isL hl
    split at ee
    · rename_i n ρ1 h1
      split at ee
      · rename_i ds e1
        split at ee
        · rename_i hn
          split at ee
          · rename_i j hj
            split at ee
            · rename_i d hd
              cases ee
              refine ⟨_, hσ, .inl ⟨rfl, us, hq⟩, ρ, w, t, _, _, gd, h1, fun vs H1 w1 g1 go1 r1 => ?_⟩
              obtain ⟨v, rfl, rv⟩ := one r1
              have hv := intOf rv
              subst hv
              obtain ⟨l', ws, hσ', hH, rs, mk⟩ := g1.mut e1
              rw [hσ] at hσ'
              cases hσ'
              obtain ⟨y, hy, ry⟩ := rs.get hd
              obtain ⟨m1, m2⟩ := mk _ _ (rs.eraseIdx j)
              refine ⟨l, ws, n, j, y, rfl, rfl, hH, by omega, by omega, by rw [← rs.length]; exact hj, hy, ?_⟩
              have ry' : Rep X.K _ w1 (.t t) 0 r' y [] := Rep.go g1.wl m2.stab ry (fun _ z => nomatch z)
              exact k y _ w1 [] m1.up (go1.trans m2) ry'.dep
            · cases ee
          · cases ee
        · cases ee
      · cases ee
    · cases ee
  · cases ee
end
end L3
set_option Elab.async false
set_option linter.all false
set_option maxRecDepth 100000
namespace L3
open PySem PySem.Spec PyProof.Rows L2
theorem Reps.getQ {K : PySem.W.Frag} {H : Hp} {w : Wn} {o : Ow} {q : Nat} : ∀ {ds : List D} {vs : List V} {F : List Addr} {i : Nat} {d : D}, Reps K H w o q ds vs F → ds[i]? = some d → ∃ v G, vs[i]? = some v ∧ Rep K H w o q d v G ∧ ∀ a ∈ G, a ∈ F
  | _, _, _, _, _, .nil, e => by simp at e
  | _, _, _, 0, _, .cons r _ _, e => by
    simp at e; subst e; exact ⟨_, _, rfl, r, fun a m => List.mem_append_left _ m⟩
  | _, _, _, i + 1, d, .cons _ s _, e => by
    obtain ⟨v, G, h1, h2, h3⟩ := Reps.getQ (i := i) (d := d) s (by simpa using e)
    exact ⟨v, G, by simpa using h1, h2, fun a m => List.mem_append_right _ (h3 a m)⟩
theorem Reps.atQ {K : PySem.W.Frag} {H : Hp} {w : Wn} {o : Ow} {q : Nat} {ds : List D} {vs : List V} {F : List Addr} {i : Int} {d : D} (r : Reps K H w o q ds vs F) (h : L2.atI ds i = some d) : ∃ v G, L2.atI vs i = some v ∧ Rep K H w o q d v G ∧ ∀ a ∈ G, a ∈ F := by
  unfold L2.atI at h ⊢
  rw [← r.length]
  cases e : ixN ds.length i with
  | none => rw [e] at h; cases h
  | some j =>
    rw [e] at h
    exact r.getQ h
@[simp] noncomputable def eIxV (n : Nat) (fb : Den) : Den := fun ρ => match ρ[n]? with
  | some (some _) => match fb ρ with
    | some (.int i, _, ρ2) => match ρ2[n]? with
      | some (some (x, q)) => match atD x i with
        | some d => if d.isL = true ∧ 1 < q ∧ x.isL = true then none else some (d, dep0 d, ρ2)
        | none => none
      | _ => none
    | _ => none
  | _ => none
section
variable {X : Cx} {a b c e : Expr} {es : List Expr} {fa fb fc f : Den} {g : DenA} {pos p p1 p2 cpos apos : Pos}
theorem pd_ixV {n : Nat} {x : Str} (h : PE X (.Name x p1) (tVar n)) (hb : PD X b fb) (hs : PlainIx b := by exact fun _ _ => rfl) : PD X (.Subscript (.Name x p1) b pos) (eIxV n fb) := PE.imp (pe_ix ix_seq h hb hs) fun σ H Q hh0 => by
  obtain ⟨ρ, w, t, r', q, ρ', gd, ee, k⟩ := hh0
  unfold eIxV at ee
  split at ee
  · rename_i z0 e0
    obtain ⟨d0, q0⟩ := z0
    obtain ⟨v, F, hσ, _⟩ := gd.slot n d0 q0 e0
    split at ee
    · rename_i i q2 ρ2 h2
      split at ee
      · rename_i x q e2
        split at ee
        · rename_i d hd
          split at ee
          · cases ee
          · rename_i hn
            cases ee
            refine ⟨v, hσ, ρ, w, t, _, _, _, gd, h2, fun y H2 w2 F2 g2 go r2 => ?_⟩
            have hy := intOf r2
            subst hy
            have gg := g2.drop (t' := t)
            obtain ⟨v', F', hσ', rr⟩ := gg.slot n x q e2
            rw [hσ] at hσ'
            cases hσ'
            have fin : ∀ u, Rep X.K H2 (dropT t w2) (.t t) 0 r' u [] → Q u H2 := fun u ru => k u H2 (dropT t w2) [] gg.up (go.drop gd.wt) ru.dep
            cases x with
            | lst ds =>
              by_cases hq0 : q = 0
              · subst hq0
                obtain ⟨p0, vs, rfl, hq, rs⟩ := rr.seqL0
                obtain ⟨u, hu, ru⟩ := rs.atI hd
                exact .inl ⟨p0, vs, i, u, rfl, rfl, hq, hu, fin u (ru.any gg.wl)⟩
              · by_cases hq1 : q = 1
                · subst hq1
                  cases rr with
                  | own h0 _ rs _ =>
                    have z0 := rs.zero
                    subst z0
                    obtain ⟨u, hu, ru⟩ := rs.atI hd
                    exact .inl ⟨_, _, i, u, rfl, rfl, SqL.of h0, hu, fin u (ru.any gg.wl)⟩
                · obtain ⟨p0, vs, q', G, rfl, hq, rs⟩ := rr.seqL
                  obtain ⟨u, G', hu, ru, _⟩ := rs.atQ hd
                  refine .inl ⟨p0, vs, i, u, rfl, rfl, hq, hu, fin u ?_⟩
                  cases hL : r'.isL with
                  | false => exact ((ru.nolist hL).2 0).any gg.wl
                  | true => exact absurd ⟨hL, by omega, rfl⟩ hn
            | tup ds =>
              obtain ⟨p0, vs, rfl, hq, rs⟩ := rr.seqT
              obtain ⟨u, hu, ru⟩ := rs.atI hd
              exact .inr (.inl ⟨p0, vs, i, u, rfl, rfl, hq, hu, fin u (ru.any gg.wl)⟩)
            | _ => cases hd
        · cases ee
      · cases ee
    · cases ee
  · cases ee
@[simp] noncomputable def eRepL (fa fb : Den) : Den := fun ρ => match fa ρ with
  | some (.lst ds, 1, ρ1) => match fb ρ1 with
    | some (.int n, _, ρ2) => if -1000 ≤ n ∧ n ≤ 1000 ∧ ds.length * n.toNat ≤ 1000 then some (.lst (List.replicate n.toNat ds).flatten, 1, ρ2) else none
    | _ => none
  | _ => none
theorem Reps.app {K : PySem.W.Frag} {H : Hp} {w : Wn} {es : List D} {us : List V} (s : Reps K H w .f 0 es us []) : ∀ {ds : List D} {vs : List V}, Reps K H w .f 0 ds vs [] → Reps K H w .f 0 (ds ++ es) (vs ++ us) []
  | ds, vs, r => by
    generalize hF : ([] : List Addr) = F at r
    cases r with
    | nil => rw [← hF]; exact s
    | @cons _ d v ds vs F G r t _ =>
      have h1 : F = [] := r.zero
      have h2 : G = [] := t.zero
      subst h1 h2
      exact .cons (F := []) (G := []) r (Reps.app s t) (fun _ z => nomatch z)
theorem Reps.times {K : PySem.W.Frag} {H : Hp} {w : Wn} {ds : List D} {vs : List V} (r : Reps K H w .f 0 ds vs []) : ∀ n : Nat, Reps K H w .f 0 (List.replicate n ds).flatten (List.replicate n vs).flatten []
  | 0 => .nil
  | n + 1 => by
    rw [List.replicate_succ, List.replicate_succ, List.flatten_cons, List.flatten_cons]
    exact Reps.app (Reps.times r n) r
theorem pd_repL (ha : PD X a fa) (hb : PD X b fb) : PD X (.BinOp a .Mult b pos) (eRepL fa fb) := PE.imp (pe_op op_rep ha hb) fun σ H Q hh0 => by
  obtain ⟨ρ, w, t, r', q, ρ', gd, ee, k⟩ := hh0
  unfold eRepL at ee
  split at ee
  · rename_i ds ρ1 h1
    split at ee
    · rename_i n q2 ρ2 h2
      split at ee
      · rename_i hn
        cases ee
        refine seq2 gd h1 h2 fun u u' H2 w2 F1 F2 g2 go r1 r2 => ?_
        have hu' := intOf r2
        subst hu'
        cases r1 with
        | @own _ l vs _ F hl hw rs ne =>
          have hF := rs.zero
          subst hF
          have gg := g2.drop (t' := t)
          have rs' : Reps X.K H2 (dropT t w2) .f 0 ds vs [] := Reps.go g2.wl (fun a x h n => ⟨sm h, dropT_none n⟩) rs (fun _ z => nomatch z)
          refine ⟨l, n, vs, rfl, rfl, hl, by omega, by omega, ?_, fun p hp => ?_⟩
          · rw [← rs.length]; exact le1000 hn.2.2
          · obtain ⟨a1, a2, a3⟩ := alloc gg hp (rs'.times n.toNat)
            exact k _ _ _ _ a1 ((go.drop gd.wt).trans a2) a3
      · cases ee
    · cases ee
  · cases ee
end
end L3
set_option Elab.async false
set_option linter.all false
set_option maxRecDepth 100000
namespace L3
open PySem PySem.Spec PyProof.Rows L2
theorem Reps.row {K : PySem.W.Frag} {H : Hp} {w : Wn} {o : Ow} (wl : WL K w H) : ∀ {rows : List D} {vs : List V} {F : List Addr} {i : Nat} {row : List D}, Reps K H w o 1 rows vs F → rows[i]? = some (.lst row) →
    ∃ b ws, vs[i]? = some (.ref b) ∧ H b = some (.lst ws) ∧ w b = some o ∧ b ∈ F ∧ Reps K H w .f 0 row ws [] ∧
      ∀ row' ws', Reps K H w .f 0 row' ws' [] → Reps K (upd H b (.lst ws')) w o 1 (rows.set i (.lst row')) vs F
  | _, _, _, _, _, .nil, e => by simp at e
  | _, _, _, 0, row, .cons r s ne, e => by
    simp at e
    subst e
    cases r with
    | @own _ b ws _ F' hb hw rs nb =>
      have hF := rs.zero
      subst hF
      refine ⟨b, ws, rfl, hb, hw, by simp, rs.any wl, fun row' ws' r' => ?_⟩
      have nn : ∀ a, w a = none → a ≠ b := fun a e z => by subst z; rw [hw] at e; cases e
      have st : Stab H w (upd H b (.lst ws')) w := fun a x h n => ⟨sm (by rw [upd_ne (nn a n)]; exact h), n⟩
      refine .cons (.own upd_same hw (Reps.go wl st r' (fun _ z => nomatch z)) (fun z => nomatch z)) (Reps.go wl st s fun a m => ⟨upd_ne fun z => ?_, s.owns a m⟩) ne
      subst z
      exact ne a (by simp) m
  | _, _, _, i + 1, row, .cons (d := d) (v := v) (F := F) (G := G) r s ne, e => by
    obtain ⟨b, ws, h1, h2, h3, h4, h5, mk⟩ := Reps.row wl (i := i) (row := row) s (by simpa using e)
    refine ⟨b, ws, by simpa using h1, h2, h3, List.mem_append_right _ h4, h5, fun row' ws' r' => ?_⟩
    have nn : ∀ a, w a = none → a ≠ b := fun a e z => by subst z; rw [h3] at e; cases e
    have st : Stab H w (upd H b (.lst ws')) w := fun a x h n => ⟨sm (by rw [upd_ne (nn a n)]; exact h), n⟩
    refine .cons (Rep.go wl st r fun a m => ⟨upd_ne fun z => ?_, r.owns a m⟩) (mk row' ws' r') ne
    subst z
    exact ne a m h4
theorem Good.mut2 {K : PySem.W.Frag} {ρ : Rho} {σ : St} {H : Hp} {w : Wn} {t i m : Nat} {rows row : List D} (g : Good K ρ σ H w t) (e : ρ[i]? = some (some (.lst rows, 2))) (em : rows[m]? = some (.lst row)) :
    ∃ l vs b ws, σ[i]? = some (some (.ref l)) ∧ SqL K H l vs ∧ vs.length = rows.length ∧ vs[m]? = some (.ref b) ∧ H b = some (.lst ws) ∧ Reps K H w .f 0 row ws [] ∧ ∀ row' ws', Reps K H w .f 0 row' ws' [] →
      Good K (ρ.set i (some (.lst (rows.set m (.lst row')), 2))) σ (upd H b (.lst ws')) w t ∧ Go H w (upd H b (.lst ws')) w := by
  obtain ⟨v, F, h1, h2⟩ := g.slot i _ _ e
  cases h2 with
  | @own _ l vs _ F' hl hw rs nl =>
    obtain ⟨b, ws, b1, b2, b3, b4, b5, mk⟩ := Reps.row g.wl rs em
    have hbl : l ≠ b := fun z => by subst z; exact nl b4
    refine ⟨l, vs, b, ws, h1, SqL.of hl, rs.length.symm, b1, b2, b5, fun row' ws' r' => ?_⟩
    have nl' : ∀ a o, w a = some o → o ≠ .s i → a ≠ b := fun a o e n z => by subst z; rw [b3] at e; exact n (Option.some.inj e).symm
    have nn : ∀ a, w a = none → a ≠ b := fun a e z => by subst z; rw [b3] at e; cases e
    have st : Stab H w (upd H b (.lst ws')) w := fun a x h n => ⟨sm (by rw [upd_ne (nn a n)]; exact h), n⟩
    refine ⟨⟨⟨fun a o h => ?_, g.wl.tb.upd rfl (.inr (g.wl b _ b3))⟩, g.ws, g.wt, by rw [List.length_set]; exact g.len, fun j d' q' e' => ?_⟩, ⟨st, fun a o h n => ⟨upd_ne (nl' a o h (n i)), h⟩⟩⟩
    · by_cases z : a = b
      · subst z; exact ⟨_, upd_same⟩
      · obtain ⟨us, q⟩ := g.wl a o h
        exact ⟨us, by rw [upd_ne z]; exact q⟩
    · by_cases hj : i = j
      · subst hj
        rw [List.getElem?_set_self (List.getElem?_eq_some_iff.mp e).1] at e'
        cases e'
        exact ⟨_, _, h1, .own (by rw [upd_ne hbl]; exact hl) hw (mk row' ws' r') nl⟩
      · rw [List.getElem?_set_ne hj] at e'
        obtain ⟨v', F', h1', h2'⟩ := g.slot j d' q' e'
        exact ⟨v', F', h1', Rep.go g.wl st h2' fun a m => ⟨upd_ne (nl' a _ (h2'.owns a m) (fun z => hj (by cases z; rfl))), h2'.owns a m⟩⟩
theorem Reps.set0 {K : PySem.W.Frag} {H : Hp} {w : Wn} {d : D} {v : V} (rv : Rep K H w .f 0 d v []) : ∀ {ds : List D} {vs : List V} (i : Nat), Reps K H w .f 0 ds vs [] → Reps K H w .f 0 (ds.set i d) (vs.set i v) []
  | ds, vs, i, r => by
    generalize hF : ([] : List Addr) = F at r
    cases r with
    | nil => rw [← hF]; exact .nil
    | @cons _ d' v' ds vs F G r s _ =>
      have h1 : F = [] := r.zero
      have h2 : G = [] := s.zero
      subst h1 h2
      cases i with
      | zero => exact .cons (F := []) (G := []) rv s (fun _ z => nomatch z)
      | succ j => exact .cons (F := []) (G := []) r (Reps.set0 rv j s) (fun _ z => nomatch z)
noncomputable abbrev DenQ := Rho → Option Int
noncomputable def tQ (K : PySem.W.Frag) (f : DenQ) : TE := fun σ H Q => ∃ ρ w t i, Good K ρ σ H w t ∧ f ρ = some i ∧ Q (.int i) H
noncomputable abbrev PQ (X : Cx) (e : Expr) (f : DenQ) : Prop := PE X e (tQ X.K f)
@[simp] noncomputable def qVar (n : Nat) : DenQ := fun ρ => match ρ[n]? with
  | some (some (.int i, _)) => some i
  | _ => none
@[simp] noncomputable def qIx (n : Nat) (f : DenQ) : DenQ := fun ρ => match f ρ with
  | some i => match ρ[n]? with
    | some (some (x, _)) => match atD x i with
      | some (.int j) => some j
      | _ => none
    | _ => none
  | none => none
section
variable {X : Cx} {a b c e : Expr} {es : List Expr} {fa fb fc f : Den} {qa qb : DenQ} {g : DenA} {pos p p1 p2 cpos apos : Pos}
theorem pq_var {n : Nat} {x : Str} (h : PE X (.Name x p1) (tVar n)) : PQ X (.Name x p1) (qVar n) := PE.imp h fun σ H Q hh0 => by
  obtain ⟨ρ, w, t, i, gd, ee, k⟩ := hh0
  unfold qVar at ee
  split at ee
  · rename_i j q e0
    cases ee
    obtain ⟨v, F, h1, h2⟩ := gd.slot n _ _ e0
    rw [intOf h2] at h1
    exact ⟨_, h1, k⟩
  · cases ee
theorem pq_ix {n : Nat} {x : Str} (h : PE X (.Name x p1) (tVar n)) (hb : PQ X b qb) (hs : PlainIx b := by exact fun _ _ => rfl) : PQ X (.Subscript (.Name x p1) b pos) (qIx n qb) := PE.imp (pe_ix ix_seq h hb hs) fun σ H Q hh0 => by
  obtain ⟨ρ, w, t, i, gd, ee, k⟩ := hh0
  unfold qIx at ee
  split at ee
  · rename_i i0 h0
    split at ee
    · rename_i x q e0
      split at ee
      · rename_i j hj
        cases ee
        obtain ⟨v, F, h1, h2⟩ := gd.slot n _ _ e0
        refine ⟨v, h1, ρ, w, t, i0, gd, h0, ?_⟩
        cases x with
        | lst ds =>
          obtain ⟨p0, vs, q', G, rfl, hq, rs⟩ := h2.seqL
          obtain ⟨u, G', hu, ru, _⟩ := rs.atQ hj
          rw [intOf ru] at hu
          exact .inl ⟨p0, vs, i0, _, rfl, rfl, hq, hu, k⟩
        | tup ds =>
          obtain ⟨p0, vs, rfl, hq, rs⟩ := h2.seqT
          obtain ⟨u, hu, ru⟩ := rs.atI hj
          rw [intOf ru] at hu
          exact .inr (.inl ⟨p0, vs, i0, _, rfl, rfl, hq, hu, k⟩)
        | _ => cases hj
      · cases ee
    · cases ee
  · cases ee
@[simp] noncomputable def sSet2 (n : Nat) (qi qj : DenQ) (fe : Den) : DenS := fun ρ => match fe ρ with
  | some (d, _, ρ1) => match qi ρ1, qj ρ1, ρ1[n]? with
    | some i, some j, some (some (.lst rows, 2)) => match ixN rows.length i with
      | some m => match rows[m]? with
        | some (.lst row) => match ixN row.length j with
          | some k => some (.nx (ρ1.set n (some (.lst (rows.set m (.lst (row.set k d))), 2))))
          | none => none
        | _ => none
      | none => none
    | _, _, _ => none
  | none => none
theorem pds_set2 {n : Nat} {x : Str} (h : PE X (.Name x p1) (tVar n)) (ha : PQ X a qa) (hb : PQ X b qb) (he : PD X e f) (hi : PlainIx a := by exact fun _ _ => rfl)
    (hasg : ∀ v, assign (.Subscript (.Subscript (.Name x p1) a p2) b p) X.env v = (do
      let ov ← holding [v] (eval (.Subscript (.Name x p1) a p2) X.env)
      let iv ← holding [v, ov] (eval b X.env)
      standAt p
      holding [v, ov, iv] (setItem ov iv v)
      release [v, ov, iv] []) := by exact fun _ => rfl)
    (hs : swapsWithSole [.Subscript (.Subscript (.Name x p1) a p2) b p] e pos.line X.env = pure false := by rfl) :
    PDS X (.Assign [.Subscript (.Subscript (.Name x p1) a p2) b p] e pos) (sSet2 n qa qb f) := by
  refine PS.imp (ps_asg he (pg_sub (pe_ix ix_seq h ha hi) hb set_list hasg) hs) fun D σ H ⟨ρ, w, o, gd, ee, k⟩ => ?_
  unfold sSet2 at ee
  split at ee
  · rename_i d q0 ρ1 h1
    split at ee
    · rename_i i j rows hi hj er
      split at ee
      · rename_i m hm
        split at ee
        · rename_i row erow
          split at ee
          · rename_i kk hk
            cases ee
            refine ⟨ρ, w, 0, d, q0, ρ1, gd, h1, fun v H1 w1 F1 g1 go1 r1 => ?_⟩
            have rv := r1.drop (o := .f) (Nat.le_refl 0)
            have gg := g1.drop (t' := 0)
            obtain ⟨l, vs, b0, ws, m1, m2, m3, m4, m5, m6, mk⟩ := gg.mut2 er erow
            refine ⟨_, m1, ρ1, dropT 0 w1, 0, i, gg, hi, .inl ⟨l, vs, i, .ref b0, rfl, rfl, m2, ?_, ρ1, dropT 0 w1, 0, j, gg, hj, b0, ws, j, kk, rfl, rfl, m5, ?_, ?_⟩⟩
            · unfold atI; rw [m3, hm]; exact m4
            · rw [← m6.length]; exact hk
            · obtain ⟨n1, n2⟩ := mk _ _ (m6.set0 rv kk)
              exact k _ _ _ rfl n1 ((go1.drop gd.wt).trans n2)
          · cases ee
        · cases ee
      · cases ee
    · cases ee
  · cases ee
end
end L3
set_option Elab.async false
set_option linter.all false
set_option maxRecDepth 100000
namespace L3
open PySem PySem.Spec PyProof.Rows L2
section
variable {es rest : List Expr} {a b c e : Expr} {pos : Pos} {env : Env}
theorem se_BinOp {op} : starEach (.BinOp a op b pos :: rest) env = (false, eval (.BinOp a op b pos) env) :: starEach rest env := by simp only [starEach]
theorem se_IfExp : starEach (.IfExp a b c pos :: rest) env = (false, eval (.IfExp a b c pos) env) :: starEach rest env := by simp only [starEach]
theorem se_ListComp {g sc} : starEach (.ListComp a g sc pos :: rest) env = (false, eval (.ListComp a g sc pos) env) :: starEach rest env := by simp only [starEach]
theorem se_Call {k} : starEach (.Call a es k pos :: rest) env = (false, eval (.Call a es k pos) env) :: starEach rest env := by simp only [starEach]
theorem se_Constant {v k} : starEach (.Constant v k pos :: rest) env = (false, eval (.Constant v k pos) env) :: starEach rest env := by simp only [starEach]
theorem se_Subscript : starEach (.Subscript a b pos :: rest) env = (false, eval (.Subscript a b pos) env) :: starEach rest env := by simp only [starEach]
theorem se_Name {x} : starEach (.Name x pos :: rest) env = (false, eval (.Name x pos) env) :: starEach rest env := by simp only [starEach]
theorem se_List : starEach (.List es pos :: rest) env = (false, eval (.List es pos) env) :: starEach rest env := by simp only [starEach]
theorem se_Lambda {ar sc} : starEach (.Lambda ar b sc pos :: rest) env = (false, eval (.Lambda ar b sc pos) env) :: starEach rest env := by simp only [starEach]
end
noncomputable def At (K : PySem.W.Frag) (mg : Str → Option Value) (x : Str) (st : Stmt) (ps : List Str) : Prop :=
  ∃ f fd, Fun K x x st f fd ∧ mg x = some (.ref f) ∧ Binds K fd ps []
noncomputable def Cal (P : Program) (w : World) (K : PySem.W.Frag) (mg : Str → Option Value) (base : Heap) (k : Nat) (x : Str) (n : Nat) (F : List D → Option (D × Nat)) : Prop :=
  ∃ f fd ps, FnOk P w K mg base CX0 k f fd ps (spD K n F) ∧ mg x = some (.ref f) ∧ PySem.W.keepIn K (.ref f) = true ∧ Binds K fd ps []
theorem Cal.mk {P : Program} {w : World} {K : PySem.W.Frag} {mg : Str → Option Value} {base : Heap} {k : Nat} {x : Str} {st : Stmt} {N ps : List Str} {body : DenS} (a : At K mg x st ps) (S : FnScope N ps (defScope st))
    (h : ∀ (f : Addr) (cdv : Value) (A : Around) (outer : List Env) (s : Shared) (H : Hp) (E : XK), Room k (A.deeper (envOfC x (defScope st) s.heap.objs.size f cdv)) → PDSs (cxOf CX0 P w K mg base N x (defScope st) f cdv A outer s H E).nox (defBody st) body) :
    Cal P w K mg base (k + 1) x ps.length (fnD N.length body) := by
  obtain ⟨f, fd, F, m, b⟩ := a
  exact ⟨f, fd, ps, fn_ok F S (h f), m, F.kp, b⟩
section
variable {X : Cx} {a b c e : Expr} {es rest : List Expr} {fa fb fc f : Den} {g : DenA} {pos p p1 p2 cpos apos : Pos}
theorem pd_callC {j k n : Nat} {x : Str} {F : List D → Option (D × Nat)} (C : Cal X.prog X.w X.K X.mg X.base k x n F) (hr : Room j X.A) (hk : k ≤ j) (ha : PDA X (e :: es) g)
    (hg : Gl X x := by rfl) (hdb : (x == ("__debug__" : Str)) = false := by decide) (he : starEach (e :: es) X.env = (false, eval e X.env) :: starEach es X.env := by rfl) (hpl : (backTo pos (starEach es X.env)).any (·.1) = false := by rfl) :
    PD X (.Call (.Name x p) (e :: es) [] pos) (eCall F n g) := by
  obtain ⟨f, fd, ps, G, hm, hkp, hb⟩ := C
  exact pd_callF G (hr.mono hk) hm hkp hb pass0 ha hg hdb he hpl
end
theorem law_sp {K : PySem.W.Frag} {F : List D → Option (D × Nat)} (h : ∀ ns : List Int, ns.length ≤ 63 → ∃ q, F [.lst (ns.map D.int)] = some (.bl true, q)) {H : Hp} {a : Addr} {ns : List Int} (hl : ns.length ≤ 63) (hS : SqL K H a (ns.map V.int)) (tb : TB K H) {E : XK} :
    spD K 1 F [.ref a] H (fun v _ => v = .bl true) E := by
  obtain ⟨q, e⟩ := h ns hl
  have r : Rep K H (fun _ => none) .f 0 (.lst (ns.map D.int)) (.ref a) [] := by
    rcases SqL.cases hS with z | z
    · exact .shr z rfl (reps_ints ns)
    · exact .kl z (reps_ints ns)
  exact ⟨rfl, [.lst (ns.map D.int)], fun _ => none, .bl true, q, (fun a o z => nomatch z), ⟨(fun a o z => nomatch z), tb⟩, .cons (F := []) (G := []) r .nil (fun _ z => nomatch z), e, fun v H' w' Fo _ _ rr => by cases rr; rfl⟩
theorem law_ok {P : Program} {w : World} {K : PySem.W.Frag} {mg : Str → Option Value} {base : Heap} {k : Nat} {x : Str} {st : Stmt} {N ps : List Str} {body : DenS} {f : Addr} {fd : FuncData} (F : Fun K x x st f fd) (S : FnScope N ps (defScope st))
    (h : ∀ (f : Addr) (cdv : Value) (A : Around) (outer : List Env) (s : Shared) (H : Hp) (E : XK), Room k (A.deeper (envOfC x (defScope st) s.heap.objs.size f cdv)) → PDSs (cxOf CX0 P w K mg base N x (defScope st) f cdv A outer s H E).nox (defBody st) body) :
    FnOk P w K mg base CX0 (k + 1) f fd ps (spD K ps.length (fnD N.length body)) := fn_ok F S (h f)
end L3
set_option Elab.async false
set_option linter.all false
set_option maxRecDepth 100000
namespace L3
open PySem PySem.Spec PyProof.Rows L2
end L3
set_option Elab.async false
set_option linter.all false
set_option maxRecDepth 100000
namespace L3
open PySem PySem.Spec PyProof.Rows L2
noncomputable abbrev DenPs := List D → Rho → Option Rho
end L3
set_option Elab.async false
set_option linter.all false
set_option maxRecDepth 100000
namespace L3
open PySem PySem.Spec PyProof.Rows L2
end L3
set_option Elab.async false
set_option linter.all false
set_option maxRecDepth 100000
namespace L3
open PySem PySem.Spec PyProof.Rows L2
end L3
set_option Elab.async false
set_option linter.all false
set_option maxRecDepth 100000
namespace L3
open PySem PySem.Spec PyProof.Rows L2
end L3
set_option Elab.async false
set_option linter.all false
set_option maxRecDepth 100000
namespace L3
open PySem PySem.Spec PyProof.Rows L2
end L3
set_option Elab.async false
set_option linter.all false
set_option maxRecDepth 100000
namespace L3
open PySem PySem.Spec PyProof.Rows L2
section
variable {X : Cx} {a b c e : Expr} {es : List Expr} {fa fb fc f : Den} {ga gb gc : DenT} {g : DenA} {qa qb : DenQ} {s : DenS} {pos p p1 p2 cpos apos : Pos}
noncomputable def rCatL (K : PySem.W.Frag) : R2 := fun x y H Q => ∃ l b xs zs, x = .ref l ∧ y = .ref b ∧ SqL K H l xs ∧ SqL K H b zs ∧ xs.length + zs.length ≤ sizeLine ∧ ∀ p, H p = none → Q (.ref p) (upd H p (.lst (xs ++ zs)))
theorem op_catL : OpR X (binaryOp .Add) (rCatL X.K) := by
  intro pins s σ H x y v u Q I rx ry h
  obtain ⟨l, b, xs, zs, rfl, rfl, hH, hB, hz, q⟩ := h
  cases rx
  cases ry
  obtain ⟨its, r, pl, z⟩ := I.list hH
  obtain ⟨its2, r2, pl2, z2⟩ := I.list hB
  obtain ⟨⟨cls, dd, data, sl⟩, n, ho, hc, _, hd⟩ := pl
  obtain ⟨⟨cls2, dd2, data2, sl2⟩, n2, ho2, hc2, _, hd2⟩ := pl2
  simp only at hc hd hc2 hd2
  subst hc hd hc2 hd2
  have l1 := r.length
  have l2 := r2.length
  refine concat_meets ⟨_, ho, rfl⟩ ⟨_, ho2, rfl⟩ noFill_list_add seq_list_add PySem.F.slot_list_add PySem.F.entry_list_add (PySem.F.args_list_add_2 _ _) (list_addW l b its.toArray its2.toArray n n2 dd dd2 sl sl2 (by rw [List.size_toArray, List.size_toArray, ← l1, ← l2]; exact hz)) ⟨ho, ho2, ?_⟩
  have e : its.toArray ++ its2.toArray = (its ++ its2).toArray := by simp
  rw [e]
  exact ⟨.ref _, _, I.lnew (t' := s.toks) (r.append r2) (by rw [List.length_append]; omega), rfl, q _ I.fresh⟩
end
end L3
set_option Elab.async false
set_option linter.all false
set_option maxRecDepth 100000
namespace L3
open PySem PySem.Spec PyProof.Rows L2
end L3
set_option Elab.async false
set_option linter.all false
set_option maxRecDepth 100000
namespace L3
open PySem PySem.Spec PyProof.Rows L2
end L3
set_option Elab.async false
set_option linter.all false
set_option maxRecDepth 100000
namespace L3
open PySem PySem.Spec PyProof.Rows PySem.W L2
structure Fly (P : Program) (w : World) (outer : List Env) (H : Hp) (s : Shared) (a C t : Addr) (B : Heap) (H' : Hp) (s' : Shared) : Prop where
  os : s'.os = s.os
  bare : AllBare s'.gens
  un : Un (frs outer) [] H H' s.heap s'.heap
  hok : HOk P w H' s'.heap
  fl : Heap.FlyingW B outer a (.ref C) (.ref t) s'.heap
  old : ∀ b o, s.heap.get? b = some o → H b = none → b ∉ frs outer → B.get? b = some o
  oldT : ∀ b o, s.heap.get? b = some o → b ∉ frs outer → ∃ o', B.get? b = some o'
  trk : ∀ b u o, H' b = some u → s'.heap.get? b = some o → B.get? b = some o
  free : H' a = none
end L3
set_option Elab.async false
set_option linter.all false
set_option maxRecDepth 100000
namespace L3
open PySem PySem.Spec PyProof.Rows PySem.W L2
noncomputable abbrev DenX := Rho → Option Str
end L3
set_option Elab.async false
set_option linter.all false
set_option maxRecDepth 100000
namespace L3
open PySem PySem.Spec PyProof.Rows PySem.W L2
end L3
set_option Elab.async false
set_option linter.all false
set_option maxRecDepth 100000
namespace L3
open PySem PySem.Spec PyProof.Rows PySem.W L2
theorem Good.grow {K : PySem.W.Frag} {ρ : Rho} {σ : St} {H H' : Hp} {w : Wn} {t : Nat} (g : Good K ρ σ H w t) (h : ∀ b o, H b = some o → Sm o (H' b)) (tb : TB K H') : Good K ρ σ H' w t ∧ Go H w H' w := by
  have st : Stab H w H' w := fun a x e n => ⟨h a x e, n⟩
  have kp : ∀ a o, w a = some o → H' a = H a := fun a o e => by
    obtain ⟨vs, q⟩ := g.wl a o e
    rw [q, (h a _ q).eq rfl]
  refine ⟨⟨⟨fun a o e => ?_, tb⟩, g.ws, g.wt, g.len, fun i d q e => ?_⟩, st, fun a o e _ => ⟨kp a o e, e⟩⟩
  · obtain ⟨vs, q⟩ := g.wl a o e
    exact ⟨vs, (h a _ q).eq rfl⟩
  · obtain ⟨v, F, h1, h2⟩ := g.slot i d q e
    exact ⟨v, F, h1, Rep.go g.wl st h2 fun a m => ⟨kp a _ (h2.owns a m), h2.owns a m⟩⟩
end L3
set_option Elab.async false
set_option linter.all false
set_option maxRecDepth 100000
namespace L3
open PySem PySem.Spec PyProof.Rows PySem.W L2 PySem.SeqAt
end L3
set_option Elab.async false
set_option linter.all false
set_option maxRecDepth 100000
namespace L3
open PySem PySem.Spec PyProof.Rows L2
end L3
set_option Elab.async false
set_option linter.all false
set_option maxRecDepth 100000
namespace L3
open PySem PySem.Spec PyProof.Rows PySem.W L2
end L3
set_option Elab.async false
set_option linter.all false
set_option maxRecDepth 100000
namespace L3
open PySem PySem.Spec PyProof.Rows PySem.W L2
noncomputable abbrev DenY := Rho → Option (Str × Rho)
noncomputable def CE (Y : Cx) (pins : List (Addr × Obj)) (σ : St) (H : Hp) (w : Wn) (nm : Str) (ρ1 : Rho) (ev : Value) (s' : Shared) : Prop :=
  ∃ s1 H1 w1 a C t B H', ev = .ref a ∧ Inv Y.nox pins σ H1 s1 ∧ Good Y.K ρ1 σ H1 w1 0 ∧ Go H w H1 w1 ∧ Fly Y.prog Y.w Y.stack H1 s1 a C t B H' s' ∧ nsIn Y.K mainGlobals nm = some (some (.ref C)) ∧ (∀ b o, H1 b = some o → Sm o (H' b)) ∧ TB Y.K H'
end L3
set_option Elab.async false
set_option linter.all false
set_option maxRecDepth 100000
namespace L3
open PySem PySem.Spec PyProof.Rows PySem.W L2
noncomputable def spO (K : PySem.W.Frag) (n : Nat) (ob : D) (G : List D → Option (D × Nat)) : Sp := fun vs H Q _ => vs.length = n ∧ ∃ ds w r q, (∀ a o, w a = some o → o = .f) ∧ WL K w H ∧ Reps K H w .f 0 ds vs [] ∧ (∃ v, Rep K H w .f 0 ob v []) ∧ G ds = some (r, q) ∧
  ∀ v H' w' Fo, Go H w H' w' → WL K w' H' → Rep K H' w' (.t 0) q r v Fo → Q v H'
noncomputable def CalO (P : Program) (w : World) (K : PySem.W.Frag) (mg : Str → Option Value) (base : Heap) (k : Nat) (ob : D) (n : Nat) (G : List D → Option (D × Nat)) : Prop :=
  ∃ f fo vs ds fd ps, ob = .ob f fo vs ds ∧ fo.data = .func fd ∧ FnOk P w K mg base CX0 k f fd ps (spO K n ob G) ∧ ∀ us : List Value, us.length = ps.length → bindArgs fd ⟨us, []⟩ = pure (ps.zip us)
open Classical in
noncomputable def eCallO (ob : D) (G : List D → Option (D × Nat)) (i n : Nat) (g : DenA) : Den := fun ρ => if ρ[i]? = some (some (ob, 9)) then eCall G n g ρ else none
section
variable {X : Cx} {e : Expr} {es : List Expr} {g : DenA} {pos p : Pos}
theorem pd_callO {i j k n : Nat} {x : Str} {ob : D} {G : List D → Option (D × Nat)} (h : PE X (.Name x p) (tVar i)) (C : CalO X.prog X.w X.K X.mg X.base k ob n G) (hr : Room j X.A) (hk : k ≤ j) (ha : PDA X (e :: es) g)
    (he : starEach (e :: es) X.env = (false, eval e X.env) :: starEach es X.env := by rfl) (hpl : (backTo pos (starEach es X.env)).any (·.1) = false := by rfl) : PD X (.Call (.Name x p) (e :: es) [] pos) (eCallO ob G i n g) := by
  intro pins s σ H Q I hh0
  obtain ⟨ρ, w, t, r', q, ρ', gd, ee, k'⟩ := hh0
  unfold eCallO at ee
  split at ee
  · rename_i hs
    unfold eCall at ee
    split at ee
    · rename_i ds ρ1 h1
      split at ee
      · rename_i hn
        split at ee
        · rename_i r0 q0 h2
          cases ee
          obtain ⟨f, fo, cvs, cds, fd, ps, rfl, hfd, F, hb⟩ := C
          obtain ⟨v, F0, s1, s2⟩ := gd.slot i _ _ hs
          have hrep := s2.nolist rfl
          obtain rfl := hrep.1
          cases s2 with
          | ob a1 a2 a3 a4 =>
          have fnAt : ∀ {H1 : Hp} {s1 : Shared} {σ1 : St} {u : HO}, Inv X pins σ1 H1 s1 → H1 f = some (.frz fo u) → FnAt f s1.heap := fun {H1 s1 σ1 u} I1 e1 => by
            obtain ⟨e2, _⟩ := (show ObjOk X.prog X.w H1 s1.heap _ (.frz _ _) from I1.hok _ _ e1)
            obtain ⟨oc, od, da, sl⟩ := fo
            cases hfd
            exact ⟨_, _, _, _, e2⟩
          refine wpAny_Call_Name_kw (thn (h pins s σ H (fun v' H' => v' = .ref f ∧ H' = H) I ⟨_, s1, rfl, rfl⟩) fun u s1 hh1 => ?_)
          obtain ⟨v', H', I1, rv, e1, e2⟩ := hh1
          subst e1
          obtain rfl : H = H' := e2.symm
          cases rv
          refine callWith_F (fnAt I1 a1) (thn (ha pos pins s1 σ H (fun vs H1 => ∃ w1, Good X.K ρ' σ H1 w1 t ∧ Go H w H1 w1 ∧ Reps X.K H1 w1 .f 0 ds vs []) I1 ⟨ρ, w, t, ds, ρ', gd, h1, fun vs H1 w1 g1 go1 r1 => ⟨w1, g1, go1, r1⟩⟩) fun us s2 hh2 => ?_) he hpl
          obtain ⟨vs, H1, I2, rv2, w1, g1, go1, r1⟩ := hh2
          have rob : Rep X.K H1 w1 .f 0 (.ob f fo cvs cds) (.ref f) [] := Rep.go gd.wl go1.stab (hrep.2 0) (fun _ z => nomatch z)
          obtain ⟨u1, b1⟩ : ∃ u, H1 f = some (.frz fo u) := by
            cases rob with
            | ob b1 _ _ _ => exact ⟨_, b1⟩
          refine ⟨fnAt I2 b1, ?_⟩
          have hsp : spO X.K n (.ob f fo cvs cds) G vs H1 Q E0 := by
            refine ⟨by rw [← r1.length]; exact hn, ds, fun a => (w1 a).map fun _ => Ow.f, r', q, fun a o e => ?_, ⟨fun a o e => ?_, g1.wl.tb⟩, ?_, ⟨.ref f, ?_⟩, h2, fun v H2 w2 Fo go2 wl2 rr => ?_⟩
            · try dsimp only at e
              cases ew : w1 a with
              | none => rw [ew] at e; cases e
              | some o' => rw [ew] at e; cases e; rfl
            · try dsimp only at e
              cases ew : w1 a with
              | none => rw [ew] at e; cases e
              | some o' => exact g1.wl a o' ew
            · exact Reps.freeze (fun a n => by show (w1 a).map _ = _; rw [n]; rfl) r1 (fun _ z => nomatch z)
            · exact Rep.freeze (fun a n => by show (w1 a).map _ = _; rw [n]; rfl) rob (fun _ z => nomatch z)
            · obtain ⟨b1, b2, b3⟩ := back g1 go2 wl2 rr
              exact k' _ _ _ _ b1 (go1.trans b2) b3
          have hl : us.length = ps.length := by rw [← rv2.length]; exact F.len _ _ _ _ hsp
          refine wpAny_call (codeAny_mono (F.run X.A X.stack s2 H1 ⟨us, []⟩ us vs Q E0 (hr.mono hk) I2.env0 (.of_eq (hb us hl)) rv2 hsp) fun r s' hq => ?_)
          cases r with
          | error e => exact False.elim hq
          | ok fl =>
            cases fl with
            | ret u => exact I2.after hq
            | next => exact False.elim hq
            | brk => exact False.elim hq
            | cont => exact False.elim hq
        · cases ee
      · cases ee
    · cases ee
  · cases ee
end
end L3
set_option Elab.async false
set_option linter.all false
set_option maxRecDepth 100000
namespace L3
open PySem PySem.Spec PyProof.Rows PySem.W L2
theorem revLook {x : Str} {u : Value} : ∀ {ps : List Str} {us : List Value} {i : Nat}, ps.Nodup → ps[i]? = some x → us[i]? = some u → (ps.zip us).reverse.lookup x = some u
  | [], _, _, _, h, _ => by simp at h
  | _ :: _, [], _, _, _, h => by simp at h
  | p :: ps, v :: us, 0, nd, h1, h2 => by
    simp at h1 h2
    subst h1
    subst h2
    rw [List.zip_cons_cons, List.reverse_cons, List.lookup_append]
    have : (ps.zip us).reverse.lookup p = none := List.lookup_eq_none_iff.mpr fun q hq => by
      have := (List.of_mem_zip (List.mem_reverse.mp hq)).1
      exact bne_iff_ne.mpr fun z => (List.nodup_cons.mp nd).1 (z ▸ this)
    rw [this]
    simp
  | p :: ps, v :: us, i + 1, nd, h1, h2 => by
    rw [List.zip_cons_cons, List.reverse_cons, List.lookup_append, revLook (i := i) (List.nodup_cons.mp nd).2 (by simpa using h1) (by simpa using h2)]
    rfl
theorem callE {prog : Program} {w : World} {A : Around} {R : Result → Shared → Prop} {s : Shared} {a c : Addr} {args : Args} {o oc : Obj} {fd : FuncData} {body : Expr} {fs : Array Value} {q : Str} {t : Tok} (hroom : A.depth < recursionLimit) (ho : s.heap.get? a = some o)
    (hd' : o.data = .func fd) (hco : fd.scope.isCoroutine = false) (hgen : fd.scope.isGenerator = false) (hbody : fd.body = .expr body) (hc : fd.code = .ref c) (hoc : s.heap.get? c = some oc) (hdc : oc.data = .fields fs) (hq : fs[1]? = some (.str q t))
    (h : wpAny (model prog w) A.in1 (bindArgs fd args) (fun binds s₁ =>
      wpAny (model prog w) A.in1 (newFunctionEnv fd.scope fd.globals fd.closure binds (q ++ ".<locals>.") (some a) fd.code none fd.builtins)
        (fun env s₂ => s₂.heap.NoLimit ∧ codeAny (model prog w) A (.expr body env) R s₂) (fun e s' => R (.error e) s') s₁) (fun e s' => R (.error e) s') s) :
    codeAny (model prog w) A (.call (.ref a) args) R s := by
  refine codeAny_of_tree ?_
  show wpAny _ A.in1 (callAny (.ref a) args) _ _ s
  simp only [callAny]
  refine wpAny_bind (wpAny_load ho ?_)
  simp only [hd', callFunction, hco, hgen, hbody, hc]
  rw [hc] at h
  refine wpAny_bind (m := field (.ref c) 1) (wpAny_field hoc hdc hq (wpAny_bind (wpAny_pure ?_)))
  exact wpAny_bind (wpAny_mono h (fun binds s₁ h₁ => wpAny_bind (wpAny_mono h₁ (fun env s₂ h₂ => wpAny_bind (wpAny_enterFrame h₂.1 hroom
    (wpAny_pure (And.intro rfl h₂.2)))) fun _ _ h' => h')) fun _ _ h' => h')
noncomputable def cxL (P : Program) (w : World) (K : PySem.W.Frag) (mg : Str → Option Value) (base : Heap) (N : List Str) (qual : Str) (scope : Scope) (f : Addr) (cd : Value) (cl : List (Str × Addr)) (A : Around) (outer : List Env) (s : Shared) (H : Hp) : Cx where
  prog := P
  w := w
  K := K
  mg := mg
  base := base
  A := A.deeper (envX qual scope s.heap.objs.size f cd cl)
  N := N
  s₀ := s
  H₀ := H
  env := envX qual scope s.heap.objs.size f cd cl
  outer := outer
  stack := envX qual scope s.heap.objs.size f cd cl :: outer
  ex := []
  calm := true
  fn := fun _ => false
  pn := []
  xe := fun _ _ => False
structure LamScope (ps cs : List Str) (sc : Scope) : Prop where
  kind : sc.kind = .function
  co : sc.isCoroutine = false
  gen : sc.isGenerator = false
  nd : (ps ++ cs).Nodup
  par : ∀ x ∈ ps, sc.names.lookup x = some .local
  cap : ∀ x ∈ cs, sc.names.lookup x = some .free
  nocell : ∀ y ∈ sc.names, y.2 ≠ .cell
  free : ∀ x, sc.names.lookup x = some .free → x ∈ cs
structure CellsOk (base : Heap) (cl : List (Str × Addr)) (cs : List Str) (cvs : List V) : Prop where
  len : cvs.length = cs.length
  at' : ∀ (i : Nat) (x : Str) (v : V), cs[i]? = some x → cvs[i]? = some v → ∃ c u, cl.lookup x = some c ∧ RelV v u ∧ base.IsCell c (some u)
  inj : ∀ x y c, cl.lookup x = some c → cl.lookup y = some c → x = y
  all : ∀ x c, cl.lookup x = some c → ∃ v, base.IsCell c v
theorem lam_start {P : Program} {w : World} {K : PySem.W.Frag} {mg : Str → Option Value} {base : Heap} {ps cs : List Str} {qual : Str} {scope : Scope} {f : Addr} {cd : Value} {cl : List (Str × Addr)} {A : Around} {outer : List Env} {s : Shared} {h1 : Heap} {tk : Nat} {H : Hp} {us : List Value} {vs cvs : List V}
    (S : LamScope ps cs scope) (C : CellsOk base cl cs cvs) (hd : A.handled = none) (e0 : Env0 P w K mg base A outer s H) (hl : vs.length = ps.length) (r : Vals vs us)
    (hns : h1.Ns s.heap.objs.size (fun x => (ps.zip us).reverse.lookup x)) (hk : ∀ b o, s.heap.get? b = some o → h1.get? b = some o) :
    Inv (cxL P w K mg base (ps ++ cs) qual scope f cd cl A outer s H) [] (L2.start (ps ++ cs) (vs ++ cvs)) H { s with heap := h1, toks := tk } := by
  have noA : ∀ b : Addr, b ∉ (cxL P w K mg base (ps ++ cs) qual scope f cd cl A outer s H).ex := fun b z => absurd (show b ∈ ([] : List Addr) from z) (by simp)
  refine ⟨⟨e0.mod, S.kind, rfl, rfl, Nat.le_refl _, C.inj, fun y hy => ?_, (fun y c z => by cases z), fun _ => hd, Around.frames_deeper e0.frames, .inr ⟨rfl, rfl⟩, fun b z => absurd z (noA b), e0.bs, e0.bsz, fun b _ _ => noA b, fun b z => absurd z (noA b), e0.funs, e0.frf⟩,
    rfl, e0.bare, Un.kept hk, ⟨_, hns, fun i y v h1 h2 h3 => ?_⟩, fun y c h => ?_, e0.hok.fresh (Nat.le_refl _), fun y c h => ?_, fun p hp => absurd (show p ∈ ([] : List (Addr × Obj)) from hp) (by simp), e0.hok.kept hk, ?_⟩
  · have hy : scope.names.lookup y = some .cell ∨ scope.names.lookup y = some .free := hy
    rcases hy with hy | hy
    · exact absurd rfl (S.nocell _ (PySem.mem_of_lookup hy))
    · obtain ⟨i, hi⟩ := List.mem_iff_getElem?.mp (S.free y hy)
      have : i < cvs.length := by rw [C.len]; exact (List.getElem?_eq_some_iff.mp hi).1
      obtain ⟨c, u, e, _⟩ := C.at' i y _ hi (List.getElem?_eq_getElem this)
      exact ⟨c, e⟩
  · have hN : (ps ++ cs)[i]? = some y := h1
    have h2' : (vs ++ cvs)[i]? = some v := by
      unfold L2.start at h2
      have hl2 : (vs ++ cvs).length = (ps ++ cs).length := by rw [List.length_append, List.length_append, hl, C.len]
      rw [hl2, Nat.sub_self, List.replicate_zero, List.append_nil, List.getElem?_map] at h2
      cases e : (vs ++ cvs)[i]? with
      | none => rw [e] at h2; cases h2
      | some a => rw [e] at h2; cases h2; rfl
    by_cases hi : i < ps.length
    · rw [List.getElem?_append_left hi] at hN
      rw [List.getElem?_append_left (by rw [hl]; exact hi)] at h2'
      obtain ⟨u, hu, rv⟩ := r.get h2'
      exact ⟨u, rv, .inl ⟨S.par y (List.mem_of_getElem? hN), revLook (List.nodup_append.mp S.nd).1 hN hu⟩⟩
    · rw [List.getElem?_append_right (Nat.le_of_not_lt hi)] at hN
      rw [List.getElem?_append_right (by rw [hl]; exact Nat.le_of_not_lt hi), hl] at h2'
      obtain ⟨c, u, e, rv, hc⟩ := C.at' _ y v hN h2'
      exact ⟨u, rv, .inr ⟨.inr (S.cap y (List.mem_of_getElem? hN)), c, e, (hc.keeps fun b o e => (e0.bs b o e).1).keeps hk⟩⟩
  · obtain ⟨v, hv⟩ := C.all y c h
    exact ⟨v, (hv.keeps fun b o e => (e0.bs b o e).1).keeps hk⟩
  · obtain ⟨v, o, ho, _⟩ := C.all y c h
    exact (e0.bs c o ho).2
  · unfold L2.start
    show _ = (ps ++ cs).length
    rw [List.length_append, List.length_map, List.length_replicate, List.length_append, List.length_append, hl, C.len]
    omega
noncomputable def lamD (fb : Den) (cds : List D) : List D → Option (D × Nat) := fun ds => match fb (startD (ds ++ cds).length (ds ++ cds)) with
  | some (d, q, _) => some (d, q)
  | none => none
theorem fn_lam {P : Program} {w : World} {K : PySem.W.Frag} {mg : Str → Option Value} {base : Heap} {ps cs : List Str} {nm qual : Str} {params : Arguments} {body : Expr} {scope : Scope} {cl : List (Str × Addr)} {pm ctv : Value} {f c : Addr} {k : Nat} {cvs : List V} {cds : List D} {fb : Den}
    (S : LamScope ps cs scope) (C : CellsOk base cl cs cvs)
    (hbody : ∀ (q : Str) (A : Around) (outer : List Env) (s : Shared) (H : Hp), Room k (A.deeper (envX q scope s.heap.objs.size f (.ref c) cl)) → PD (cxL P w K mg base (ps ++ cs) q scope f (.ref c) cl A outer s H) body fb) :
    FnOk P w K mg base CX0 (k + 1) f (kla_fn nm qual params body scope cl pm (.ref c) ctv) ps (spO K ps.length (.ob f (kla_obj nm qual params body scope cl pm c ctv) cvs cds) (lamD fb cds)) := by
  refine ⟨fun vs H Q E h => h.1, fun A outer s H args us vs Q E hr e0 hb r hsp => ?_⟩
  obtain ⟨hn, ds, wn, r', q', hw, wl, rs, ⟨vo, ro⟩, ee, k'⟩ := hsp
  cases ro with
  | ob a1 a2 a3 a4 =>
  obtain ⟨x1, ⟨fd', x2, x3⟩, fs, q, t, x4, x5⟩ := a3
  cases x2
  cases x3
  obtain ⟨o1, _⟩ := (show ObjOk P w H s.heap _ (.frz _ _) from e0.hok _ _ a1)
  obtain ⟨o2, _⟩ := (show ObjOk P w H s.heap _ (.frz _ _) from e0.hok _ _ a2)
  have lim : s.heap.NoLimit := e0.mod.nolimit.keeps fun b o e => (e0.bs b o e).1
  refine callE hr.depth o1 rfl S.co S.gen rfl rfl o2 x4 x5 (hb _ _ _ _ ?_)
  refine wpAny_newFunctionEnv S.nocell (fun y hy => S.par y.1 (List.of_mem_zip hy).1) (fun h1 hns hsb => ⟨lim.fresh _ hsb, ?_⟩) S.kind
  have hk : ∀ b o, s.heap.get? b = some o → h1.get? b = some o := fun b o e => hsb.extBut b o (Nat.ne_of_lt (Heap.lt_size e)) (Heap.get?_push_of_some _ e)
  show codeAny _ _ (.expr body (envX q scope s.heap.objs.size f (.ref c) cl)) _ _
  have I := lam_start (cd := .ref c) (f := f) (qual := q) (tk := s.toks + (ps.zip us).length) S C hr.hd e0 hn r hns hk
  unfold lamD at ee
  split at ee
  · rename_i d q0 ρ' h1
    cases ee
    have gd : Good K (startD (ds ++ cds).length (ds ++ cds)) (L2.start (ps ++ cs) (vs ++ cvs)) H wn 0 := by
      have e1 : (ds ++ cds).length = (ps ++ cs).length := by rw [List.length_append, List.length_append, rs.length, a4.length, hn, C.len]
      rw [e1]
      refine good_start hw wl ?_
      have app : ∀ {ds : List D} {vs : List V}, Reps K H wn .f 0 ds vs [] → Reps K H wn .f 0 (ds ++ cds) (vs ++ cvs) [] := by
        intro ds
        induction ds with
        | nil => intro vs r; cases r; exact a4
        | cons d ds ih =>
          intro vs r
          generalize hF : ([] : List Addr) = F at r
          cases r with
          | cons r1 r2 ne =>
            obtain rfl := r1.zero
            obtain rfl := r2.zero
            exact .cons (F := []) (G := []) r1 (ih r2) (fun _ z => nomatch z)
      exact app rs
    refine kla_codeExpr (wpAny_mono (hbody q A outer s H (hr.deeper _) [] _ _ H Q I ⟨_, wn, 0, _, _, _, gd, h1, fun v H' w' F g1 go1 r1 => k' v H' w' F go1 g1.wl r1⟩) (fun v s' hh => ?_) fun e s' z => False.elim z)
    obtain ⟨v', H', J, rv, qq⟩ := hh
    exact ⟨v', H', J.os, J.bare, J.base, J.hok, rv, qq⟩
  · cases ee
end L3
set_option Elab.async false
set_option linter.all false
set_option maxRecDepth 100000
namespace L3
open PySem PySem.Spec PyProof.Rows PySem.W L2
structure Lm (K : PySem.W.Frag) (mg : Str → Option Value) (base : Heap) : Prop where
  bm : ∃ bm o, mg "__builtins__" = some (.ref bm) ∧ bm ≠ builtinsNs ∧ base.get? bm = some o ∧ o.cls = .type "module" ∧ o.dict = some builtinsNs ∧ o.data = .plain
  cd : ∀ x ∈ lamNms, ∀ c P, tabIn K x = some (c, P) → CodeHd base c P
theorem among_snoc {pos : Pos} {a b : Int} {c cv : Value} : ∀ (l : List Value), TriplesOk l → codeAmong pos (l ++ [rawInt a, rawInt b, c]) = some cv → codeAmong pos l = some cv ∨ cv = c := by
  intro l h
  fun_induction TriplesOk l with
  | case1 =>
    intro e
    simp only [List.nil_append, rawInt, codeAmong] at e
    split at e
    · cases e; exact .inr rfl
    · cases e
  | case2 a1 t1 a2 t2 v rest ih =>
    intro e
    simp only [List.cons_append, codeAmong] at e ⊢
    split at e
    · rename_i hc
      rw [if_pos hc]
      exact .inl e
    · rename_i hc
      rw [if_neg hc]
      exact ih h e
  | case3 => exact h.elim
theorem TB.grow {K : PySem.W.Frag} {H : Hp} (t : TB K H) {P c : Addr} {ps : Array Value} {a b : Int} {oc : Obj} {u : HO} {fs : Array Value} {q : Str} {tk : Tok} (hP : H P = some (.tbl ps)) (hc : H c = none) (hu : ∀ xs, u ≠ .lst xs) (h1 : oc.data = .fields fs) (h2 : fs[1]? = some (.str q tk)) :
    TB K (L2.upd (L2.upd H P (.tbl (ps ++ #[rawInt a, rawInt b, .ref c]))) c (.frz oc u)) := by
  have hcP : P ≠ c := fun z => by rw [z, hc] at hP; cases hP
  have frz : ∀ d o v, H d = some (.frz o v) → L2.upd (L2.upd H P (.tbl (ps ++ #[rawInt a, rawInt b, .ref c]))) c (.frz oc u) d = some (.frz o v) := fun d o v e => by
    rw [upd_ne (fun z => by rw [z, hc] at e; cases e), upd_ne (fun z => by rw [z, hP] at e; cases e)]
    exact e
  have get : ∀ Q qs, L2.upd (L2.upd H P (.tbl (ps ++ #[rawInt a, rawInt b, .ref c]))) c (.frz oc u) Q = some (.tbl qs) → (Q = P ∧ qs = ps ++ #[rawInt a, rawInt b, .ref c]) ∨ H Q = some (.tbl qs) := fun Q qs e => by
    by_cases h1 : Q = c
    · subst h1; rw [upd_same] at e; cases e
    · rw [upd_ne h1] at e
      by_cases h2 : Q = P
      · subst h2; rw [upd_same] at e; cases e; exact .inl ⟨rfl, rfl⟩
      · rw [upd_ne h2] at e; exact .inr e
  refine ⟨fun Q qs e => ?_, fun Q qs e pos cv hcv => ?_, fun x hx c' P' e => ?_⟩
  · rcases get Q qs e with ⟨_, rfl⟩ | e
    · have := TriplesOk_snoc a b (.ref c) ps.toList (t.tr P ps hP)
      simpa using this
    · exact t.tr Q qs e
  · have old : ∀ Q qs, H Q = some (.tbl qs) → codeAmong pos qs.toList = some cv → ∃ c' oc' u' vs q t, cv = .ref c' ∧ L2.upd (L2.upd H P (.tbl (ps ++ #[rawInt a, rawInt b, .ref c]))) c (.frz oc u) c' = some (.frz oc' u') ∧ oc'.data = .fields vs ∧ vs[1]? = some (.str q t) ∧ ∀ xs, u' ≠ .lst xs := fun Q qs e hcv => by
      obtain ⟨c', oc', u', vs, q', t', g1, g2, g3, g4, g5⟩ := t.cd Q qs e pos cv hcv
      exact ⟨c', oc', u', vs, q', t', g1, frz _ _ _ g2, g3, g4, g5⟩
    rcases get Q qs e with ⟨_, rfl⟩ | e
    · rcases among_snoc (pos := pos) (cv := cv) (c := .ref c) (a := a) (b := b) ps.toList (t.tr P ps hP) (by simpa using hcv) with z | z
      · exact old P ps hP z
      · exact ⟨c, oc, u, fs, q, tk, z, upd_same, h1, h2, hu⟩
    · exact old Q qs e hcv
  · obtain ⟨qs, e'⟩ := t.is x hx c' P' e
    have n1 : P' ≠ c := fun z => by rw [z, hc] at e'; cases e'
    by_cases n2 : P' = P
    · subst n2; exact ⟨_, by rw [upd_ne n1, upd_same]⟩
    · exact ⟨qs, by rw [upd_ne n1, upd_ne n2]; exact e'⟩
noncomputable def kn (a : Addr) (o : Obj) : HO := .frz o (.ext fun h => h.get? a = some o)
theorem kn_ok {P : Program} {w : World} {H : Hp} {h : Heap} {a : Addr} {o : Obj} (e : h.get? a = some o) : ObjOk P w H h a (kn a o) := ⟨e, e, ⟨o, e⟩, fun _ _ p k => k _ p⟩
section
variable {X : Cx} {pins : List (Addr × Obj)} {σ : St} {H : Hp} {s : Shared} {E : Value → Shared → Prop} {Q : Value → Shared → Prop}
theorem Inv.table {P c f : Addr} {ps ps' : Array Value} {oc fo : Obj} {h' : Heap} {tk : Nat} (I : Inv X pins σ H s) (hP : H P = some (.tbl ps)) (hx : Heap.ExtBut P s.heap h') (hc : s.heap.objs.size ≤ c) (hf : c < f) (e1 : h'.get? c = some oc) (e2 : h'.get? P = some (tabObj (ps ++ ps'))) (e3 : h'.get? f = some fo) :
    Inv X pins σ (L2.upd (L2.upd (L2.upd H P (.tbl (ps ++ ps'))) c (kn c oc)) f (kn f fo)) { s with heap := h', toks := tk } := by
  have nc : H c = none := I.hok.fresh hc
  have nf : H f = none := I.hok.fresh (Nat.le_trans hc (Nat.le_of_lt hf))
  have keep : ∀ b u, H b = some u → b ≠ P → L2.upd (L2.upd (L2.upd H P (.tbl (ps ++ ps'))) c (kn c oc)) f (kn f fo) b = some u := fun b u e n => by
    rw [upd_ne (ne_of_none e nf), upd_ne (ne_of_none e nc), upd_ne n]; exact e
  have PP : L2.upd (L2.upd (L2.upd H P (.tbl (ps ++ ps'))) c (kn c oc)) f (kn f fo) P = some (.tbl (ps ++ ps')) := by
    rw [upd_ne (ne_of_none hP nf), upd_ne (ne_of_none hP nc), upd_same]
  have kp : ∀ b o, s.heap.get? b = some o → H b = none → h'.get? b = some o := fun b o e n => hx b o (fun z => by rw [z, hP] at n; cases n) e
  refine I.un ⟨fun b o e n _ _ => kp b o e n, fun b o e n _ _ => ⟨o.slots, kp b o e n⟩, fun b o e n _ => ?_, fun b o e _ => ?_, fun b xs e => keep b _ e (fun z => by rw [z, hP] at e; cases e), fun b o u e => keep b _ e (fun z => by rw [z, hP] at e; cases e), fun b qs e => ?_⟩ fun a o e => ?_
  · have lt := Heap.lt_size e
    rw [upd_ne (Nat.ne_of_lt (Nat.lt_trans (Nat.lt_of_lt_of_le lt hc) hf)), upd_ne (Nat.ne_of_lt (Nat.lt_of_lt_of_le lt hc)), upd_ne (fun z => by rw [z, hP] at n; cases n)]
    exact n
  · by_cases hb : b = P
    · rw [hb]; exact ⟨_, e2⟩
    · exact ⟨o, hx b o hb e⟩
  · by_cases hb : b = P
    · subst hb
      rw [hP] at e; cases e
      exact ⟨ps', PP⟩
    · exact ⟨#[], by rw [Array.append_empty]; exact keep b _ e hb⟩
  · by_cases h1 : a = f
    · subst h1; rw [upd_same] at e; cases e; exact kn_ok e3
    · rw [upd_ne h1] at e
      by_cases h2 : a = c
      · subst h2; rw [upd_same] at e; cases e; exact kn_ok e1
      · rw [upd_ne h2] at e
        by_cases h3 : a = P
        · subst h3; rw [upd_same] at e; cases e; exact e2
        · rw [upd_ne h3] at e
          refine (I.hok a o e).stay (fun b u hb q => hx b u (fun z => ?_) q) (fun b q => keep b _ q (fun z => by rw [z, hP] at q; cases q)) fun b xs q => keep b _ q (fun z => by rw [z, hP] at q; cases q)
          subst z
          rcases hb with hb | hb
          · exact h3 hb.symm
          · rw [hP] at hb; cases hb
theorem lam_make {params : Arguments} {body : Expr} {scope : Scope} {pos : Pos} {A : Around} {M : Model} {x : Str} {c P : Addr} {clos : List (Str × Addr)} (I : Inv X pins σ H s) (L : Lm X.K X.mg X.base) (tb : TB X.K H) (hx : x ∈ lamNms) (ht : tabIn X.K x = some (c, P)) (hcode : X.env.code = .ref c)
    (hcl : closureFor scope X.env = pure clos) (hdf : defaultsOf params X.env = ([], []))
    (h : ∀ (f c' : Addr) (pm ctv : Value) (oc : Obj) (h' : Heap) (tk : Nat) (H' : Hp) (u u' : HO), Inv X pins σ H' { s with heap := h', toks := tk } → H' f = some (.frz (kla_obj "<lambda>" (X.env.qual ++ "<lambda>") params body scope clos pm c' ctv) u) → H' c' = some (.frz oc u') →
      Clo (kla_obj "<lambda>" (X.env.qual ++ "<lambda>") params body scope clos pm c' ctv) c' oc → (∀ b o, H b = some o → Sm o (H' b)) → TB X.K H' → Q (.ref f) { s with heap := h', toks := tk }) :
    wpAny M A (eval (.Lambda params body scope pos) X.env) Q E s := by
  obtain ⟨ps, hP⟩ := tb.is x hx c P ht
  have oP : s.heap.get? P = some (tabObj ps) := I.hok P _ hP
  have C := (L.cd x hx c P ht).keeps I.bk
  have hg := I.mod.glob.keeps I.bk
  have hgP : mainGlobals ≠ P := fun q => by
    obtain ⟨o, es, ep, e, hd, _⟩ := hg
    rw [q, oP] at e; cases e; cases hd
  have hB : s.heap.BuiltinsAt X.mg P := by
    obtain ⟨bm, ob, b1, b2, b3, b4, b5, b6⟩ := L.bm
    have b3' := I.bk _ _ b3
    refine ⟨bm, ob, b1, b2, fun q => ?_, fun q => ?_, b3', b4, b5, b6⟩
    · obtain ⟨o, es, ep, e, hd, _⟩ := hg
      rw [q, e] at b3'; cases b3'; rw [hd] at b6; cases b6
    · rw [q, oP] at b3'; cases b3'; cases b4
  refine kla_eval hdf ?_
  cases hf : codeAmong pos ps.toList with
  | none =>
    refine kla_makeFunction (mg := X.mg) hcl I.ok.glob hg hcode C oP (tb.tr P ps hP) hf hgP hB fun c' ctv h' tk hxb hge hlt hrec htb => ?_
    obtain ⟨c2, oc, vs, t, e2, hoc, hd, hv⟩ := hrec
    cases e2
    have nc : H c' = none := I.hok.fresh hge
    have nf : H h'.objs.size = none := I.hok.fresh (Nat.le_trans hge (Nat.le_of_lt hlt))
    refine h h'.objs.size c' _ ctv oc _ tk _ _ _ (Inv.table (ps' := #[rawInt pos.line, rawInt pos.col, .ref c']) (oc := oc) I hP (fun b o n e => Heap.get?_push_of_some _ (hxb b o n e)) hge hlt (Heap.get?_push_of_some _ hoc) (Heap.get?_push_of_some _ htb) (Heap.get?_push_size _ rfl)) upd_same
      (by rw [upd_ne (Nat.ne_of_lt hlt), upd_same]; rfl) ⟨rfl, ⟨_, rfl, rfl⟩, vs, _, t, hd, hv⟩ (fun b o e => ?_) ((tb.grow (u := .ext fun h => h.get? c' = some oc) hP nc (fun _ z => nomatch z) hd hv).upd rfl (.inl ?_))
    · by_cases hb : b = P
      · subst hb
        rw [hP] at e; cases e
        exact ⟨_, by rw [upd_ne (ne_of_none hP nf), upd_ne (ne_of_none hP nc), upd_same]⟩
      · exact sm (by rw [upd_ne (ne_of_none e nf), upd_ne (ne_of_none e nc), upd_ne hb]; exact e)
    · rw [upd_ne (Nat.ne_of_gt hlt), upd_ne (ne_of_none hP nf).symm]; exact nf
  | some cv =>
    obtain ⟨c', oc, u', vs, q, t, rfl, hc', hd, hv, _⟩ := tb.cd P ps hP pos cv hf
    refine kla_makeFunctionHit (mg := X.mg) hcl I.ok.glob hg hcode C oP (tb.tr P ps hP) hf hB fun ctv h' tk hk hsz => ?_
    have nf : H h'.objs.size = none := I.hok.fresh hsz
    refine h h'.objs.size c' _ ctv oc _ tk _ _ _ (I.laid (o := kn _ _) (fun b o e => Heap.get?_push_of_some _ (hk b o e)) hsz (kn_ok (Heap.get?_push_size _ rfl))) upd_same (by rw [upd_ne (ne_of_none hc' nf)]; exact hc') ⟨rfl, ⟨_, rfl, rfl⟩, vs, _, t, hd, hv⟩ (fun b o e => sm (by rw [upd_ne (ne_of_none e nf)]; exact e)) (tb.upd rfl (.inl nf))
end
end L3
set_option Elab.async false
set_option linter.all false
set_option maxRecDepth 100000
namespace L3
open PySem PySem.Spec PyProof.Rows PySem.W L2
noncomputable def addB (base h : Heap) (ex : List Addr) : Heap := hideAll h ((List.range h.objs.size).filter fun b => (base.get? b).isNone && !ex.contains b)
theorem of_addB {base h : Heap} {ex : List Addr} {b : Addr} {o : Obj} (e : (addB base h ex).get? b = some o) : h.get? b = some o ∧ ((base.get? b).isSome = true ∨ b ∈ ex) := by
  have e1 := of_hideAll _ e
  refine ⟨e1, ?_⟩
  by_cases hb : b ∈ ((List.range h.objs.size).filter fun b => (base.get? b).isNone && !ex.contains b)
  · have := hideAll_none (h := h) _ hb
    unfold addB at e
    rw [this] at e; cases e
  · rw [List.mem_filter] at hb
    have : ¬ (((base.get? b).isNone && !ex.contains b) = true) := fun z => hb ⟨List.mem_range.mpr (Heap.lt_size e1), z⟩
    cases h1 : base.get? b with
    | some o' => exact .inl rfl
    | none =>
      rw [h1] at this
      simp at this
      exact .inr this
theorem addB_get {base h : Heap} {ex : List Addr} {b : Addr} {o : Obj} (e : h.get? b = some o) (hb : (base.get? b).isSome = true ∨ b ∈ ex) : (addB base h ex).get? b = some o :=
  hideAll_get _ e fun z => by
    have := (List.mem_filter.mp z).2
    rw [Bool.and_eq_true_iff] at this
    rcases hb with hb | hb
    · have t1 := this.1
      cases q : base.get? b with
      | none => rw [q] at hb; cases hb
      | some o => rw [q] at t1; cases t1
    · have t2 := this.2
      simp at t2
      exact t2 hb
noncomputable def capL : List Str → List (Str × Addr) → List (Str × Addr)
  | [], _ => []
  | x :: xs, cells => match cells.lookup x with
    | some c => (x, c) :: capL xs cells
    | none => capL xs cells
theorem capL_of {cells : List (Str × Addr)} {x : Str} {c : Addr} : ∀ {xs : List Str}, (capL xs cells).lookup x = some c → cells.lookup x = some c
  | [], h => by cases h
  | y :: xs, h => by
    unfold capL at h
    split at h
    · rename_i c' e
      rw [List.lookup_cons] at h
      split at h
      · rename_i hb
        cases h
        rw [eq_of_beq hb]; exact e
      · exact capL_of h
    · exact capL_of h
theorem capL_in {cells : List (Str × Addr)} {x : Str} {c : Addr} (e : cells.lookup x = some c) : ∀ {xs : List Str}, x ∈ xs → (capL xs cells).lookup x = some c
  | [], h => by cases h
  | y :: xs, h => by
    unfold capL
    by_cases hy : x = y
    · subst hy
      rw [e]
      simp
    · have hm : x ∈ xs := by rcases List.mem_cons.mp h with z | z; exact absurd z hy; exact z
      split
      · rw [List.lookup_cons, beq_eq_false_iff_ne.mpr hy]
        exact capL_in e hm
      · exact capL_in e hm
noncomputable def capD : List Nat → Rho → Option (List D)
  | [], _ => some []
  | i :: is, ρ => match ρ[i]? with
    | some (some (d, _)) => if d.isL = false then match capD is ρ with
      | some ds => some (d :: ds)
      | none => none
      else none
    | _ => none
theorem capD_ok {K : PySem.W.Frag} {ρ : Rho} {σ : St} {H : Hp} {w : Wn} {t : Nat} (g : Good K ρ σ H w t) : ∀ {is : List Nat} {ds : List D}, capD is ρ = some ds → ∃ vs, Reps K H w .f 0 ds vs [] ∧ vs.length = is.length ∧ ∀ (j i : Nat), is[j]? = some i → ∃ v, vs[j]? = some v ∧ σ[i]? = some (some v)
  | [], ds, e => by
    cases e
    exact ⟨[], .nil, rfl, fun j i h => by simp at h⟩
  | i :: is, ds, e => by
    unfold capD at e
    split at e
    · rename_i d q h1
      split at e
      · rename_i hl
        split at e
        · rename_i ds' h2
          cases e
          obtain ⟨vs, r, l, k⟩ := capD_ok g h2
          obtain ⟨v, F, s1, s2⟩ := g.slot i d q h1
          obtain ⟨hF, hr⟩ := s2.nolist hl
          refine ⟨v :: vs, .cons (F := []) (G := []) ((hr 0).any g.wl) r (fun _ z => nomatch z), by simp [l], fun j i' hj => ?_⟩
          cases j with
          | zero => simp at hj; subst hj; exact ⟨v, rfl, s1⟩
          | succ j => exact k j i' (by simpa using hj)
        · cases e
      · cases e
    · cases e
noncomputable def ob0 (cds : List D) : D := .ob 0 ⟨.none, none, .plain, #[]⟩ [] cds
open Classical in
noncomputable def eTab (F : D → (List D → Option (D × Nat)) → List D → Option (D × Nat)) (fb : Den) (is : List Nat) (fN : Den) : Den := fun ρ => match fN ρ with
  | some (.int m, _, ρ1) => match capD is ρ1 with
    | some cds => if ∀ f fo vs, F (.ob f fo vs cds) (lamD fb cds) [.int m, .ob f fo vs cds] = F (ob0 cds) (lamD fb cds) [.int m, ob0 cds] then match F (ob0 cds) (lamD fb cds) [.int m, ob0 cds] with
      | some (r, q) => some (r, q, ρ1)
      | none => none
      else none
    | none => none
  | _ => none
theorem pd_tab {X : Cx} {x y : Str} {c P fn : Addr} {j k kb : Nat} {ps caps : List Str} {is : List Nat} {params : Arguments} {body eN : Expr} {scope : Scope} {fN fb : Den} {F : D → (List D → Option (D × Nat)) → List D → Option (D × Nat)} {p lp pos : Pos}
    (hfn : X.fn = fun _ => true) (L : Lm X.K X.mg X.base) (hx : x ∈ lamNms) (ht : tabIn X.K x = some (c, P)) (hcode : X.env.code = .ref c) (S : LamScope ps caps scope)
    (hm : X.mg y = some (.ref fn)) (hkp : keepIn X.K (.ref fn) = true) (hr : Room j X.A) (hk : k ≤ j)
    (hF : ∀ base' ob G, CalO X.prog X.w X.K X.mg base' (kb + 1) ob ps.length G → Cal X.prog X.w X.K X.mg base' k y 2 (F ob G))
    (hbody : ∀ (base' : Heap) (f c' : Addr) (cl : List (Str × Addr)) (q : Str) (A : Around) (outer : List Env) (s : Shared) (H : Hp), Room kb (A.deeper (envX q scope s.heap.objs.size f (.ref c') cl)) → PD (cxL X.prog X.w X.K X.mg base' (ps ++ caps) q scope f (.ref c') cl A outer s H) body fb)
    (hbind : ∀ (cl : List (Str × Addr)) (pm cdv ctv : Value) (us : List Value), us.length = ps.length → bindArgs (kla_fn "<lambda>" (X.env.qual ++ "<lambda>") params body scope cl pm cdv ctv) ⟨us, []⟩ = pure (ps.zip us))
    (hN : ∀ (j : Nat) (z : Str), caps[j]? = some z → ∃ i, is[j]? = some i ∧ X.N[i]? = some z ∧ X.env.scope.names.lookup z = some .cell) (hl : is.length = caps.length) (ha : PD X eN fN)
    (hcl : closureFor scope X.env = pure (capL caps X.env.cells) := by rfl) (hdf : defaultsOf params X.env = ([], []) := by rfl) (hg : Gl X y := by rfl) (hdb : (y == ("__debug__" : Str)) = false := by decide)
    (he : starEach [eN, .Lambda params body scope lp] X.env = (false, eval eN X.env) :: starEach [.Lambda params body scope lp] X.env := by rfl) (hpl : (backTo pos (starEach [.Lambda params body scope lp] X.env)).any (·.1) = false := by rfl) :
    PD X (.Call (.Name y p) [eN, .Lambda params body scope lp] [] pos) (eTab F fb is fN) := by
  intro pins s σ H Q I hh0
  obtain ⟨ρ, w, t, r', q, ρ', gd, ee, k'⟩ := hh0
  unfold eTab at ee
  split at ee
  · rename_i m q1 ρ1 h1
    split at ee
    · rename_i cds hc
      split at ee
      · rename_i hall
        split at ee
        · rename_i r0 q0 hres
          cases ee
          refine wpAny_Call_Name_kw (ld_glob I hg hm ?_ hdb)
          refine PySem.W.callWith_K (h₀ := X.base) I.ok.mod.kin hkp ?_ he hpl
          rw [he]
          show wpAny _ _ (spliced ((false, eval eN X.env) :: backTo pos (starEach [.Lambda params body scope lp] X.env))) _ _ s
          refine Calls.spliced_cons (thn (ha pins s σ H (fun v H1 => ∃ w1 F1, Good X.K ρ' σ H1 w1 (t + 1) ∧ Go H w H1 w1 ∧ Rep X.K H1 w1 (.t t) q1 (.int m) v F1) I ⟨ρ, w, t, _, _, _, gd, h1, fun v H1 w1 F1 g1 go1 r1 => ⟨w1, F1, g1, go1, r1⟩⟩) fun u s1 hh1 => ?_)
          obtain ⟨v, H1, I1, rv, w1, F1, g1, go1, r1⟩ := hh1
          cases r1
          rw [se_Lambda]
          show wpAny _ _ (spliced ((false, eval (.Lambda params body scope lp) X.env) :: backTo pos (starEach [] X.env))) _ _ s1
          refine Calls.spliced_cons (lam_make I1 L g1.wl.tb hx ht hcode hcl hdf fun f c' pm ctv oc h' tk H2 u1 u2 I2 hf hc' clo sm2 tb2 => Calls.spliced_nil ⟨I2.kIn, ?_⟩)
          obtain ⟨g2, go2⟩ := g1.drop.grow sm2 tb2
          have go02 := (go1.drop gd.wt).trans go2
          obtain ⟨cvs, rc, lc, kc⟩ := capD_ok g2 hc
          have cl_at : ∀ z c, (capL caps X.env.cells).lookup z = some c → ∃ v, h'.IsCell c v := fun z c e => I2.cell z c (capL_of e)
          have exs : ∀ z c, (capL caps X.env.cells).lookup z = some c → c ∈ (capL caps X.env.cells).map (·.2) := fun z c e => List.mem_map.mpr ⟨(z, c), PySem.mem_of_lookup e, rfl⟩
          have exc : ∀ b ∈ (capL caps X.env.cells).map (·.2), ∃ z, X.env.cells.lookup z = some b := fun b hb => by
            have gen : ∀ (l : List Str) b, b ∈ (capL l X.env.cells).map (·.2) → ∃ z, X.env.cells.lookup z = some b := by
              intro l
              induction l with
              | nil => intro b hb; cases hb
              | cons z l ih =>
                intro b hb
                unfold capL at hb
                split at hb
                · rename_i c0 e0
                  rcases List.mem_cons.mp hb with z1 | z1
                  · exact ⟨z, by rw [z1]; exact e0⟩
                  · exact ih b z1
                · exact ih b hb
            exact gen caps b hb
          have C : CellsOk (addB X.base h' ((capL caps X.env.cells).map (·.2))) (capL caps X.env.cells) caps cvs := by
            refine ⟨lc.trans hl, fun i z v h1 h2 => ?_, fun a b c h1 h2 => I2.ok.inj a b c (capL_of h1) (capL_of h2), fun z c e => ?_⟩
            · obtain ⟨ix, e1, e2, e3⟩ := hN i z h1
              obtain ⟨v', e4, e5⟩ := kc i ix e1
              rw [h2] at e4; cases e4
              obtain ⟨mm, _, lk⟩ := I2.loc
              obtain ⟨u, ru, lk⟩ := lk ix z v e2 e5 (.inr (.inl e3))
              rcases lk with ⟨z1, _⟩ | ⟨_, c, e6, o, e7, e8⟩
              · have z2 : X.env.scope.names.lookup z = some .local := z1
                rw [e3] at z2; cases z2
              · have e9 := capL_in e6 (List.mem_of_getElem? h1)
                exact ⟨c, u, e9, ru, o, addB_get e7 (.inr (exs z c e9)), e8⟩
            · obtain ⟨v, o, e1, e2⟩ := cl_at z c e
              exact ⟨v, o, addB_get e1 (.inr (exs z c e)), e2⟩
          have kb' : ∀ b o, X.base.get? b = some o → (addB X.base h' ((capL caps X.env.cells).map (·.2))).get? b = some o := fun b o e => addB_get (I2.bk b o e) (.inl (by rw [e]; rfl))
          have hM : Mod X.K X.mg (addB X.base h' ((capL caps X.env.cells).map (·.2))) := by
            obtain ⟨m1, m2, ⟨mb, m3, m4⟩, m5⟩ := I.mod
            exact ⟨m1.keeps kb', m2.keeps kb', ⟨mb, m3.keeps kb', m4⟩, m5.keeps kb'⟩
          have frs' : ∀ L o, X.base.get? L = none → h'.get? L = some o → (L ∈ X.fs ∨ L = X.env.locals) → (addB X.base h' ((capL caps X.env.cells).map (·.2))).get? L = none := fun L o n e hL => by
            cases q : (addB X.base h' ((capL caps X.env.cells).map (·.2))).get? L with
            | none => rfl
            | some o' =>
              rcases (of_addB q).2 with z | z
              · rw [n] at z; cases z
              · obtain ⟨y, ey⟩ := exc L z
                rcases hL with hL | hL
                · obtain ⟨_, o2, e2, _⟩ := I2.ok.funs.mem hL
                  have := I2.ok.cab y L (by rw [hfn]) ey
                  exact absurd (Heap.lt_size e2) (Nat.not_lt.mpr this)
                · exact absurd hL (I2.cne y L ey)
          have e0 : Env0 X.prog X.w X.K X.mg (addB X.base h' ((capL caps X.env.cells).map (·.2))) X.A X.stack { s1 with heap := h', toks := tk } H2 := by
            refine ⟨I2.ok.frames, hM, fun b o e => ?_, Nat.le_of_eq (hideAll_size _ _), ?_, I2.stkFree, I2.hok, I2.bare⟩
            · obtain ⟨e1, e2⟩ := of_addB e
              refine ⟨e1, ?_⟩
              rcases e2 with z | z
              · obtain ⟨o', z'⟩ := Option.isSome_iff_exists.mp z
                exact (I2.bs b o' z').2
              · obtain ⟨y, ey⟩ := exc b z
                exact I2.freeC y b ey
            · have all : ∀ l : List Env, (∀ b ∈ frs l, b ∈ X.env.locals :: X.fs) → h'.FunFrames X.base l → h'.FunFrames (addB X.base h' ((capL caps X.env.cells).map (·.2))) l := by
                intro l
                induction l with
                | nil => intro _ _; trivial
                | cons env r ih =>
                  intro hs hl
                  obtain ⟨hk, ⟨L, o, hf, hn, ho, hd⟩, hr⟩ := hl
                  have hL : L ∈ X.env.locals :: X.fs := hs L (by unfold frs; rw [List.filterMap_cons, hf]; exact List.mem_cons_self)
                  refine ⟨hk, ⟨L, o, hf, frs' L o hn ho ?_, ho, hd⟩, ih (fun b hb => hs b (by unfold frs; rw [List.filterMap_cons, hf]; exact List.mem_cons_of_mem _ hb)) hr⟩
                  rcases List.mem_cons.mp hL with z | z
                  · exact .inr z
                  · exact .inl z
              exact all X.stack I2.stkSub I2.stack
          have hcal := hF (addB X.base h' ((capL caps X.env.cells).map (·.2))) (.ob f (kla_obj "<lambda>" (X.env.qual ++ "<lambda>") params body scope (capL caps X.env.cells) pm c' ctv) cvs cds) (lamD fb cds)
            ⟨f, _, cvs, cds, kla_fn "<lambda>" (X.env.qual ++ "<lambda>") params body scope (capL caps X.env.cells) pm (.ref c') ctv, ps, rfl, rfl, fn_lam S C (fun q A outer s H hr => hbody _ f c' _ q A outer s H hr), hbind _ _ _ _⟩
          obtain ⟨fn', fd, ps', G, hm', hkp', hb⟩ := hcal
          obtain rfl : fn = fn' := by rw [hm] at hm'; cases hm'; rfl
          have rob : Rep X.K H2 (dropT t w1) .f 0 (.ob f (kla_obj "<lambda>" (X.env.qual ++ "<lambda>") params body scope (capL caps X.env.cells) pm c' ctv) cvs cds) (.ref f) [] := .ob hf hc' clo rc
          have hsp : spD X.K 2 (F (.ob f (kla_obj "<lambda>" (X.env.qual ++ "<lambda>") params body scope (capL caps X.env.cells) pm c' ctv) cvs cds) (lamD fb cds)) [.int m, .ref f] H2 Q E0 := by
            refine ⟨rfl, [.int m, .ob f (kla_obj "<lambda>" (X.env.qual ++ "<lambda>") params body scope (capL caps X.env.cells) pm c' ctv) cvs cds], fun a => ((dropT t w1) a).map fun _ => Ow.f, r', q, fun a o e => ?_, ⟨fun a o e => ?_, tb2⟩, ?_, (hall _ _ _).trans hres, fun v H3 w3 Fo go3 wl3 rr => ?_⟩
            · try dsimp only at e
              cases ew : (dropT t w1) a with
              | none => rw [ew] at e; cases e
              | some o' => rw [ew] at e; cases e; rfl
            · try dsimp only at e
              cases ew : (dropT t w1) a with
              | none => rw [ew] at e; cases e
              | some o' => exact g2.wl a o' ew
            · exact .cons (F := []) (G := []) (.int m) (.cons (F := []) (G := []) (Rep.freeze (fun a n => by show ((dropT t w1) a).map _ = _; rw [n]; rfl) rob (fun _ z => nomatch z)) .nil (fun _ z => nomatch z)) (fun _ z => nomatch z)
            · obtain ⟨b1, b2, b3⟩ := back g2 go3 wl3 rr
              exact k' _ _ _ _ b1 (go02.trans b2) b3
          have vals : Vals [.int m, .ref f] [u, .ref f] := .cons rv (.cons rfl .nil)
          have hl2 : ([u, Value.ref f] ++ []).length = ps'.length := by
            rw [List.append_nil, ← vals.length]
            exact G.len _ _ _ _ hsp
          refine wpAny_call (codeAny_mono (G.run X.A X.stack _ H2 ⟨[u, .ref f], []⟩ [u, .ref f] [.int m, .ref f] Q E0 (hr.mono hk) e0 ?_ vals hsp) fun r s' hq => ?_)
          · have := hb { s1 with heap := h', toks := tk } [u, .ref f] I2.kIn hl2
            rw [List.append_nil] at this
            exact this
          · cases r with
            | error e => exact False.elim hq
            | ok fl =>
              cases fl with
              | ret u => exact I2.after hq
              | next => exact False.elim hq
              | brk => exact False.elim hq
              | cont => exact False.elim hq
        · cases ee
      · cases ee
    · cases ee
  · cases ee
end L3
set_option Elab.async false
set_option linter.all false
set_option maxRecDepth 100000
namespace L3
open PySem PySem.Spec PyProof.Rows L2
theorem Rep.seqV {K : PySem.W.Frag} {H : Hp} {w : Wn} {o : Ow} {q : Nat} {ds : List D} {v : V} {F : List Addr} (r : Rep K H w o q (.lst ds) v F) (hq : q ≤ 1) : ∃ a vs, v = .ref a ∧ SqL K H a vs ∧ Reps K H w o 0 ds vs [] := by
  cases r with
  | kl h r => exact ⟨_, _, rfl, h.sq, r⟩
  | shr h n r => exact ⟨_, _, rfl, .inl h, r⟩
  | own h n r ne =>
    rename_i q' _ _ _
    obtain rfl : q' = 0 := by omega
    have e := r.zero
    subst e
    exact ⟨_, _, rfl, SqL.of h, r⟩
end L3
set_option Elab.async false
set_option linter.all false
set_option maxRecDepth 100000
namespace L3
open PySem PySem.Spec PyProof.Rows PySem.W L2
end L3
set_option Elab.async false
set_option linter.all false
set_option maxRecDepth 100000
namespace L3
open PySem PySem.Spec PyProof.Rows PySem.W L2
noncomputable abbrev met (ks : List Int) : List Int := firstMet (fun i => ks.getD i 0) ks.length
end L3
set_option Elab.async false
set_option linter.all false
set_option maxRecDepth 100000
namespace L3
open PySem PySem.Spec PyProof.Rows PySem.W L2
theorem ints_of_vals : ∀ {ks : List Int} {us : List Value}, Vals (ks.map V.int) us → IntsAre us ks
  | [], _, h => by cases h; exact .nil
  | k :: ks, _, h => by
    cases h with
    | cons r rs =>
      obtain ⟨t, rfl⟩ := r
      exact .cons k t (ints_of_vals rs)
theorem repsI2 {K : PySem.W.Frag} {H : Hp} {w : Wn} {o : Ow} : ∀ {ks : List Int} {vs : List V} {F : List Addr}, Reps K H w o 0 (ks.map D.int) vs F → vs = ks.map V.int
  | [], _, _, h => by cases h; rfl
  | k :: ks, _, _, h => by
    cases h with
    | cons r rs _ => rw [intOf r, repsI2 rs]; rfl
end L3
set_option Elab.async false
set_option linter.all false
set_option maxRecDepth 100000
namespace L3
open PySem PySem.Spec PyProof.Rows PySem.W L2
noncomputable def bl (m : Nat) : List Nat := (List.range 5).filter fun i => m.testBit i
noncomputable def bt (m : Nat) (led : Bool) : SetTable := { mask := if (bl m).length < 5 then 7 else 31, place := (bl m).toArray, dummies := #[], finger := 0, led := led, moves := if (bl m).length < 5 then 0 else 1, plain := true }
noncomputable def esL (m : Nat) (z : Nat → Tok) : Array (Int × Value) := ((bl m).map fun v : Nat => (Int.ofNat v, Value.int (Int.ofNat v) (z v))).toArray
noncomputable def so (m : Nat) (z : Nat → Tok) (ep : Nat) (led : Bool) : Obj := { cls := .type "set", dict := none, data := .set (esL m z) ep (bt m led) }
noncomputable def bor (m v : Nat) : Nat := m ||| 1 <<< v
end L3
set_option Elab.async false
set_option linter.all false
set_option maxRecDepth 100000
namespace L3
open PySem PySem.Spec PyProof.Rows PySem.W L2
noncomputable def mb (val : Nat → Nat) : Nat → Nat
  | 0 => 0
  | i + 1 => bor (mb val i) (val i)
end L3
set_option Elab.async false
set_option linter.all false
set_option maxRecDepth 100000
namespace L3
open PySem PySem.Spec PyProof.Rows PySem.W L2
end L3
set_option Elab.async false
set_option linter.all false
set_option maxRecDepth 100000
namespace L3
open PySem PySem.Spec PyProof.Rows PySem.W L2
theorem vals_ints : ∀ {ks : List Int} {us : List Value}, IntsAre us ks → Vals (ks.map V.int) us
  | _, _, .nil => .nil
  | _, _, .cons k t r => .cons ⟨t, rfl⟩ (vals_ints r)
end L3
set_option Elab.async false
set_option linter.all false
set_option maxRecDepth 100000
namespace L3
open PySem PySem.Spec PyProof.Rows L2
end L3
set_option Elab.async false
set_option linter.all false
set_option maxRecDepth 100000
namespace L3
open PySem PySem.Spec PyProof.Rows PySem.W L2
end L3
set_option Elab.async false
set_option linter.all false
set_option maxRecDepth 100000
namespace L3
open PySem PySem.Spec PyProof.Rows L2
end L3
set_option Elab.async false
set_option linter.all false
set_option maxRecDepth 100000
namespace L3
open PySem PySem.Spec PyProof.Rows PySem.W L2
end L3
set_option Elab.async false
set_option linter.all false
set_option maxRecDepth 100000
namespace L3
open PySem PySem.Spec PyProof.Rows L2
end L3
set_option Elab.async false
set_option linter.all false
set_option maxRecDepth 100000
namespace L3
open PySem PySem.Spec PyProof.Rows PySem.W L2
noncomputable def maxI (k : Int) (ks : List Int) : Int := ks.foldl (fun a b => if b > a then b else a) k
theorem maxI_ge : ∀ (ks : List Int) (k : Int), k ≤ maxI k ks ∧ (∀ a, a ∈ ks → a ≤ maxI k ks) ∧ maxI k ks ∈ k :: ks
  | [], k => ⟨Int.le_refl _, fun a h => (by cases h), List.mem_cons_self⟩
  | b :: ks, k => by
    have e : maxI k (b :: ks) = maxI (if b > k then b else k) ks := rfl
    rw [e]
    by_cases hb : b > k
    · rw [if_pos hb]
      obtain ⟨h1, h2, h3⟩ := maxI_ge ks b
      refine ⟨by omega, fun a ha => ?_, List.mem_cons_of_mem _ h3⟩
      rcases List.mem_cons.mp ha with q | q
      · rw [q]; exact h1
      · exact h2 a q
    · rw [if_neg hb]
      obtain ⟨h1, h2, h3⟩ := maxI_ge ks k
      refine ⟨h1, fun a ha => ?_, ?_⟩
      · rcases List.mem_cons.mp ha with q | q
        · rw [q]; omega
        · exact h2 a q
      · rcases List.mem_cons.mp h3 with q | q
        · rw [q]; exact List.mem_cons_self
        · exact List.mem_cons_of_mem _ (List.mem_cons_of_mem _ q)
theorem maxI_eq {k M : Int} {ks : List Int} (h1 : M ∈ k :: ks) (h2 : ∀ a ∈ k :: ks, a ≤ M) : M = maxI k ks := by
  obtain ⟨g1, g2, g3⟩ := maxI_ge ks k
  have a1 := h2 _ g3
  have a2 : M ≤ maxI k ks := by
    rcases List.mem_cons.mp h1 with q | q
    · rw [q]; exact g1
    · exact g2 M q
  omega
section
variable {X : Cx} {a : Expr} {fa : Den} {p pos : Pos}
theorem call_maxL (hc : X.calm = true) : CallR X (.builtin "max") (fun xs H Q => ∃ t k ks, xs = [.ref t] ∧ SqL X.K H t ((k :: ks).map V.int) ∧ Q (.int (maxI k ks)) H) := by
  intro pins s σ H xs us Q I r hh
  obtain ⟨t, k, ks, rfl, hq, q⟩ := hh
  obtain ⟨u, rfl, ru⟩ := vals1 r
  cases ru
  obtain ⟨its, rv, pl, _⟩ := I.list hq
  have hi := ints_of_vals rv
  have hl := pl.isList
  obtain ⟨xs, e⟩ := hi.allInts.items
  have hns : k :: ks = xs.toList.map (·.1) := by rw [← hi.numsOf, ← nums_intItems, ← e]
  have hsz : 0 < xs.size := by
    have h3 : 0 < (k :: ks).length := Nat.zero_lt_succ _
    rw [hns, List.length_map, Array.length_toList] at h3; exact h3
  rw [e] at hl
  refine max_intList (I.ok.hd hc) hl hsz fun v h' tk hv hk => ?_
  obtain ⟨t', rfl⟩ := intItems_at hv
  obtain ⟨h1, h2⟩ := argBest_gt (numAt xs) (xs.size - 1)
  have hM : numAt xs (argBest (fun i j => decide (numAt xs i > numAt xs j)) (xs.size - 1)) = maxI k ks := maxI_eq (by
    rw [hns, numAt_eq]; exact getD_mem (by rw [List.length_map, Array.length_toList]; omega)) fun a ha => by
    rw [hns] at ha
    obtain ⟨j, hj, rfl⟩ := mem_getD ha
    rw [List.length_map, Array.length_toList] at hj
    rw [← numAt_eq]; exact h2 j (by omega)
  exact ⟨.int (maxI k ks), H, I.kept hk, ⟨t', by rw [hM]⟩, q⟩
end
end L3
set_option Elab.async false
set_option linter.all false
set_option maxRecDepth 100000
namespace L3
open PySem PySem.Spec PyProof.Rows PySem.W L2
noncomputable def bstF (val : Nat → Int) : Nat → Nat → Int → Int
  | 0, _, b => b
  | m + 1, i, b => bstF val m (i + 1) (if val i > b then val i else b)
noncomputable abbrev lo2 (b : Int) (t : Tok) (c : Nat) : Obj := { cls := .type "list", dict := none, data := .seq #[.int b t, .int b t] c, slots := #[] }
section
variable {prog : Program} {w : World} {A : Around} {R : Result → Shared → Prop} {I S : Addr} {fp wr : List Addr} {n : Nat} {P : Nat → Value → Prop} {St : Nat → Heap → Prop} {d : Value}
theorem mxd_loop (Wk : Walks prog w A.in1 I fp wr n P St) (val : Nat → Int) (hval : ∀ i v, P i v → ∃ t, v = .int (val i) t) (hout : S ∉ fp) :
    ∀ (m i : Nat) (s : Shared) (b : Int) (t : Tok) (c : Nat), i + m = n → St i s.heap → s.heap.get? S = some (lo2 b t c) →
      (∀ h' tk t', (∀ x o, x ∉ wr → x ≠ S → s.heap.get? x = some o → h'.get? x = some o) → R (.ok (.ret (.int (bstF val m i b) t'))) { s with heap := h', toks := tk }) →
      codeAny (model prog w) A (.builtin "max.loop" ⟨[.ref I, .none, .ref S], [(Str.ofString "default", d)]⟩) R s
  | 0, i, s, b, t, c, hm, st, g, k => by
    have nw : S ∉ wr := fun z => hout (Wk.sub _ z)
    have e : i = n := by omega
    subst e
    refine codeAny_builtin PySem.F.entry_max_loop (by
      rw [Around.under_plainId PySem.F.plain_max_loop _]
      refine (show wpAny _ A.in1 (seqItems? (.ref S) >>= _) _ _ s from wpAny_bind (wpAny_seqItems g rfl ?_))
      refine (show wpAny _ A.in1 (tryCatch (pyNext (.ref I)) _ >>= _) _ _ s from wpAny_bind (wpAny_tryCatch (Wk.done s _ _ st fun h1 tk keep => ?_)))
      have g1 := keep S _ nw g
      refine (show wpAny _ A.in1 (updateSeq S (fun _ => #[]) >>= _) _ _ _ from wpAny_bind (wpAny_updateSeq g1 rfl (wpAny_bind (wpAny_letGo (wpAny_pure ?_)))))
      exact k _ tk t fun x o hx hs q => (Heap.get?_update_other _ _ (Ne.symm hs)).trans (keep x o hx q))
  | m + 1, i, s, b, t, c, hm, st, g, k => by
    have nw : S ∉ wr := fun z => hout (Wk.sub _ z)
    have hname : (toString "max" ++ toString ".loop" : String) = "max.loop" := by decide
    refine codeAny_builtin PySem.F.entry_max_loop (by
      rw [Around.under_plainId PySem.F.plain_max_loop _]
      refine (show wpAny _ A.in1 (seqItems? (.ref S) >>= _) _ _ s from wpAny_bind (wpAny_seqItems g rfl ?_))
      refine (show wpAny _ A.in1 (tryCatch (pyNext (.ref I)) _ >>= _) _ _ s from wpAny_bind (wpAny_tryCatch (Wk.item i s _ _ (by omega) st fun v h1 tk hp st1 keep => ?_)))
      have g1 := keep S _ nw g
      obtain ⟨tv, rfl⟩ := hval i v hp
      refine (show wpAny _ A.in1 (tryCatch (holding [Value.int (val i) tv, Value.int (val i) tv] (richCompare .Gt (Value.int (val i) tv) (Value.int b t) >>= _)) _ >>= _) _ _ _ from ?_)
      have cmp := CmpOf.ints_gt (prog := prog) (w := w) (A := A.in1) (P := fun j u => (j = 0 ∧ u = Value.int (val i) tv) ∨ (j = 1 ∧ u = Value.int b t)) (fun j => if j = 0 then val i else b) (fun j u q => by
        rcases q with ⟨rfl, rfl⟩ | ⟨rfl, rfl⟩
        · exact ⟨tv, rfl⟩
        · exact ⟨t, rfl⟩)
      refine wpAny_bind (wpAny_tryCatch (wpAny_holding (wpAny_bind (cmp 0 1 _ _ _ _ _ (.inl ⟨rfl, rfl⟩) (.inr ⟨rfl, rfl⟩) ?_))))
      refine wpAny_bind (wpAny_holding (wpAny_truthy_bool (wpAny_bind (wpAny_letGo (wpAny_pure ?_)))))
      by_cases hb : val i > b
      · refine (show wpAny _ A.in1 (if decide (val i > b) = true then _ else _) _ _ _ from ?_)
        rw [if_pos (decide_eq_true hb)]
        refine wpAny_bind (wpAny_updateSeq g1 rfl (wpAny_bind (wpAny_letGo ?_)))
        rw [hname]
        refine wpAny_pure ⟨plainId_quiet PySem.F.plain_max_loop _, mxd_loop Wk val hval hout m (i + 1) _ (val i) tv _ (by omega) (Wk.frame _ _ _ st1 fun x hx o q => (Heap.get?_update_other _ _ (fun z : S = x => hout (z ▸ hx))).trans q) (Heap.get?_update_self _ g1 rfl) fun h2 tk2 t2 keep2 => ?_⟩
        have := k h2 tk2 t2 fun x o hx hs q => keep2 x o hx hs ((Heap.get?_update_other _ _ (Ne.symm hs)).trans (keep x o hx q))
        unfold bstF at this
        rw [if_pos hb] at this
        exact this
      · refine (show wpAny _ A.in1 (if decide (val i > b) = true then _ else _) _ _ _ from ?_)
        rw [if_neg (by rw [decide_eq_false hb]; exact Bool.false_ne_true)]
        refine wpAny_bind (wpAny_letGo ?_)
        rw [hname]
        refine wpAny_pure ⟨plainId_quiet PySem.F.plain_max_loop _, mxd_loop Wk val hval hout m (i + 1) _ b t c (by omega) st1 g1 fun h2 tk2 t2 keep2 => ?_⟩
        have := k h2 tk2 t2 fun x o hx hs q => keep2 x o hx hs (keep x o hx q)
        unfold bstF at this
        rw [if_neg hb] at this
        exact this)
theorem mxd_first (Wk : Walks prog w A.in1 I fp wr n P St) (val : Nat → Int) (hval : ∀ i v, P i v → ∃ t, v = .int (val i) t) (hout : S ∉ fp) {s : Shared} {c : Nat} (st : St 0 s.heap) (g : s.heap.get? S = some { cls := .type "list", dict := none, data := .seq #[] c, slots := #[] })
    (k0 : n = 0 → ∀ h' tk, (∀ x o, x ∉ wr → x ≠ S → s.heap.get? x = some o → h'.get? x = some o) → R (.ok (.ret d)) { s with heap := h', toks := tk })
    (k1 : ∀ m, n = m + 1 → ∀ h' tk t', (∀ x o, x ∉ wr → x ≠ S → s.heap.get? x = some o → h'.get? x = some o) → R (.ok (.ret (.int (bstF val m 1 (val 0)) t'))) { s with heap := h', toks := tk }) :
    codeAny (model prog w) A (.builtin "max.loop" ⟨[.ref I, .none, .ref S], [(Str.ofString "default", d)]⟩) R s := by
  have nw : S ∉ wr := fun z => hout (Wk.sub _ z)
  have hname : (toString "max" ++ toString ".loop" : String) = "max.loop" := by decide
  refine codeAny_builtin PySem.F.entry_max_loop (by
    rw [Around.under_plainId PySem.F.plain_max_loop _]
    refine (show wpAny _ A.in1 (seqItems? (.ref S) >>= _) _ _ s from wpAny_bind (wpAny_seqItems g rfl ?_))
    cases hn : n with
    | zero =>
      refine (show wpAny _ A.in1 (tryCatch (pyNext (.ref I)) _ >>= _) _ _ s from wpAny_bind (wpAny_tryCatch (Wk.done s _ _ (hn.symm ▸ st) fun h1 tk keep => ?_)))
      refine (show wpAny _ A.in1 (rule _ >>= _) _ _ _ from wpAny_bind (wpAny_rule (wpAny_pure ?_)))
      exact k0 hn h1 tk fun x o hx hs q => keep x o hx q
    | succ m =>
      refine (show wpAny _ A.in1 (tryCatch (pyNext (.ref I)) _ >>= _) _ _ s from wpAny_bind (wpAny_tryCatch (Wk.item 0 s _ _ (by omega) st fun v h1 tk hp st1 keep => ?_)))
      have g1 := keep S _ nw g
      obtain ⟨tv, rfl⟩ := hval 0 v hp
      refine (show wpAny _ A.in1 (updateSeq S (fun _ => #[Value.int (val 0) tv, Value.int (val 0) tv]) >>= _) _ _ _ from wpAny_bind (wpAny_updateSeq g1 rfl ?_))
      rw [hname]
      refine wpAny_pure ⟨plainId_quiet PySem.F.plain_max_loop _, mxd_loop Wk val hval hout m 1 _ (val 0) tv _ (by omega) (Wk.frame _ _ _ st1 fun x hx o q => (Heap.get?_update_other _ _ (fun z : S = x => hout (z ▸ hx))).trans q) (Heap.get?_update_self _ g1 rfl) fun h2 tk2 t2 keep2 => ?_⟩
      exact k1 m hn h2 tk2 t2 fun x o hx hs q => keep2 x o hx hs ((Heap.get?_update_other _ _ (Ne.symm hs)).trans (keep x o hx q)))
end
theorem bstF_max (ks : List Int) : ∀ (m i : Nat) (b : Int), i + m = ks.length → bstF (fun j => ks.getD j 0) m i b = maxI b (ks.drop i)
  | 0, i, b, h => by rw [List.drop_eq_nil_of_le (by omega)]; rfl
  | m + 1, i, b, h => by
    rw [List.drop_eq_getElem_cons (show i < ks.length by omega)]
    have e : ks.getD i 0 = ks[i] := by rw [List.getD_eq_getElem?_getD, List.getElem?_eq_getElem (by omega)]; rfl
    show bstF _ m (i + 1) (if ks.getD i 0 > b then ks.getD i 0 else b) = maxI (if ks[i] > b then ks[i] else b) (ks.drop (i + 1))
    rw [bstF_max ks m (i + 1) _ (by omega), e]
theorem args_maxD (a v : Value) : argsOk "max" ⟨[a], [(Str.ofString "default", v)]⟩ := by unfold argsOk; kernel_rfl
noncomputable def maxD (d : Int) : List Int → Int
  | [] => d
  | k :: ks => maxI k ks
section
variable {prog : Program} {w : World} {A : Around} {E : Value → Shared → Prop} {s : Shared}
theorem max_dflt {l : Addr} {vs : List Value} {ks : List Int} {d : Int} {dt : Tok} {Q : Value → Shared → Prop} (hA : A.handled = none) (hl : s.heap.IsList l vs.toArray) (hk : IntsAre vs ks)
    (q : ∀ h' tk t', (∀ b o, s.heap.get? b = some o → h'.get? b = some o) → Q (.int (maxD d ks) t') { s with heap := h', toks := tk }) :
    wpAny (model prog w) A (call (.builtin "max") [.ref l] [(Str.ofString "default", .int d dt)]) Q E s := by
  have hname : (toString "max" ++ toString ".loop" : String) = "max.loop" := by decide
  obtain ⟨ol, hol, _⟩ := id hl
  have lt := Heap.lt_size hol
  refine kmk_tree PySem.F.kind_max PySem.F.plain_max PySem.F.entry_max (args_maxD _ _) ?_
  refine (show wpAny _ A.in1 (Builtin.Builtins.bindParams "max" ["key", "default"] 0 ⟨[], [(Str.ofString "default", .int d dt)]⟩ >>= _) _ _ s from ?_)
  refine wpAny_bind (wpAny_of_eq (show Builtin.Builtins.bindParams "max" ["key", "default"] 0 ⟨[], [(Str.ofString "default", .int d dt)]⟩ = pure [none, some (.int d dt)] from rfl) ?_)
  refine wpAny_bind (wpAny_pure (wpAny_bind (wpAny_pyIter_list hl (wpAny_bind (wpAny_newList ?_ (Nat.zero_le _))))))
  rw [hname]
  have sz : (s.heap.push { cls := .type "list_iterator", data := .fields #[.ref l, .int 0 0] }).objs.size = s.heap.objs.size + 1 := Heap.size_push ..
  have hlen : vs.length = ks.length := IntsAre.length hk
  have szv : vs.toArray.size = ks.length := by rw [List.size_toArray, hlen]
  refine wpAny_pure ⟨plainId_quiet PySem.F.plain_max_loop _, ?_⟩
  refine mxd_first (d := .int d dt) (Walks.list (A := A.in1) hA s.heap.objs.size l (Nat.ne_of_lt lt) vs.toArray) (fun j => ks.getD j 0) (fun i v hv => IntsAre.int_at hk i v (by rw [← hv]; simp)) (by
    rw [sz]
    simp only [List.mem_cons, List.not_mem_nil, or_false, not_or]
    exact ⟨Nat.ne_of_gt (Nat.lt_succ_self _), Nat.ne_of_gt (Nat.lt_succ_of_lt lt)⟩) ⟨⟨_, Heap.get?_push_of_some _ (Heap.get?_push_size _ rfl), rfl, rfl⟩, (hl.push _).push _⟩ (Heap.get?_push_size _ rfl) (fun hn h' tk keep => ?_) fun m hn h' tk t' keep => ?_
  · have : ks = [] := List.eq_nil_of_length_eq_zero (by rw [← szv]; exact hn)
    subst this
    exact q h' tk dt fun b o e => keep b o (fun z => absurd (Heap.lt_size e) (by rw [List.mem_singleton.mp z]; exact Nat.lt_irrefl _)) (by rw [sz]; exact Nat.ne_of_lt (Nat.lt_succ_of_lt (Heap.lt_size e))) (Heap.get?_push_of_some _ (Heap.get?_push_of_some _ e))
  · have hm : ks.length = m + 1 := by rw [← szv]; exact hn
    obtain ⟨k, ks', rfl⟩ : ∃ k ks', ks = k :: ks' := by
      cases ks with
      | nil => cases hm
      | cons k ks' => exact ⟨k, ks', rfl⟩
    rw [bstF_max (k :: ks') m 1 _ (by omega)]
    exact q h' tk t' fun b o e => keep b o (fun z => absurd (Heap.lt_size e) (by rw [List.mem_singleton.mp z]; exact Nat.lt_irrefl _)) (by rw [sz]; exact Nat.ne_of_lt (Nat.lt_succ_of_lt (Heap.lt_size e))) (Heap.get?_push_of_some _ (Heap.get?_push_of_some _ e))
end
end L3
set_option Elab.async false
set_option linter.all false
set_option maxRecDepth 100000
namespace L3
open PySem PySem.Spec PyProof.Rows PySem.W L2
section
variable {X : Cx} {a : Expr} {fa : Den} {p pos kpos cpos : Pos} {d : Int} {j}
noncomputable def rMaxD (K : PySem.W.Frag) : List V → List V → Hp → VK → Prop := fun xs ys H Q => ∃ t ks d, xs = [.ref t] ∧ ys = [.int d] ∧ SqL K H t (ks.map V.int) ∧ Q (.int (maxD d ks)) H
noncomputable def tMaxD (K : PySem.W.Frag) (ta tk : TA) : TE := fun σ H Q => ta σ H fun xs H1 => tk σ H1 fun ys H2 => rMaxD K xs ys H2 Q
theorem pe_maxD {ta tk : TA} {dv : Expr} (hc : X.calm = true) (hg : Gl X "max") (hm : X.mg "max" = none) (hv : bootBuiltins "max" = some (.builtin "max")) (ha : PA X [a] ta) (hkw : PK X [⟨some "default", dv, kpos⟩] tk)
    (he : backTo pos (starEach [a] X.env) = (false, eval a X.env) :: backTo pos (starEach [] X.env) := by rfl) (hpl : (backTo pos (starEach [a] X.env)).any (·.1) = false := by rfl) : PE X (.Call (.Name "max" p) [a] [⟨some "default", dv, kpos⟩] pos) (tMaxD X.K ta tk) := by
  intro pins s σ H Q I h
  refine wpAny_Call_Name_kw (ld_blt I hg hm hv ?_ (by decide) (by decide))
  refine callWith_kw (thn (ha pos pins s σ H _ I h) fun us s1 hh1 => ?_) he hpl
  obtain ⟨vs, H1, I1, r1, q1⟩ := hh1
  refine thn (hkw pos pins s1 σ H1 _ I1 q1) fun ws s2 hh2 => ?_
  obtain ⟨zs, H2, I2, rz, t, ks, d, rfl, rfl, hq, q⟩ := hh2
  obtain ⟨u, rfl, ru⟩ := vals1 r1
  cases ru
  obtain ⟨u2, rfl, t2, rfl⟩ := vals1 rz
  obtain ⟨its, rv, pl, _⟩ := I2.list hq
  refine max_dflt (I2.ok.hd hc) pl.isList (ints_of_vals rv) fun h' tk t' kp => ?_
  exact ⟨.int (maxD d ks), H2, I2.kept kp, ⟨t', rfl⟩, q⟩
end
end L3
set_option Elab.async false
set_option linter.all false
set_option maxRecDepth 100000
namespace L3
open PySem PySem.Spec PyProof.Rows PySem.W L2
end L3
set_option Elab.async false
set_option linter.all false
set_option maxRecDepth 100000
namespace L3
open PySem PySem.Spec PyProof.Rows PySem.W L2
end L3
set_option Elab.async false
set_option linter.all false
set_option maxRecDepth 100000
namespace L3
open PySem PySem.Spec PyProof.Rows PySem.W L2
end L3
set_option Elab.async false
set_option linter.all false
set_option maxRecDepth 100000
namespace L3
open PySem PySem.Spec PyProof.Rows PySem.W L2
theorem perm_map {α β : Type} {f : α → β} {ps qs : List β} (h : ps.Perm qs) : ∀ {l : List α}, qs = l.map f → ∃ l' : List α, l'.Perm l ∧ ps = l'.map f := by
  induction h with
  | nil =>
    intro l e
    have := List.map_eq_nil_iff.mp e.symm
    subst this
    exact ⟨[], .nil, rfl⟩
  | cons x _ ih =>
    intro l e
    cases l with
    | nil => cases e
    | cons a l =>
      rw [List.map_cons] at e
      cases e
      obtain ⟨l', p, e'⟩ := ih rfl
      exact ⟨a :: l', p.cons a, by rw [e']; rfl⟩
  | swap x y _ =>
    intro l e
    match l, e with
    | [], e => cases e
    | [a], e => simp at e
    | a :: b :: l, e =>
      rw [List.map_cons, List.map_cons] at e
      cases e
      exact ⟨b :: a :: l, .swap a b l, rfl⟩
  | trans _ _ ih1 ih2 =>
    intro l e
    obtain ⟨l2, p2, e2⟩ := ih2 e
    obtain ⟨l1, p1, e1⟩ := ih1 e2
    exact ⟨l1, p1.trans p2, e1⟩
section
variable {prog : Program} {w : World} {A : Around} {E : Value → Shared → Prop} {s : Shared} {a kS : Addr} {vs : List Value} {kz : List Int} {keys : Array Value} {e e1 : Nat} {P : PySem.Fin → Shared → Prop}
noncomputable def srtEnd (h : Heap) (kS a : Addr) (out : Array Value) : Heap := (h.update kS (Obj.mapSeq fun _ => (#[] : Array Value))).update a (Obj.mapSeq fun _ => out)
theorem srt_tail {st : SortSt} (hk : s.heap.get? kS = some (seqObj "list" keys e)) (ha : s.heap.get? a = some (seqObj "list" #[] e1)) (hka : kS ≠ a) (hsz : keys.size = vs.length) (h64 : vs.length < 64) (hsz2 : (arrOf st).size = vs.length) (hfl : failedOf st = none)
    (h : P (.done (.ret .none)) { s with heap := srtEnd s.heap kS a ((arrOf st).map (·.2)) }) : wpAny (model prog w) A (ksk_tail a false e1 (.ref kS) st) P E s := by
  have na1 : (s.heap.update kS (Obj.mapSeq fun _ => (#[] : Array Value))).get? a = some (seqObj "list" #[] e1) := (Heap.get?_update_other _ _ hka).trans ha
  unfold ksk_tail
  try dsimp only
  refine wpAny_bind (listUpdate_at hk rfl ?_ (by rw [hsz, sizeLine_eq]; omega) (Nat.zero_le _))
  refine wpAny_bind (wpAny_letGo ?_)
  refine wpAny_bind (seqEpoch_at na1 rfl ?_)
  refine wpAny_bind (listUpdate_at na1 rfl ?_ (Nat.zero_le _) (by
    show ((arrOf st).map (·.2)).size ≤ _
    rw [Array.size_map, hsz2, sizeLine_eq]; omega))
  rw [hfl]
  simp only [bne_self_eq_false, Bool.false_eq_true, if_false]
  exact wpAny_pure h
theorem srt_end (hk : s.heap.get? kS = some (seqObj "list" keys e)) (ha : s.heap.get? a = some (seqObj "list" #[] e1)) (hka : kS ≠ a) (hi : IntsAre keys.toList kz) (hlen : kz.length = vs.length) (h64 : vs.length < 64)
    (h : ∀ out : Array Value, KskOut false kz vs out.toList → P (.done (.ret .none)) { s with heap := srtEnd s.heap kS a out }) : wpAny (model prog w) A (ksk_end a false vs.toArray e1 (.ref kS) keys) P E s := by
  have hsz : keys.size = vs.length := by
    have h1 := hi.length
    rw [Array.length_toList] at h1
    omega
  have hzs : (keys.zip vs.toArray).size = vs.length := by rw [Array.size_zip, hsz, List.size_toArray, Nat.min_self]
  unfold ksk_end
  try dsimp only
  rw [if_neg (by decide)]
  by_cases h2 : vs.toArray.size < 2
  · rw [if_pos h2, if_pos h2]
    refine wpAny_bind (wpAny_pure ?_)
    rw [StateT.run_pure]
    refine wpAny_bind (wpAny_pure ?_)
    try dsimp only
    refine srt_tail (st := SortSt.mk' general' (keys.zip vs.toArray) #[] 7 none) hk ha hka hsz h64 hzs rfl (h _ ?_)
    refine ksk_out (b := false) hi (Array.Perm.refl _) ?_
    intro i j hij hj
    have hj2 : j < (keys.zip vs.toArray).size := hj
    rw [hzs] at hj2
    rw [List.size_toArray] at h2
    have : i = j := by omega
    subst this
    exact Int.le_refl _
  · rw [if_neg h2, if_neg h2]
    rw [List.size_toArray] at h2
    rw [ksk_kind hi (by rw [hsz]; omega)]
    refine wpAny_bind (wpAny_pure ?_)
    refine wpAny_bind (wpAny_mono (wpS_sortRuns (a₀ := keys.zip vs.toArray) (st := SortSt.mk' oneType' (keys.zip vs.toArray) #[] 7 none)
      (Q := fun _ st' => (arrOf st').Perm (keys.zip vs.toArray) ∧ failedOf st' = none ∧ SortedTo (arrOf st') (keys.zip vs.toArray).size)
      (ksk_intKeys hi) ⟨Array.Perm.refl _, rfl, rfl, rfl⟩ (by rw [hzs]; omega) (by rw [hzs]; exact h64) fun st' a1 a2 a3 => ⟨a1, a2, a3⟩) ?_ fun _ _ e => e)
    rintro ⟨⟨⟩, st'⟩ s' ⟨rfl, hp, hf, hs⟩
    try dsimp only
    exact srt_tail hk ha hka hsz h64 (by rw [hp.size_eq, hzs]) hf (h _ (ksk_out (b := false) hi hp (by rw [hp.size_eq]; exact hs)))
end
noncomputable def srtHeap (h : Heap) (vs : List Value) : Heap := (((h.push (seqObj "list" vs.toArray 0)).update h.objs.size (Obj.mapSeq fun _ => (#[] : Array Value))).push (seqObj "tuple" vs.toArray 0)).push (seqObj "list" #[] 0)
theorem srtHeap_keep {h : Heap} {vs : List Value} {b : Addr} {o : Obj} (e : h.get? b = some o) : (srtHeap h vs).get? b = some o :=
  Heap.get?_push_of_some _ (Heap.get?_push_of_some _ ((Heap.get?_update_other _ _ (Nat.ne_of_gt (Heap.lt_size e))).trans (Heap.get?_push_of_some _ e)))
theorem srtHeap_size {h : Heap} {vs : List Value} : (((h.push (seqObj "list" vs.toArray 0)).update h.objs.size (Obj.mapSeq fun _ => (#[] : Array Value))).push (seqObj "tuple" vs.toArray 0)).objs.size = h.objs.size + 2 := by
  rw [size_push', Heap.size_update, size_push']
section
variable {X : Cx} {pins : List (Addr × Obj)} {σ : St} {H : Hp} {s : Shared} {E : Value → Shared → Prop} {Q : Value → Shared → Prop}
theorem ints_vals : ∀ {ks : List Int} {us : List Value}, Vals (ks.map V.int) us → IntsAre us ks := fun r => ints_of_vals r
theorem srt_pin {a : Addr} {o : Obj} {H' : Hp} {s' : Shared} (I : Inv X pins σ H s) (ha : s.heap.objs.size ≤ a) (hn : H' a = none) (e : s'.heap.get? a = some o) (hd : ∀ v, o.data ≠ .cell v) : s'.heap.get? a = some o ∧ H' a = none ∧ a ≠ X.env.locals ∧ a ∉ X.fs ∧ ∀ v, o.data ≠ .cell v :=
  ⟨e, hn, fun z => absurd I.lt (Nat.not_lt.mpr (z ▸ ha)), I.nofs ha, hd⟩
theorem srt_turn {a : Addr} {H' : Hp} {s' : Shared} {h' : Heap} {pins' : List (Addr × Obj)} (I : Inv X pins σ H s) (ha : s.heap.objs.size ≤ a) (J : Inv X pins' σ H' s') (hn : H' a = none) (k : ∀ b o, b ≠ a → s'.heap.get? b = some o → h'.get? b = some o) (hp : ∀ p ∈ pins', p.1 ≠ a) : Inv X pins' σ H' { s' with heap := h' } := by
  refine J.turned (t' := s'.toks) k hn (fun z => absurd I.lt (Nat.not_lt.mpr (z ▸ ha))) (.inr (Nat.le_trans I.sz ha)) (fun x c e z => ?_) fun p hp' => ?_
  · obtain ⟨v, q⟩ := I.cell x c e
    exact absurd q.lt (Nat.not_lt.mpr (z ▸ ha))
  · rcases List.mem_append.mp hp' with q | q
    · exact fun z => absurd (Heap.lt_size (I.pin p (List.mem_append_left _ q)).1) (Nat.not_lt.mpr (z ▸ ha))
    · exact hp p q
theorem srt_track {a : Addr} {o : HO} {H' : Hp} {s' : Shared} (I : Inv X pins σ H s) (ha : s.heap.objs.size ≤ a) (J : Inv X pins σ H' s') (hn : H' a = none) (new : ObjOk X.prog X.w (upd H' a o) s'.heap a o) : Inv X pins σ (upd H' a o) s' := by
  have ne : ∀ b u, H' b = some u → b ≠ a := fun b u e z => by rw [z, hn] at e; cases e
  refine J.call' (ch := [a]) rfl ⟨fun b o q n _ _ => q, fun b o q n _ _ => ⟨o.slots, q⟩, fun b ob q n hx => (upd_ne (fun z => hx (by simp [z]))).trans n, fun b ob q _ => ⟨_, q⟩, fun b xs e => (upd_ne (ne b _ e)).trans e, fun b ob u e => (upd_ne (ne b _ e)).trans e, fun b ps e => ⟨#[], by rw [upd_ne (ne b _ e), e]; simp⟩⟩ (HOk.add J.hok hn new) J.bare fun b hb => ?_
  have eb : b = a := by simpa using hb
  subst eb
  refine ⟨.inr (Nat.le_trans I.sz ha), fun z => absurd I.lt (Nat.not_lt.mpr (z ▸ ha)), fun x c e z => ?_, fun p hp z => ?_⟩
  · obtain ⟨v, q⟩ := I.cell x c e
    exact absurd q.lt (Nat.not_lt.mpr (z ▸ ha))
  · exact absurd (Heap.lt_size (I.pin p hp).1) (Nat.not_lt.mpr (z ▸ ha))
theorem sorted_key {A : Around} {arg : Value} {fa : Addr} {ks : List Int} {g : Int → Int} (R : Hp → Prop) (I : Inv X pins σ H s) (hR : R H) (h64 : ks.length < 64)
    (hcol : ∀ (Q' : List Value → Shared → Prop), (∀ us h' tk, (∀ b o, s.heap.get? b = some o → h'.get? b = some o) → Vals (ks.map V.int) us → Q' us { s with heap := h', toks := tk }) → wpAny (model X.prog X.w) A.in1 (collect arg) Q' E s)
    (key : ∀ k ∈ ks, ∀ (pins' : List (Addr × Obj)) (s' : Shared) (H' : Hp) (u : Value), Inv X pins' σ H' s' → R H' → RelV (.int k) u →
      wpAny (model X.prog X.w) A.in1.in1 (call (.ref fa) [u]) (fun v s'' => ∃ t H'', v = .int (g k) t ∧ Inv X pins' σ H'' s'' ∧ R H'') (fun _ _ => False) s')
    (fin : ∀ (ks' : List Int) (H' : Hp) (p : Addr) (s' : Shared), ks'.Perm ks → ks'.Pairwise (fun a b => g a ≤ g b) → R H' → H' p = none → Inv X pins σ (upd H' p (.lst (ks'.map V.int))) s' → Q (.ref p) s') :
    wpAny (model X.prog X.w) A (call (.builtin "sorted") [arg] [(Str.ofString "key", .ref fa)]) Q E s := by
  refine call_function_entry_kw kind_sorted plain_sorted entry_sorted (ksk_s1 _ _) ?_
  unfold Builtin.«sorted»
  refine wpAny_bind (m := checkCount "sorted" 1 1 _) (wpAny_pure ?_)
  refine wpAny_bind (hcol _ fun us h1 tk1 k1 rv => ?_)
  have hi := ints_vals rv
  have hul : us.length = ks.length := hi.length
  have I1 : Inv X pins σ H { s with heap := h1, toks := tk1 } := I.kept k1
  refine wpAny_bind (wpAny_newList ?_ (by rw [sizeLine_eq]; omega))
  have hoL : (h1.push (seqObj "list" us.toArray 0)).get? h1.objs.size = some (seqObj "list" us.toArray 0) := Heap.get?_push_size _ rfl
  show wpAny _ _ _ _ _ { s with heap := h1.push (seqObj "list" us.toArray 0), toks := tk1 }
  refine wpAny_bind (wpAny_holding (wpAny_call_entry_kw slot_list_sort ⟨_, hoL, rfl⟩ entry_list_sort ?body (ksk_l1 _ _)))
  case body =>
    show wpAny (model X.prog X.w) A.in1.in1 (Builtin.«list.sort» ⟨[.ref h1.objs.size], [(Str.ofString "key", .ref fa)]⟩) _ _ _
    rw [ksk_t1]
    unfold ksk_tree
    obtain ⟨e1, ho1⟩ : ∃ e1, ((h1.push (seqObj "list" us.toArray 0)).update h1.objs.size (Obj.mapSeq fun _ => (#[] : Array Value))).get? h1.objs.size = some (seqObj "list" #[] e1) := ⟨_, get?_update_seq hoL fun _ => #[]⟩
    refine wpAny_bind (listItems_at hoL rfl ?_)
    refine wpAny_bind (listUpdate_at hoL rfl ?_ (by rw [List.size_toArray, sizeLine_eq]; omega) (Nat.zero_le _))
    refine wpAny_bind (seqEpoch_at ho1 rfl ?_)
    refine wpAny_bind (wpAny_newTuple ?_ (by show us.length ≤ _; rw [sizeLine_eq]; omega))
    refine wpAny_bind (wpAny_newList ?_ (Nat.zero_le _))
    refine wpAny_holding ?_
    show wpAny _ _ (ksk_rest h1.objs.size (.ref fa) false us.toArray e1 (.ref (((h1.push (seqObj "list" us.toArray 0)).update h1.objs.size (Obj.mapSeq fun _ => (#[] : Array Value))).push (seqObj "tuple" us.toArray 0)).objs.size)) _ _ { s with heap := srtHeap h1 us, toks := tk1 }
    rw [srtHeap_size]
    have ea : (srtHeap h1 us).get? h1.objs.size = some (seqObj "list" #[] e1) := Heap.get?_push_of_some _ (Heap.get?_push_of_some _ ho1)
    have ek : (srtHeap h1 us).get? (h1.objs.size + 2) = some (seqObj "list" #[] 0) := by
      rw [← srtHeap_size (h := h1) (vs := us)]; exact Heap.get?_push_size _ rfl
    have J0 : Inv X pins σ H { s with heap := srtHeap h1 us, toks := tk1 } := I1.kept (t' := tk1) fun b o e => srtHeap_keep e
    have la : ({ s with heap := h1, toks := tk1 } : Shared).heap.objs.size ≤ h1.objs.size := Nat.le_refl _
    have lk : ({ s with heap := h1, toks := tk1 } : Shared).heap.objs.size ≤ h1.objs.size + 2 := Nat.le_add_right _ 2
    have hka : h1.objs.size + 2 ≠ h1.objs.size := by omega
    have pin2 : ∀ {H' : Hp} {s' : Shared} {kA : Array Value} {e : Nat}, H' h1.objs.size = none → H' (h1.objs.size + 2) = none → s'.heap.get? h1.objs.size = some (seqObj "list" #[] e1) → s'.heap.get? (h1.objs.size + 2) = some (seqObj "list" kA e) → (∀ p ∈ pins, s'.heap.get? p.1 = some p.2 ∧ H' p.1 = none ∧ p.1 ≠ X.env.locals ∧ p.1 ∉ X.fs ∧ ∀ v, p.2.data ≠ .cell v) →
        ∀ p ∈ (h1.objs.size + 2, seqObj "list" kA e) :: (h1.objs.size, seqObj "list" #[] e1) :: pins, s'.heap.get? p.1 = some p.2 ∧ H' p.1 = none ∧ p.1 ≠ X.env.locals ∧ p.1 ∉ X.fs ∧ ∀ v, p.2.data ≠ .cell v := fun n1 n2 x1 x2 hp p hm => by
      rcases List.mem_cons.mp hm with rfl | hm
      · exact srt_pin I1 lk n2 x2 (fun v z => nomatch z)
      rcases List.mem_cons.mp hm with rfl | hm
      · exact srt_pin I1 la n1 x1 (fun v z => nomatch z)
      · exact hp p hm
    have J1 := J0.pins_of (pins' := (h1.objs.size + 2, seqObj "list" #[] 0) :: (h1.objs.size, seqObj "list" #[] e1) :: pins) (pin2 (I1.hok.fresh la) (I1.hok.fresh lk) ea ek fun p hp => J0.pin p (List.mem_append_right _ hp))
    have nea : ∀ p ∈ pins, p.1 ≠ h1.objs.size ∧ p.1 ≠ h1.objs.size + 2 := fun p hp => by
      have := Heap.lt_size (I1.pin p (List.mem_append_right _ hp)).1
      have this' : p.1 < h1.objs.size := this
      exact ⟨Nat.ne_of_lt this', Nat.ne_of_lt (Nat.lt_trans this' (Nat.lt_add_of_pos_right (by decide)))⟩
    unfold ksk_rest
    refine wpAny_bind (wpAny_rule ?_)
    first
      | rw [List.forIn_toArray]
      | (rw [← Array.forIn_toList]; simp only [List.toList_toArray])
      | rw [← Array.forIn_toList]
    refine wpAny_bind (ksk_fold (fun i s' => ∃ H' kA e, Inv X ((h1.objs.size + 2, seqObj "list" kA e) :: (h1.objs.size, seqObj "list" #[] e1) :: pins) σ H' s' ∧ R H' ∧ IntsAre kA.toList ((ks.map g).take i)) us 0 _
      ⟨H, #[], 0, J1, hR, by simpa using IntsAre.nil⟩ ?step ?done)
    case step =>
      rintro j x s' hx ⟨H', kA, e, J, hR', hk⟩
      simp only [Nat.zero_add] at hk ⊢
      have hj : j < us.length := (List.getElem?_eq_some_iff.mp hx).1
      have hjk : j < ks.length := by omega
      have hz : kA.size ≤ ks.length := by
        have h1 := hk.length
        rw [Array.length_toList, List.length_take, List.length_map] at h1
        omega
      have rx : RelV (.int ks[j]) x := by
        obtain ⟨u, hu, r⟩ := rv.get (i := j) (x := V.int ks[j]) (by simp [hjk])
        rw [hx] at hu; cases hu
        exact r
      refine wpAny_bind (wpAny_attempt (wpAny_mono (key ks[j] (List.getElem_mem hjk) _ s' H' x J hR' rx) (fun v s'' he => ?_) fun _ _ hF => hF.elim))
      obtain ⟨t2, H2, rfl, J2, hR2⟩ := he
      try dsimp only
      have nk := J2.pin (h1.objs.size + 2, seqObj "list" kA e) (List.mem_append_right _ (.head _))
      have na := J2.pin (h1.objs.size, seqObj "list" #[] e1) (List.mem_append_right _ (.tail _ (.head _)))
      have s1 := Heap.SameBut.update s''.heap (h1.objs.size + 2) (Obj.mapSeq (·.push (.int (g ks[j]) t2)))
      obtain ⟨c2, hc2⟩ : ∃ c2, (s''.heap.update (h1.objs.size + 2) (Obj.mapSeq (·.push (.int (g ks[j]) t2)))).get? (h1.objs.size + 2) = some (seqObj "list" (kA.push (.int (g ks[j]) t2)) c2) := ⟨_, get?_update_seq nk.1 (·.push (.int (g ks[j]) t2))⟩
      have et : (ks.map g).take (j + 1) = (ks.map g).take j ++ [g ks[j]] := by rw [List.take_add_one]; simp [hjk]
      have eA : (kA.push (Value.int (g ks[j]) t2)).toList = kA.toList ++ [Value.int (g ks[j]) t2] := by simp
      refine wpAny_bind (listUpdate_at nk.1 rfl ?_ (by rw [sizeLine_eq]; omega) (Nat.le_trans (Nat.le_of_eq (Array.size_push ..)) (by rw [sizeLine_eq]; omega)))
      refine wpAny_pure ⟨rfl, H2, kA.push (.int (g ks[j]) t2), c2, ?_, hR2, by rw [eA, et]; exact ksk_snoc hk⟩
      have J3 := J2.pins_of (pins' := pins) fun p hp => J2.pin p (List.mem_append_right _ (.tail _ (.tail _ hp)))
      have J4 := srt_turn (h' := s''.heap.update (h1.objs.size + 2) (Obj.mapSeq (·.push (.int (g ks[j]) t2)))) I1 lk J3 nk.2.1 (fun b o n q => s1.extBut b o n q) fun p hp => (nea p hp).2
      exact J4.pins_of (pin2 na.2.1 nk.2.1 (s1.extBut _ _ (Ne.symm hka) na.1) hc2 fun p hp => J4.pin p (List.mem_append_right _ hp))
    case done =>
      rintro s' ⟨H', kA, e, J, hR', hk⟩
      have hk' : IntsAre kA.toList (ks.map g) := by
        have e3 : (ks.map g).take (0 + us.length) = ks.map g := List.take_of_length_le (by rw [List.length_map]; omega)
        rw [e3] at hk
        exact hk
      have nk := J.pin (h1.objs.size + 2, seqObj "list" kA e) (List.mem_append_right _ (.head _))
      have na := J.pin (h1.objs.size, seqObj "list" #[] e1) (List.mem_append_right _ (.tail _ (.head _)))
      try dsimp only
      refine wpAny_bind (listItems_at nk.1 rfl ?_)
      refine srt_end nk.1 na.1 hka hk' (by rw [List.length_map]; omega) (by omega) fun out ko => ⟨.none, rfl, ?_⟩
      obtain ⟨ps, hp, ho, hs⟩ := ko
      -- the items by their keys
      have hz : (ks.map g).zip us = (List.range ks.length).map fun i => (g (ks.getD i 0), us.getD i .none) := by
        apply List.ext_getElem?
        intro i
        by_cases hi2 : i < ks.length
        · have hi3 : i < us.length := by omega
          have z0 : ((ks.map g).zip us)[i]? = some (g ks[i], us[i]) := List.getElem?_zip_eq_some.mpr ⟨by simp [hi2], by simp [hi3]⟩
          rw [z0]
          simp [hi2, hi3]
        · rw [List.getElem?_eq_none (by simp; omega), List.getElem?_eq_none (by simp; omega)]
      have hval : ∀ i, i < ks.length → RelV (.int (ks.getD i 0)) (us.getD i .none) := fun i hi2 => by
        obtain ⟨u, hu, r⟩ := rv.get (i := i) (x := V.int (ks.getD i 0)) (by simp [hi2])
        have : us.getD i .none = u := by rw [List.getD_eq_getElem?_getD, hu]; rfl
        rw [this]; exact r
      rw [hz] at hp
      obtain ⟨l, hl, rfl⟩ : ∃ l : List Nat, l.Perm (List.range ks.length) ∧ ps = l.map fun i => (g (ks.getD i 0), us.getD i .none) := perm_map hp rfl
      have hlt : ∀ i ∈ l, i < ks.length := fun i hi2 => List.mem_range.mp (hl.mem_iff.mp hi2)
      have eo : out.toList = l.map fun i => us.getD i .none := by rw [ho, List.map_map]; rfl
      have rvo : Vals ((l.map fun i => ks.getD i 0).map V.int) out.toList := by
        rw [eo, List.map_map]
        clear hl hs eo ho hp
        induction l with
        | nil => exact .nil
        | cons i l ih => exact .cons (hval i (hlt i List.mem_cons_self)) (ih fun j hj => hlt j (List.mem_cons_of_mem _ hj))
      have s1 := Heap.SameBut.update s'.heap (h1.objs.size + 2) (Obj.mapSeq fun _ => (#[] : Array Value))
      have s2 := Heap.SameBut.update (s'.heap.update (h1.objs.size + 2) (Obj.mapSeq fun _ => (#[] : Array Value))) h1.objs.size (Obj.mapSeq fun _ => out)
      have na1 : (s'.heap.update (h1.objs.size + 2) (Obj.mapSeq fun _ => (#[] : Array Value))).get? h1.objs.size = some (seqObj "list" #[] e1) := s1.extBut _ _ (Ne.symm hka) na.1
      obtain ⟨c2, hc2⟩ : ∃ c2, (srtEnd s'.heap (h1.objs.size + 2) h1.objs.size out).get? h1.objs.size = some (seqObj "list" out c2) := ⟨_, get?_update_seq na1 fun _ => out⟩
      have J3 := J.pins_of (pins' := pins) fun p hp => J.pin p (List.mem_append_right _ (.tail _ (.tail _ hp)))
      have J4 := srt_turn (h' := s'.heap.update (h1.objs.size + 2) (Obj.mapSeq fun _ => (#[] : Array Value))) I1 lk J3 nk.2.1 (fun b o n q => s1.extBut b o n q) fun p hp => (nea p hp).2
      have J5 := srt_turn (h' := srtEnd s'.heap (h1.objs.size + 2) h1.objs.size out) I1 la J4 na.2.1 (fun b o n q => s2.extBut b o n q) fun p hp => (nea p hp).1
      have hlen : l.length = ks.length := by rw [hl.length_eq, List.length_range]
      have hout : ((l.map fun i => ks.getD i 0).map V.int).length ≤ sizeLine := by rw [List.length_map, List.length_map, hlen, sizeLine_eq]; omega
      have J6 : Inv X pins σ (upd H' h1.objs.size (.lst ((l.map fun i => ks.getD i 0).map V.int))) { s' with heap := srtEnd s'.heap (h1.objs.size + 2) h1.objs.size out } := srt_track I1 la J5 na.2.1 ⟨hout, out.toList, c2, rvo, by rw [Array.toArray_toList]; exact hc2⟩
      refine wpAny_pure ⟨_, rfl, fin _ H' _ _ ?_ ?_ hR' na.2.1 J6⟩
      · have : (List.range ks.length).map (fun i => ks.getD i 0) = ks := by
          apply List.ext_getElem?
          intro i
          by_cases hi2 : i < ks.length
          · simp [hi2]
          · rw [List.getElem?_eq_none (by simp; omega), List.getElem?_eq_none (by omega)]
        have hm := hl.map fun i => ks.getD i 0
        rw [this] at hm
        exact hm
      · rw [List.pairwise_map] at hs ⊢
        exact hs.imp fun h => h
end
end L3
set_option Elab.async false
set_option linter.all false
set_option maxRecDepth 100000
namespace L3
open PySem PySem.Spec PyProof.Rows PySem.W L2
theorem lam_call {X : Cx} {kb : Nat} {ps caps : List Str} {is : List Nat} {params : Arguments} {body : Expr} {scope : Scope} {fb : Den} {pins : List (Addr × Obj)} {σ : St} {H : Hp} {s : Shared} {ρ : Rho} {w : Wn} {t : Nat} {cds : List D} {f c' : Addr} {pm ctv : Value} {oc : Obj} {u1 u2 : HO} {A2 : Around} {E : Value → Shared → Prop} {Q : Value → Shared → Prop} {d r : D} {q : Nat} {v : V} {u : Value}
    (hfn : X.fn = fun _ => true) (S : LamScope ps caps scope) (hp1 : ps.length = 1)
    (hbody : ∀ (base' : Heap) (f c' : Addr) (cl : List (Str × Addr)) (q : Str) (A : Around) (outer : List Env) (s : Shared) (H : Hp), Room kb (A.deeper (envX q scope s.heap.objs.size f (.ref c') cl)) → PD (cxL X.prog X.w X.K X.mg base' (ps ++ caps) q scope f (.ref c') cl A outer s H) body fb)
    (hbind : ∀ (cl : List (Str × Addr)) (pm cdv ctv : Value) (us : List Value), us.length = ps.length → bindArgs (kla_fn "<lambda>" (X.env.qual ++ "<lambda>") params body scope cl pm cdv ctv) ⟨us, []⟩ = pure (ps.zip us))
    (hN : ∀ (j : Nat) (z : Str), caps[j]? = some z → ∃ i, is[j]? = some i ∧ X.N[i]? = some z ∧ X.env.scope.names.lookup z = some .cell) (hl : is.length = caps.length) (hA : A2.frames = X.A.frames) (hr : Room (kb + 1) A2)
    (I2 : Inv X pins σ H s) (g2 : Good X.K ρ σ H w t) (hc : capD is ρ = some cds)
    (hf : H f = some (.frz (kla_obj "<lambda>" (X.env.qual ++ "<lambda>") params body scope (capL caps X.env.cells) pm c' ctv) u1)) (hc' : H c' = some (.frz oc u2)) (clo : Clo (kla_obj "<lambda>" (X.env.qual ++ "<lambda>") params body scope (capL caps X.env.cells) pm c' ctv) c' oc)
    (rv : RelV v u) (rd : Rep X.K H w .f 0 d v []) (ee : lamD fb cds [d] = some (r, q))
    (k : ∀ v' H' w' F s' u', Inv X pins σ H' s' → RelV v' u' → Good X.K ρ σ H' w' (t + 1) → Go H w H' w' → Rep X.K H' w' (.t t) q r v' F → Q u' s') :
    wpAny (model X.prog X.w) A2 (call (.ref f) [u]) Q E s := by
  obtain ⟨cvs, rc, lc, kc⟩ := capD_ok g2 hc
  have cl_at : ∀ z c, (capL caps X.env.cells).lookup z = some c → ∃ v, s.heap.IsCell c v := fun z c e => I2.cell z c (capL_of e)
  have exs : ∀ z c, (capL caps X.env.cells).lookup z = some c → c ∈ (capL caps X.env.cells).map (·.2) := fun z c e => List.mem_map.mpr ⟨(z, c), PySem.mem_of_lookup e, rfl⟩
  have exc : ∀ b ∈ (capL caps X.env.cells).map (·.2), ∃ z, X.env.cells.lookup z = some b := fun b hb => by
    have gen : ∀ (l : List Str) b, b ∈ (capL l X.env.cells).map (·.2) → ∃ z, X.env.cells.lookup z = some b := by
      intro l
      induction l with
      | nil => intro b hb; cases hb
      | cons z l ih =>
        intro b hb
        unfold capL at hb
        split at hb
        · rename_i c0 e0
          rcases List.mem_cons.mp hb with z1 | z1
          · exact ⟨z, by rw [z1]; exact e0⟩
          · exact ih b z1
        · exact ih b hb
    exact gen caps b hb
  have C : CellsOk (addB X.base s.heap ((capL caps X.env.cells).map (·.2))) (capL caps X.env.cells) caps cvs := by
    refine ⟨lc.trans hl, fun i z v h1 h2 => ?_, fun a b c h1 h2 => I2.ok.inj a b c (capL_of h1) (capL_of h2), fun z c e => ?_⟩
    · obtain ⟨ix, e1, e2, e3⟩ := hN i z h1
      obtain ⟨v', e4, e5⟩ := kc i ix e1
      rw [h2] at e4; cases e4
      obtain ⟨mm, _, lk⟩ := I2.loc
      obtain ⟨u, ru, lk⟩ := lk ix z v e2 e5 (.inr (.inl e3))
      rcases lk with ⟨z1, _⟩ | ⟨_, c, e6, o, e7, e8⟩
      · have z2 : X.env.scope.names.lookup z = some .local := z1
        rw [e3] at z2; cases z2
      · have e9 := capL_in e6 (List.mem_of_getElem? h1)
        exact ⟨c, u, e9, ru, o, addB_get e7 (.inr (exs z c e9)), e8⟩
    · obtain ⟨v, o, e1, e2⟩ := cl_at z c e
      exact ⟨v, o, addB_get e1 (.inr (exs z c e)), e2⟩
  have kb' : ∀ b o, X.base.get? b = some o → (addB X.base s.heap ((capL caps X.env.cells).map (·.2))).get? b = some o := fun b o e => addB_get (I2.bk b o e) (.inl (by rw [e]; rfl))
  have hM : Mod X.K X.mg (addB X.base s.heap ((capL caps X.env.cells).map (·.2))) := by
    obtain ⟨m1, m2, ⟨mb, m3, m4⟩, m5⟩ := I2.mod
    exact ⟨m1.keeps kb', m2.keeps kb', ⟨mb, m3.keeps kb', m4⟩, m5.keeps kb'⟩
  have frs' : ∀ L o, X.base.get? L = none → s.heap.get? L = some o → (L ∈ X.fs ∨ L = X.env.locals) → (addB X.base s.heap ((capL caps X.env.cells).map (·.2))).get? L = none := fun L o n e hL => by
    cases q : (addB X.base s.heap ((capL caps X.env.cells).map (·.2))).get? L with
    | none => rfl
    | some o' =>
      rcases (of_addB q).2 with z | z
      · rw [n] at z; cases z
      · obtain ⟨y, ey⟩ := exc L z
        rcases hL with hL | hL
        · obtain ⟨_, o2, e2, _⟩ := I2.ok.funs.mem hL
          have := I2.ok.cab y L (by rw [hfn]) ey
          exact absurd (Heap.lt_size e2) (Nat.not_lt.mpr this)
        · exact absurd hL (I2.cne y L ey)
  have e0 : Env0 X.prog X.w X.K X.mg (addB X.base s.heap ((capL caps X.env.cells).map (·.2))) A2 X.stack s H := by
    refine ⟨hA.trans I2.ok.frames, hM, fun b o e => ?_, Nat.le_of_eq (hideAll_size _ _), ?_, I2.stkFree, I2.hok, I2.bare⟩
    · obtain ⟨e1, e2⟩ := of_addB e
      refine ⟨e1, ?_⟩
      rcases e2 with z | z
      · obtain ⟨o', z'⟩ := Option.isSome_iff_exists.mp z
        exact (I2.bs b o' z').2
      · obtain ⟨y, ey⟩ := exc b z
        exact I2.freeC y b ey
    · have all : ∀ l : List Env, (∀ b ∈ frs l, b ∈ X.env.locals :: X.fs) → s.heap.FunFrames X.base l → s.heap.FunFrames (addB X.base s.heap ((capL caps X.env.cells).map (·.2))) l := by
        intro l
        induction l with
        | nil => intro _ _; trivial
        | cons env r ih =>
          intro hs hl
          obtain ⟨hk, ⟨L, o, hf, hn, ho, hd⟩, hr⟩ := hl
          have hL : L ∈ X.env.locals :: X.fs := hs L (by unfold frs; rw [List.filterMap_cons, hf]; exact List.mem_cons_self)
          refine ⟨hk, ⟨L, o, hf, frs' L o hn ho ?_, ho, hd⟩, ih (fun b hb => hs b (by unfold frs; rw [List.filterMap_cons, hf]; exact List.mem_cons_of_mem _ hb)) hr⟩
          rcases List.mem_cons.mp hL with z | z
          · exact .inr z
          · exact .inl z
      exact all X.stack I2.stkSub I2.stack
  have G := fn_lam (f := f) (c := c') (nm := "<lambda>") (qual := X.env.qual ++ "<lambda>") (params := params) (pm := pm) (ctv := ctv) (cds := cds) S C (fun q A outer s H hr => hbody _ f c' _ q A outer s H hr)
  have rob : Rep X.K H w .f 0 (.ob f (kla_obj "<lambda>" (X.env.qual ++ "<lambda>") params body scope (capL caps X.env.cells) pm c' ctv) cvs cds) (.ref f) [] := .ob hf hc' clo rc
  have hsp : spO X.K ps.length (.ob f (kla_obj "<lambda>" (X.env.qual ++ "<lambda>") params body scope (capL caps X.env.cells) pm c' ctv) cvs cds) (lamD fb cds) [v] H (fun v' H' => ∃ w' F, Good X.K ρ σ H' w' (t + 1) ∧ Go H w H' w' ∧ Rep X.K H' w' (.t t) q r v' F) E0 := by
    refine ⟨hp1.symm, [d], fun a => (w a).map fun _ => Ow.f, r, q, fun a o e => ?_, ⟨fun a o e => ?_, g2.wl.tb⟩, ?_, ⟨.ref f, ?_⟩, ee, fun v H3 w3 Fo go3 wl3 rr => ?_⟩
    · try dsimp only at e
      cases ew : w a with
      | none => rw [ew] at e; cases e
      | some o' => rw [ew] at e; cases e; rfl
    · try dsimp only at e
      cases ew : w a with
      | none => rw [ew] at e; cases e
      | some o' => exact g2.wl a o' ew
    · exact .cons (F := []) (G := []) (Rep.freeze (fun a n => by show (w a).map _ = _; rw [n]; rfl) rd (fun _ z => nomatch z)) .nil (fun _ z => nomatch z)
    · exact Rep.freeze (fun a n => by show (w a).map _ = _; rw [n]; rfl) rob (fun _ z => nomatch z)
    · obtain ⟨b1, b2, b3⟩ := back g2 go3 wl3 rr
      exact ⟨_, _, b1, b2, b3⟩
  refine wpAny_call (codeAny_mono (G.run A2 X.stack s H ⟨[u], []⟩ [u] [v] _ E0 hr e0 (.of_eq (hbind _ _ _ _ _ hp1.symm)) (.cons rv .nil) hsp) fun r s' hq => ?_)
  cases r with
  | error e => exact False.elim hq
  | ok fl =>
    cases fl with
    | ret u =>
      obtain ⟨v', H', J, rv', w', F, g', go', r'⟩ := I2.after hq
      exact k v' H' w' F s' u J rv' g' go' r'
    | next => exact False.elim hq
    | brk => exact False.elim hq
    | cont => exact False.elim hq
noncomputable def ColK (K : PySem.W.Frag) (H : Hp) (x : V) (ks : List Int) : Prop := (∃ r j, x = .ref r ∧ H r = some (.rng 0 j) ∧ -1000 ≤ j ∧ j ≤ 1000 ∧ ks = (List.range j.toNat).map Int.ofNat) ∨ ∃ l, x = .ref l ∧ SqL K H l (ks.map V.int)
theorem ColK.sm {K : PySem.W.Frag} {H H' : Hp} {x : V} {ks : List Int} (h : ColK K H x ks) (s : ∀ b o, H b = some o → Sm o (H' b)) : ColK K H' x ks := by
  rcases h with ⟨r, j, e, h1, h2⟩ | ⟨l, e, h1 | h1⟩
  · exact .inl ⟨r, j, e, s r _ h1, h2⟩
  · refine .inr ⟨l, e, .inl ?_⟩
    rcases h1 with h1 | ⟨o, h1⟩
    · exact .inl (s l _ h1)
    · exact .inr ⟨o, s l _ h1⟩
  · exact .inr ⟨l, e, .inr h1⟩
theorem collect_col {X : Cx} {A : Around} {pins : List (Addr × Obj)} {σ : St} {H : Hp} {s : Shared} {E : Value → Shared → Prop} {x : V} {u : Value} {ks : List Int} (hh : A.handled = none) (I : Inv X pins σ H s) (rx : RelV x u) (h : ColK X.K H x ks) (h64 : ks.length < 64) (Q' : List Value → Shared → Prop)
    (k : ∀ us h' tk, (∀ b o, s.heap.get? b = some o → h'.get? b = some o) → Vals (ks.map V.int) us → Q' us { s with heap := h', toks := tk }) : wpAny (model X.prog X.w) A (collect u) Q' E s := by
  rcases h with ⟨r, j, rfl, hr, j1, j2, rfl⟩ | ⟨l, rfl, hl⟩
  · cases rx
    obtain ⟨t, u, v, ho⟩ := (show ObjOk X.prog X.w H s.heap r (.rng 0 j) from I.hok r _ hr)
    refine collect_range hh ho (range_small (by omega) (by omega)) (range_size j) (by omega) fun h' tk acc' hk hacc => k _ h' tk hk ?_
    have := items_vals hacc
    unfold rangeV at this
    rw [List.map_map]
    exact this
  · cases rx
    obtain ⟨its, rv, pl, _⟩ := I.list hl
    have hi := ints_of_vals rv
    have hle : its.length = ks.length := IntsAre.length hi
    refine collect_list pl.isList (k its _ s.toks (fun b o e => ?_) rv) (by rw [sizeLine_eq]; omega)
    exact (Heap.get?_update_other _ _ (Nat.ne_of_gt (Heap.lt_size e))).trans (Heap.get?_push_of_some _ e)
noncomputable def tSortK (K : PySem.W.Frag) (ta : TA) (fb : Den) (is : List Nat) (g : Int → Int) : TE := fun σ H Q => ∃ ρ w t, Good K ρ σ H w t ∧ ta σ H fun xs H1 => ∃ x w1 ks cds ρ1, xs = [x] ∧ Good K ρ1 σ H1 w1 t ∧ Go H w H1 w1 ∧ ColK K H1 x ks ∧ capD is ρ1 = some cds ∧ ks.length < 64 ∧
  (∀ k ∈ ks, lamD fb cds [.int k] = some (.int (g k), 9)) ∧ ∀ (ks' : List Int) p H' w', ks'.Perm ks → ks'.Pairwise (fun a b => g a ≤ g b) → Good K ρ1 σ H' w' t → Go H1 w1 H' w' → H' p = none → Q (.ref p) (upd H' p (.lst (ks'.map V.int)))
theorem WL.no {K : PySem.W.Frag} {w : Wn} {H : Hp} (l : WL K w H) {a : Addr} {x : HO} (e : H a = some x) (n : ∀ vs, x ≠ .lst vs) : w a = none := by
  cases q : w a with
  | none => rfl
  | some o =>
    obtain ⟨vs, e'⟩ := l.own a o q
    rw [e] at e'; cases e'
    exact absurd rfl (n vs)
theorem pe_sortK {X : Cx} {x : Str} {c P : Addr} {j kb : Nat} {ps caps : List Str} {is : List Nat} {params : Arguments} {body eN : Expr} {scope : Scope} {ta : TA} {fb : Den} {g : Int → Int} {p lp kpos pos : Pos}
    (hfn : X.fn = fun _ => true) (L : Lm X.K X.mg X.base) (hx : x ∈ lamNms) (ht : tabIn X.K x = some (c, P)) (hcode : X.env.code = .ref c) (S : LamScope ps caps scope) (hp1 : ps.length = 1) (hc : X.calm = true)
    (hm : X.mg "sorted" = none) (hr : Room j X.A) (hk : kb + 3 ≤ j)
    (hbody : ∀ (base' : Heap) (f c' : Addr) (cl : List (Str × Addr)) (q : Str) (A : Around) (outer : List Env) (s : Shared) (H : Hp), Room kb (A.deeper (envX q scope s.heap.objs.size f (.ref c') cl)) → PD (cxL X.prog X.w X.K X.mg base' (ps ++ caps) q scope f (.ref c') cl A outer s H) body fb)
    (hbind : ∀ (cl : List (Str × Addr)) (pm cdv ctv : Value) (us : List Value), us.length = ps.length → bindArgs (kla_fn "<lambda>" (X.env.qual ++ "<lambda>") params body scope cl pm cdv ctv) ⟨us, []⟩ = pure (ps.zip us))
    (hN : ∀ (j : Nat) (z : Str), caps[j]? = some z → ∃ i, is[j]? = some i ∧ X.N[i]? = some z ∧ X.env.scope.names.lookup z = some .cell) (hl : is.length = caps.length) (ha : PA X [eN] ta)
    (hcl : closureFor scope X.env = pure (capL caps X.env.cells) := by rfl) (hdf : defaultsOf params X.env = ([], []) := by rfl) (hg : Gl X "sorted" := by rfl) (hb2 : bootBuiltins "sorted" = some (.builtin "sorted") := by kernel_rfl)
    (he : backTo pos (starEach [eN] X.env) = (false, eval eN X.env) :: backTo pos (starEach [] X.env) := by rfl) (hpl : (backTo pos (starEach [eN] X.env)).any (·.1) = false := by rfl) :
    PE X (.Call (.Name "sorted" p) [eN] [⟨some "key", .Lambda params body scope lp, kpos⟩] pos) (tSortK X.K ta fb is g) := by
  intro pins s σ H Q I hh0
  obtain ⟨ρ, w, t, gd, hta⟩ := hh0
  have hh : X.A.handled = none := I.ok.hd hc
  refine wpAny_Call_Name_kw (ld_blt I hg hm hb2 ?_ (by decide) (by decide))
  refine callWith_kw (thn (ha pos pins s σ H _ I hta) fun us s1 hh1 => ?_) he hpl
  obtain ⟨vs, H1, I1, r1, x, w1, ks, cds, ρ1, rfl, g1, go1, col, hcap, h64, hkey, k'⟩ := hh1
  obtain ⟨u, rfl, ru⟩ := vals1 r1
  have plam : PE X (.Lambda params body scope lp) (fun σ H Q => TB X.K H ∧ ∀ (f c' : Addr) (pm ctv : Value) (oc : Obj) (H' : Hp) (u u' : HO), H' f = some (.frz (kla_obj "<lambda>" (X.env.qual ++ "<lambda>") params body scope (capL caps X.env.cells) pm c' ctv) u) → H' c' = some (.frz oc u') →
      Clo (kla_obj "<lambda>" (X.env.qual ++ "<lambda>") params body scope (capL caps X.env.cells) pm c' ctv) c' oc → (∀ b o, H b = some o → Sm o (H' b)) → TB X.K H' → Q (.ref f) H') := fun pins s σ H Q I h =>
    lam_make I L h.1 hx ht hcode hcl hdf fun f c' pm ctv oc h' tk H' u1 u2 I2 hf hc' clo sm2 tb2 => ⟨.ref f, H', I2, rfl, h.2 f c' pm ctv oc H' u1 u2 hf hc' clo sm2 tb2⟩
  refine thn (pk_cons (kpos := kpos) (nm := some "key") plam pk_nil pos pins s1 σ H1 (fun ys H2 => ∃ f c' pm ctv oc u1 u2, ys = [.ref f] ∧ H2 f = some (.frz (kla_obj "<lambda>" (X.env.qual ++ "<lambda>") params body scope (capL caps X.env.cells) pm c' ctv) u1) ∧ H2 c' = some (.frz oc u2) ∧
      Clo (kla_obj "<lambda>" (X.env.qual ++ "<lambda>") params body scope (capL caps X.env.cells) pm c' ctv) c' oc ∧ (∀ b o, H1 b = some o → Sm o (H2 b)) ∧ TB X.K H2) I1 ⟨g1.wl.tb, fun f c' pm ctv oc H' u u' q1 q2 q3 q4 q5 => ⟨f, c', pm, ctv, oc, u, u', rfl, q1, q2, q3, q4, q5⟩⟩) fun ws s2 hh2 => ?_
  obtain ⟨zs, H2, I2, rz, f, c', pm, ctv, oc, u1, u2, rfl, hf, hc', clo, sm2, tb2⟩ := hh2
  obtain ⟨u3, rfl, ru3⟩ := vals1 rz
  cases ru3
  obtain ⟨g2, go2⟩ := g1.grow sm2 tb2
  have ff : ∀ {H' : Hp} {w' : Wn}, Go H2 w1 H' w' → ∀ {a : Addr} {o : Obj} {u : HO}, H2 a = some (.frz o u) → H' a = some (.frz o u) := fun go a o u e => (go.stab a _ e (g2.wl.no e (fun _ z => nomatch z))).1
  refine sorted_key (g := g) (fun H' => ∃ w', Good X.K ρ1 σ H' w' t ∧ Go H2 w1 H' w') I2 ⟨w1, g2, Go.refl⟩ h64 (fun Q' k => collect_col (A := X.A.in1) hh I2 ru (col.sm sm2) h64 Q' k) (fun kk hkk pins' s' H' uu J hR rk => ?_) fun ks' H' pp s' hp hs hR hn J => ?_
  · obtain ⟨w', g', go'⟩ := hR
    refine lam_call (A2 := X.A.in1.in1) (d := .int kk) hfn S hp1 hbody hbind hN hl rfl ((hr.mono hk).in1.in1) J g' hcap (ff go' hf) (ff go' hc') clo rk (.int kk) (hkey kk hkk) fun v' H'' w'' F s'' u'' J2 rv2 g'' go'' r'' => ?_
    cases r''
    obtain ⟨t2, rfl⟩ := rv2
    exact ⟨t2, H'', rfl, J2, _, g''.drop (t' := t), go'.trans (go''.drop g'.wt)⟩
  · obtain ⟨w', g', go'⟩ := hR
    exact ⟨.ref pp, _, J, rfl, k' ks' pp H' w' hp hs g' (go2.trans go') hn⟩
end L3
set_option Elab.async false
set_option linter.all false
set_option maxRecDepth 100000
namespace L3
open PySem PySem.Spec PyProof.Rows PySem.W L2
noncomputable def dl (H : Hp) (p : Addr) : Hp := fun a => if a = p then none else H a
theorem dl_ne {H : Hp} {p a : Addr} (h : a ≠ p) : dl H p a = H a := if_neg h
theorem dl_some {H : Hp} {p a : Addr} {x : HO} (h : dl H p a = some x) : a ≠ p ∧ H a = some x := by
  unfold dl at h
  split at h
  · cases h
  · rename_i n; exact ⟨n, h⟩
theorem dl_upd {H : Hp} {p : Addr} {x : HO} : dl (upd H p x) p = dl H p := funext fun a => by
  unfold dl
  split
  · rfl
  · rename_i n; exact upd_ne n
theorem dl_none {H : Hp} {p : Addr} (h : H p = none) : dl H p = H := funext fun a => by
  unfold dl
  split
  · rename_i e; rw [e, h]
  · rfl
theorem TB.dlK {K : PySem.W.Frag} {H : Hp} {p : Addr} {kvs : List (Key × V)} (t : TB K H) (h : H p = some (.dK kvs)) : TB K (dl H p) := by
  have ne : ∀ a y, H a = some y → (∀ k, y ≠ .dK k) → a ≠ p := fun a y e n z => by
    rw [z, h] at e; cases e; exact n _ rfl
  refine ⟨fun P ps e => t.tr P ps (dl_some e).2, fun P ps e pos cv hc => ?_, fun x hx c P hP => ?_⟩
  · obtain ⟨c, oc, u, vs, q, tt, h1, h2, h3⟩ := t.cd P ps (dl_some e).2 pos cv hc
    exact ⟨c, oc, u, vs, q, tt, h1, (dl_ne (ne c _ h2 fun _ z => nomatch z)).trans h2, h3⟩
  · obtain ⟨ps, e⟩ := t.is x hx c P hP
    exact ⟨ps, (dl_ne (ne P _ e fun _ z => nomatch z)).trans e⟩
theorem TB.updK {K : PySem.W.Frag} {H : Hp} {p : Addr} {kvs kvs' : List (Key × V)} (t : TB K H) (h : H p = some (.dK kvs)) : TB K (L2.upd H p (.dK kvs')) := by
  have ne : ∀ a y, H a = some y → (∀ k, y ≠ .dK k) → a ≠ p := fun a y e n z => by
    rw [z, h] at e; cases e; exact n _ rfl
  have bk : ∀ P ps, L2.upd H p (.dK kvs') P = some (.tbl ps) → H P = some (.tbl ps) := fun P ps e => by
    by_cases hP : P = p
    · rw [hP, upd_same] at e; cases e
    · rw [upd_ne hP] at e; exact e
  refine ⟨fun P ps e => t.tr P ps (bk P ps e), fun P ps e pos cv hc => ?_, fun x hx c P hP => ?_⟩
  · obtain ⟨c, oc, u, vs, q, tt, h1, h2, h3⟩ := t.cd P ps (bk P ps e) pos cv hc
    exact ⟨c, oc, u, vs, q, tt, h1, (upd_ne (ne c _ h2 fun _ z => nomatch z)).trans h2, h3⟩
  · obtain ⟨ps, e⟩ := t.is x hx c P hP
    exact ⟨ps, (upd_ne (ne P _ e fun _ z => nomatch z)).trans e⟩
structure DG (K : PySem.W.Frag) (tab : D) (v0 : V) (p : Addr) (kvs : List (Key × V)) (σ : St) (H : Hp) (w : Wn) : Prop where
  wl : WL K w H
  ws : ∀ a i, w a = some (.s i) → i < 3
  wt : ∀ a i, w a = some (.t i) → i < 0
  len : σ.length = 3
  s0 : σ[0]? = some (some v0)
  s1 : σ[1]? = some (some (.ref p))
  r0 : Rep K (dl H p) w .f 0 tab v0 []
  dk : H p = some (.dK kvs)
section
variable {K : PySem.W.Frag} {tab : D} {v0 : V} {p : Addr} {kvs kvs' : List (Key × V)} {σ : St} {H H' H0 : Hp} {w w' w0 : Wn}
theorem DG.np (d : DG K tab v0 p kvs σ H w) : w p = none := d.wl.no d.dk (fun _ z => nomatch z)
theorem DG.wld (d : DG K tab v0 p kvs σ H w) : WL K w (dl H p) := ⟨fun a o e => by
  obtain ⟨vs, q⟩ := d.wl.own a o e
  exact ⟨vs, (dl_ne (fun z => by rw [z, d.dk] at q; cases q)).trans q⟩, d.wl.tb.dlK d.dk⟩
theorem DG.rep (d : DG K tab v0 p kvs σ H w) : Rep K H w .f 0 tab v0 [] := d.r0.go0 d.wld fun a x e n => ⟨sm (dl_some e).2, n⟩
theorem DG.good (d : DG K tab v0 p kvs σ H w) (ht : tab.isL = false) : Good K [some (tab, 9), none, none] σ H w 0 := by
  refine ⟨d.wl, fun a i e => by rw [d.len]; exact d.ws a i e, d.wt, by rw [d.len]; rfl, fun i x q e => ?_⟩
  match i, e with
  | 0, e =>
    cases e
    exact ⟨v0, [], d.s0, ((d.rep.any d.wl).nolist ht).2 9⟩
  | 1, e => cases e
  | 2, e => cases e
  | i + 3, e => simp at e
theorem DG.good2 (d : DG K tab v0 p kvs σ H w) (ht : tab.isL = false) {k : Int} (h2 : σ[2]? = some (some (.int k))) : Good K [some (tab, 9), none, some (.int k, 9)] σ H w 0 := by
  refine ⟨d.wl, fun a i e => by rw [d.len]; exact d.ws a i e, d.wt, by rw [d.len]; rfl, fun i x q e => ?_⟩
  match i, e with
  | 0, e =>
    cases e
    exact ⟨v0, [], d.s0, ((d.rep.any d.wl).nolist ht).2 9⟩
  | 1, e => cases e
  | 2, e =>
    cases e
    exact ⟨.int k, [], h2, .int k⟩
  | i + 3, e => simp at e
theorem DG.step (d : DG K tab v0 p kvs σ H w) (go : Go H w H' w') (wl : WL K w' H') (ws : ∀ a i, w' a = some (.s i) → i < 3) (wt : ∀ a i, w' a = some (.t i) → i < 0) : DG K tab v0 p kvs σ H' w' := by
  refine ⟨wl, ws, wt, d.len, d.s0, d.s1, d.r0.go0 d.wld fun a x e n => ?_, (go.stab p _ d.dk d.np).1⟩
  obtain ⟨ne, e'⟩ := dl_some e
  rw [dl_ne ne]
  exact go.stab a x e' n
theorem DG.go (d : DG K tab v0 p kvs σ H w) {ρ : Rho} (go : Go H w H' w') (g : Good K ρ σ H' w' 0) : DG K tab v0 p kvs σ H' w' :=
  d.step go g.wl (fun a i e => by have := g.ws a i e; rw [d.len] at this; exact this) g.wt
theorem DG.goT (d : DG K tab v0 p kvs σ H w) {ρ : Rho} {t : Nat} (go : Go H w H' w') (g : Good K ρ σ H' w' t) : DG K tab v0 p kvs σ H' (dropT 0 w') ∧ Go H w H' (dropT 0 w') := by
  have g0 := g.drop (t' := 0)
  have go0 := go.drop d.wt
  exact ⟨d.go go0 g0, go0⟩
theorem DG.alloc (d : DG K tab v0 p kvs σ H w) {a : Addr} {x : HO} (hn : H a = none) (hx : isTb x = false) : DG K tab v0 p kvs σ (upd H a x) w ∧ Go H w (upd H a x) w := by
  have go : Go H w (upd H a x) w := ⟨fun b y e n => ⟨sm (by rw [upd_ne (ne_of_none e hn)]; exact e), n⟩, fun b o e _ => ⟨upd_ne (fun z => by
    obtain ⟨vs, q⟩ := d.wl.own b o e
    rw [z, hn] at q; cases q), e⟩⟩
  exact ⟨d.step go ⟨fun b o e => by
    obtain ⟨vs, q⟩ := d.wl.own b o e
    exact ⟨vs, by rw [upd_ne (ne_of_none q hn)]; exact q⟩, d.wl.tb.upd hx (.inl hn)⟩ d.ws d.wt, go⟩
theorem DG.put (d : DG K tab v0 p kvs σ H w) (kvs' : List (Key × V)) : DG K tab v0 p kvs' σ (upd H p (.dK kvs')) w :=
  ⟨⟨fun a o e => by
    obtain ⟨vs, q⟩ := d.wl.own a o e
    exact ⟨vs, by rw [upd_ne (fun z => by rw [z, d.dk] at q; cases q)]; exact q⟩, d.wl.tb.updK d.dk⟩, d.ws, d.wt, d.len, d.s0, d.s1, by rw [dl_upd]; exact d.r0, upd_same⟩
theorem DG.set2 (d : DG K tab v0 p kvs σ H w) (x : Option V) : DG K tab v0 p kvs (σ.set 2 x) H w :=
  ⟨d.wl, d.ws, d.wt, by rw [List.length_set]; exact d.len, by rw [List.getElem?_set_ne (by decide)]; exact d.s0, by rw [List.getElem?_set_ne (by decide)]; exact d.s1, d.r0, d.dk⟩
theorem DG.start {ρ : Rho} {q : Nat} (g : Good K ρ σ H w 0) (h0 : ρ[0]? = some (some (tab, q))) (ht : tab.isL = false) (h3 : ρ.length = 3) (hn : H p = none) : ∃ v0, DG K tab v0 p [] (σ.set 1 (some (.ref p))) (upd H p (.dK [])) w ∧ Go H w (upd H p (.dK [])) w := by
  obtain ⟨v0, F, e0, r⟩ := g.slot 0 tab q h0
  obtain ⟨rfl, hr⟩ := r.nolist ht
  have len : σ.length = 3 := by rw [← g.len]; exact h3
  have go : Go H w (upd H p (.dK [])) w := ⟨fun b y e n => ⟨sm (by rw [upd_ne (ne_of_none e hn)]; exact e), n⟩, fun b o e _ => ⟨upd_ne (fun z => by
    obtain ⟨vs, q⟩ := g.wl.own b o e
    rw [z, hn] at q; cases q), e⟩⟩
  refine ⟨v0, ⟨⟨fun b o e => by
    obtain ⟨vs, q⟩ := g.wl.own b o e
    exact ⟨vs, by rw [upd_ne (ne_of_none q hn)]; exact q⟩, g.wl.tb.upd rfl (.inl hn)⟩, fun a i e => by have := g.ws a i e; rw [len] at this; exact this, g.wt, by rw [List.length_set]; exact len, by rw [List.getElem?_set_ne (by decide)]; exact e0, by rw [List.getElem?_set_self (by omega)], ?_, upd_same⟩, go⟩
  rw [dl_upd, dl_none hn]
  exact (hr 0).any g.wl
theorem Go.dput (go : Go H0 w0 H w) (wl : WL K w0 H0) (hn : H0 p = none) (x : HO) : Go H0 w0 (upd H p x) w :=
  ⟨fun a y e n => by
    rw [upd_ne (ne_of_none e hn)]
    exact go.stab a y e n, fun a o e h => by
    obtain ⟨vs, q⟩ := wl.own a o e
    rw [upd_ne (ne_of_none q hn)]
    exact go.keep a o e h⟩
end
structure Fill (ks : List Int) (g : Int → Int) (tb : Int → List Int) (h : Int → Int) : Prop where
  nd : ks.Nodup
  few : ks.length < 64
  lt : ∀ k ∈ ks, ∀ x ∈ tb k, x ∈ ks ∧ g x < g k
noncomputable def tHL (K : PySem.W.Frag) (fb : Den) (is : List Nat) (ta : TA) (tv : TE) : TS := fun Dn σ H => ∃ tab v0 p w ks g tb h H0 w0, tab.isL = false ∧ DG K tab v0 p [] σ H w ∧ WL K w0 H0 ∧ H0 p = none ∧ Go H0 w0 H w ∧ Fill ks g tb h ∧ capD is [some (tab, 9), none, none] = some [tab] ∧ (∀ k ∈ ks, lamD fb [tab] [.int k] = some (.int (g k), 9)) ∧
  (∀ Q, (∀ x H1 w1, DG K tab v0 p [] σ H1 w1 → Go H w H1 w1 → ColK K H1 x ks → Q [x] H1) → ta σ H Q) ∧
  (∀ σ' H' w' kvs k, DG K tab v0 p kvs σ' H' w' → σ'[2]? = some (some (.int k)) → k ∈ ks → (∀ x ∈ tb k, valV kvs (.inl x) = some (.int (h x))) → ∀ Q, (∀ H2 w2, DG K tab v0 p kvs σ' H2 w2 → Go H' w' H2 w2 → Q (.int (h k)) H2) → tv σ' H' Q) ∧
  ∀ σ' H' w' kvs (ks' : List Int), ks'.Perm ks → DG K tab v0 p kvs σ' H' w' → Go H0 w0 H' w' → (∀ k ∈ ks, valV kvs (.inl k) = some (.int (h k))) → kvs.map (·.1) = ks'.map Sum.inl → Dn.nx σ' H'
theorem tFor_hl {K : PySem.W.Frag} {fb : Den} {is : List Nat} {ta : TA} {tv : TE} : ∀ Dn σ H, tHL K fb is ta tv Dn σ H → ∃ g, tFor (iSeq K (tSortK K ta fb is g)) (gName 2) (sDPut (tVar 1) (tVar 2) tv) Dn σ H := fun Dn σ H hh0 => by
  obtain ⟨tab, v0, p, w, ks, g, tb, h, H0, w0, ht, dg, wl0, hp0, go0, fl, hcap, hkey, harg, hval, hend⟩ := hh0
  refine ⟨g, [some (tab, 9), none, none], w, 0, dg.good ht, harg _ fun x H1 w1 dg1 go1 col => ⟨x, w1, ks, [tab], _, rfl, dg1.good ht, go1, col, hcap, fl.few, hkey, fun ks' pp H2 w2 hp hs g2 go2 hn => ?_⟩⟩
  have dg2 := dg1.go go2 g2
  obtain ⟨dg3, go3⟩ := dg2.alloc (x := .lst (ks'.map V.int)) hn rfl
  have hpp : pp ≠ p := fun z => by rw [z, dg2.dk] at hn; cases hn
  have npp : w2 pp = none := by
    cases q : w2 pp with
    | none => rfl
    | some o =>
      obtain ⟨vs, e⟩ := dg2.wl.own pp o q
      rw [hn] at e; cases e
  have nd' : ks'.Nodup := hp.nodup_iff.mpr fl.nd
  have hlen : (ks'.map V.int).length = ks'.length := List.length_map _
  refine ⟨pp, rfl, .inl ⟨⟨_, .inl (.inl upd_same)⟩, fun i m σ' H' => m = ks'.length - i ∧ i ≤ ks'.length ∧ ∃ w' kvs, DG K tab v0 p kvs σ' H' w' ∧ Go H0 w0 H' w' ∧ H' pp = some (.lst (ks'.map V.int)) ∧ w' pp = none ∧ kvs.map (·.1) = (ks'.take i).map Sum.inl ∧ ∀ k ∈ ks'.take i, valV kvs (.inl k) = some (.int (h k)),
    ⟨ks'.length, by simp, Nat.zero_le _, w2, [], dg3, (go0.trans go1).trans (go2.trans go3), upd_same, npp, by simp, fun k hk => by simp at hk⟩, ?_⟩⟩
  rintro i m σ' H' ⟨rfl, hile, w', kvs, d, go, hl, nl, hks, hv⟩
  by_cases hi : i < ks'.length
  · refine .inr ⟨⟨_, .int ks'[i], .inl (.inl hl), by simp [hi]⟩, fun σ2 H3 => ks'.length - (i + 1) = ks'.length - (i + 1) ∧ i + 1 ≤ ks'.length ∧ ∃ w' kvs, DG K tab v0 p kvs σ2 H3 w' ∧ Go H0 w0 H3 w' ∧ H3 pp = some (.lst (ks'.map V.int)) ∧ w' pp = none ∧ kvs.map (·.1) = (ks'.take (i + 1)).map Sum.inl ∧ ∀ k ∈ ks'.take (i + 1), valV kvs (.inl k) = some (.int (h k)),
      fun σ2 H3 n2 => ⟨ks'.length - (i + 1), by omega, n2⟩, fun x H3 hy => ?_⟩
    obtain ⟨rfl, hx⟩ := hy
    have ex := hx _ (.inl (.inl hl))
    simp only [List.getElem?_map, List.getElem?_eq_getElem hi, Option.map_some, Option.some.injEq] at ex
    subst ex
    have d2 := d.set2 (some (.int ks'[i]))
    have s2 : (σ'.set 2 (some (V.int ks'[i])))[2]? = some (some (.int ks'[i])) := List.getElem?_set_self (by rw [d.len]; decide)
    have hmem : ks'[i] ∈ ks := hp.mem_iff.mp (List.getElem_mem hi)
    refine hval _ _ _ _ _ d2 s2 hmem (fun x hx => ?_) _ fun H4 w4 d4 go4 => ?_
    · obtain ⟨h1, h2⟩ := fl.lt _ hmem x hx
      obtain ⟨j, hj, ej⟩ := List.mem_iff_getElem.mp (hp.mem_iff.mpr h1)
      refine hv x ?_
      have hji : j < i := by
        refine Classical.byContradiction fun c => ?_
        rcases Nat.lt_or_eq_of_le (Nat.not_lt.mp c) with z | z
        · have := List.pairwise_iff_getElem.mp hs i j hi hj z
          rw [ej] at this
          omega
        · subst z
          rw [← ej] at h2
          omega
      rw [← ej]
      exact List.mem_iff_getElem.mpr ⟨j, by rw [List.length_take]; omega, by simp⟩
    · refine ⟨.ref p, d4.s1, .int ks'[i], s2, p, _, rfl, DPut.k (k := .inl ks'[i]) d4.dk ?_, ?_⟩
      · have : kvs.length = ((ks'.take i).map Sum.inl : List Key).length := by rw [← hks, List.length_map]
        rw [this, List.length_map, List.length_take, sizeLine_eq]
        have := fl.few
        have := hp.length_eq
        omega
      · have hnew : valV kvs (.inl ks'[i] : Key) = none := by
          have any := valV_any (.inl ks'[i] : Key) kvs
          cases q : valV kvs (.inl ks'[i] : Key) with
          | none => rfl
          | some v =>
            rw [q] at any
            obtain ⟨kv, hkv, e⟩ := List.any_eq_true.mp any
            have e' : kv.1 = .inl ks'[i] := of_decide_eq_true e
            have : (Sum.inl ks'[i] : Key) ∈ (ks'.take i).map Sum.inl := by rw [← hks, ← e']; exact List.mem_map.mpr ⟨kv, hkv, rfl⟩
            obtain ⟨y, hy, ey⟩ := List.mem_map.mp this
            cases ey
            obtain ⟨j, hj, ej⟩ := List.mem_iff_getElem.mp hy
            rw [List.length_take] at hj
            rw [List.getElem_take] at ej
            exact absurd ej (List.pairwise_iff_getElem.mp nd' j i (by omega) hi (by omega))
        rw [putK_new _ hnew]
        have tk : ks'.take (i + 1) = ks'.take i ++ [ks'[i]] := by rw [List.take_add_one]; simp [hi]
        refine ⟨rfl, hi, w4, _, d4.put _, (go.trans go4).dput wl0 hp0 _, ?_, ?_, ?_, fun k hk => ?_⟩
        · rw [upd_ne hpp]
          exact (go4.stab pp _ hl nl).1
        · exact (go4.stab pp _ hl nl).2
        · rw [List.map_append, hks, tk, List.map_append]
          rfl
        · rw [valV_snoc _ _ _ _ hnew]
          rw [tk] at hk
          by_cases hkk : k = ks'[i]
          · rw [if_pos (by rw [hkk]), hkk]
          · rw [if_neg (fun z => hkk (by cases z; rfl))]
            rcases List.mem_append.mp hk with q | q
            · exact hv k q
            · exact absurd (List.mem_singleton.mp q) hkk
  · have hi' : i = ks'.length := Nat.le_antisymm hile (Nat.not_lt.mp hi)
    subst hi'
    rw [List.take_length] at hks hv
    exact .inl ⟨⟨_, .inl (.inl hl), by rw [hlen]; exact Nat.le_refl _⟩, hend σ' H' w' kvs ks' hp d go (fun k hk => hv k (hp.mem_iff.mpr hk)) hks⟩
end L3
set_option Elab.async false
set_option linter.all false
set_option maxRecDepth 100000
namespace L3
open PySem PySem.Spec PyProof.Rows PySem.W L2
noncomputable abbrev rngI (n : Nat) : List Int := (List.range n).map Int.ofNat
theorem rngI_nd (n : Nat) : (rngI n).Nodup := List.Pairwise.map _ (fun a b h z => h (by cases z; rfl)) List.nodup_range
noncomputable def Hgt (fb : Den) (Ft Fg : List D → Option (D × Nat)) (tab : D) (r : Int) : Prop := tab.isL = false ∧ ∃ (n : Nat) (g : Int → Int) (tb : Int → List Int) (h : Int → Int) (top : Int), lenD tab = some n ∧ n < 64 ∧ Fill (rngI n) g tb h ∧ (∀ k ∈ rngI n, lamD fb [tab] [.int k] = some (.int (g k), 9)) ∧
  (∀ k ∈ rngI n, (∃ q, Ft [tab, .int k] = some (.lst ((tb k).map D.int), q)) ∧ (tb k).length ≤ 1000 ∧ h k = maxD 0 ((tb k).map fun x => h x + 1)) ∧ (∃ q, Fg [tab] = some (.int top, q)) ∧ top ∈ rngI n ∧ r = h top
open Classical in
noncomputable def Fhgt (fb : Den) (Ft Fg : List D → Option (D × Nat)) : List D → Option (D × Nat)
  | [tab] => if h : ∃ r, Hgt fb Ft Fg tab r then some (.int (Classical.choose h), 9) else none
  | _ => none
open Classical in
theorem Fhgt_one {fb : Den} {Ft Fg : List D → Option (D × Nat)} {tab : D} {d : D} {q : Nat} (h : Fhgt fb Ft Fg [tab] = some (d, q)) : ∃ r, Hgt fb Ft Fg tab r ∧ d = .int r ∧ q = 9 := by
  have e : Fhgt fb Ft Fg [tab] = if h : ∃ r, Hgt fb Ft Fg tab r then some (D.int (Classical.choose h), 9) else none := rfl
  rw [e] at h
  by_cases hex : ∃ r, Hgt fb Ft Fg tab r
  · rw [dif_pos hex] at h
    have h' := Option.some.inj h
    exact ⟨_, Classical.choose_spec hex, (congrArg Prod.fst h').symm, (congrArg Prod.snd h').symm⟩
  · rw [dif_neg hex] at h
    cases h
noncomputable def dHgt (fb : Den) (Ft Fg : List D → Option (D × Nat)) : DenS := fun ρ => match ρ with
  | [some (tab, _), _, _] => match Fhgt fb Ft Fg [tab] with
    | some (d, q) => some (.rt d q)
    | none => none
  | _ => none
noncomputable def taH (K : PySem.W.Frag) : TA := tCons (tRange (tDA K (aCons (eLenV 0) aNil))) tNil
noncomputable def tcH (K : PySem.W.Frag) (Ft : List D → Option (D × Nat)) : TE := tComp 1 (tDI K (iVal (eCall Ft 2 (aCons (eVar 0) (aCons (eVar 2) aNil))))) (gName 3) tYes (tOp (rI0 fun i j => .int (i + j)) (tDGet (tVar 1) (tVar 3)) (tC (.int 1)))
noncomputable def tvH (K : PySem.W.Frag) (Ft : List D → Option (D × Nat)) : TE := tMaxD K (tCons (tcH K Ft) tNil) (tCons (tC (.int 0)) tNil)
section
variable {K : PySem.W.Frag} {tab : D} {v0 : V} {p : Addr} {kvs : List (Key × V)} {σ : St} {H : Hp} {w : Wn} {Ft Fg : List D → Option (D × Nat)} {fb : Den}
theorem arg_hgt (d : DG K tab v0 p kvs σ H w) (ht : tab.isL = false) {n : Nat} (hl : lenD tab = some n) (hn : n < 64) (Q : List V → Hp → Prop) (k : ∀ x H1 w1, DG K tab v0 p kvs σ H1 w1 → Go H w H1 w1 → ColK K H1 x (rngI n) → Q [x] H1) : taH K σ H Q := by
  refine ⟨[some (tab, 9), none, none], w, 0, [.int (Int.ofNat n)], [some (tab, 9), none, none], d.good ht, ?_, fun vs H1 w1 g1 go1 r1 => ?_⟩
  · simp [-Int.ofNat_eq_natCast, hl]
  · obtain ⟨v, rfl, rv⟩ := one r1
    cases rv
    refine ⟨Int.ofNat n, rfl, ?_, ?_, fun a hn' => ?_⟩
    · show -(2 ^ 62) ≤ (n : Int); omega
    · show (n : Int) < 2 ^ 62; omega
    · have d1 := d.go go1 g1
      obtain ⟨d2, go2⟩ := d1.alloc (x := .rng 0 (Int.ofNat n)) hn' rfl
      exact k _ _ _ d2 (go1.trans go2) (.inl ⟨a, Int.ofNat n, rfl, upd_same, by show (-1000 : Int) ≤ (n : Int); omega, by show (n : Int) ≤ 1000; omega, rfl⟩)
theorem comp_hgt {k : Int} {l : List Int} {h : Int → Int} {q : Nat} (d : DG K tab v0 p kvs σ H w) (ht : tab.isL = false) (h2 : σ[2]? = some (some (.int k))) (hF : Ft [tab, .int k] = some (.lst (l.map D.int), q)) (hl : l.length ≤ 1000) (hv : ∀ x ∈ l, valV kvs (.inl x) = some (.int (h x)))
    (Q : V → Hp → Prop) (kk : ∀ a H1 w1, DG K tab v0 p kvs σ H1 w1 → Go H w H1 w1 → H1 a = some (.lst ((l.map fun x => h x + 1).map V.int)) → Q (.ref a) H1) : tcH K Ft σ H Q := by
  refine ⟨[some (tab, 9), none, some (.int k, 9)], w, 0, l.map D.int, [some (tab, 9), none, some (.int k, 9)], d.good2 ht h2, ?_, fun J P H1 w1 g1 go1 ok p1 hz => ?_⟩
  · simp [ht, hF, hl]
  · have hll : (l.map D.int).length = l.length := List.length_map _
    have big : ∀ j, j ≤ 1000 → j < sizeLine := fun j hj => small1000 hj
    refine ⟨fun i m ys H' => m = l.length - i ∧ i ≤ l.length ∧ ys = ((l.take i).map fun x => h x + 1).map V.int ∧ ∃ w', DG K tab v0 p kvs σ H' w' ∧ Go H w H' w' ∧ P H' w', ⟨l.length, by simp, Nat.zero_le _, by simp, w1, d.go go1 g1, go1, p1⟩, ?_⟩
    rintro i m ys H' ⟨rfl, hile, rfl, w', d', go', p'⟩
    have hyl : (((l.take i).map fun x => h x + 1).map V.int).length = i := by rw [List.length_map, List.length_map, List.length_take]; omega
    refine ⟨by rw [hyl]; exact Nat.le_of_lt (big i (by omega)), ?_⟩
    by_cases hi : i < l.length
    · refine .inr ⟨ok.go i H' w' p' (by rw [hll]; exact hi), by rw [hyl]; exact big i (by omega), fun x H3 hy => ?_⟩
      obtain ⟨mo, rx, p3⟩ := ok.yld i H' w' x H3 (.int l[i]) p' d'.wl (by simp [hi]) hy
      cases rx
      obtain ⟨g3, go3⟩ := (d'.good ht).more mo
      have d3 := d'.go go3 g3
      have es : (σ ++ List.replicate 1 none).set 3 (some (V.int l[i])) = σ ++ [some (V.int l[i])] := by
        have hlen := d'.len
        rw [List.set_append_right _ _ (by omega), hlen]
        rfl
      show (∃ τ, (σ ++ List.replicate 1 none).set 3 (some (V.int l[i])) = σ ++ τ ∧ τ.length = 1) ∧ _
      rw [es]
      refine ⟨⟨_, rfl, rfl⟩, ?_⟩
      have s1 : (σ ++ [some (V.int l[i])])[1]? = some (some (.ref p)) := by rw [List.getElem?_append_left (by rw [d'.len]; decide)]; exact d'.s1
      have s3 : (σ ++ [some (V.int l[i])])[3]? = some (some (.int l[i])) := by
        rw [List.getElem?_append_right (by rw [d'.len]; decide), d'.len]
        rfl
      unfold tYes
      dsimp only
      rw [if_pos rfl]
      refine ⟨.ref p, s1, .int l[i], s3, p, .int (h l[i]), rfl, ?_, ?_⟩
      · have := DGet.k (k := .inl l[i]) d3.dk
        rw [hv _ (List.getElem_mem hi)] at this
        exact this
      · refine ⟨h l[i], 1, rfl, rfl, l.length - (i + 1), by omega, rfl, hi, ?_, w', d3, go'.trans go3, p3⟩
        have tk : l.take (i + 1) = l.take i ++ [l[i]] := by rw [List.take_add_one]; simp [hi]
        rw [tk, List.map_append, List.map_append]
        rfl
    · have hi' : i = l.length := Nat.le_antisymm hile (Nat.not_lt.mp hi)
      subst hi'
      have st := ok.stop H' w' p'
      rw [hll] at st
      refine .inl ⟨st, fun a hn => ?_⟩
      obtain ⟨d4, go4⟩ := d'.alloc (x := .lst (((l.take l.length).map fun x => h x + 1).map V.int)) hn rfl
      refine kk a _ _ d4 (go'.trans go4) ?_
      rw [upd_same, List.take_length]
theorem val_hgt {k : Int} {l : List Int} {h : Int → Int} {q : Nat} (d : DG K tab v0 p kvs σ H w) (ht : tab.isL = false) (h2 : σ[2]? = some (some (.int k))) (hF : Ft [tab, .int k] = some (.lst (l.map D.int), q)) (hl : l.length ≤ 1000) (hv : ∀ x ∈ l, valV kvs (.inl x) = some (.int (h x)))
    (Q : V → Hp → Prop) (kk : ∀ H1 w1, DG K tab v0 p kvs σ H1 w1 → Go H w H1 w1 → Q (.int (maxD 0 (l.map fun x => h x + 1))) H1) : tvH K Ft σ H Q :=
  comp_hgt d ht h2 hF hl hv (fun x H1 => tNil σ H1 fun xs H2 => tCons (tC (.int 0)) tNil σ H2 fun ys H3 => rMaxD K (x :: xs) ys H3 Q) fun a H1 w1 d1 go1 e1 => ⟨a, l.map fun x => h x + 1, 0, rfl, rfl, .inl (.inl e1), kk H1 w1 d1 go1⟩
end
theorem pds_hgt {X : Cx} {S1 S2 S4 : Stmt} {fb : Den} {Ft Fg : List D → Option (D × Nat)} (h1 : PS X S1 (tAsg tDNewK (gName 1))) (h2 : ∀ g, PS X S2 (tFor (iSeq X.K (tSortK X.K (taH X.K) fb [0] g)) (gName 2) (sDPut (tVar 1) (tVar 2) (tvH X.K Ft)))) (h4 : PS X S4 (tRet (tDGet (tVar 1) (tD X.K (eCall Fg 1 (aCons (eVar 0) aNil)))))) :
    PDSs X [S1, S2, S4] (dHgt fb Ft Fg) := by
  have h2' : PS X S2 (tHL X.K fb [0] (taH X.K) (tvH X.K Ft)) := fun pins s σ H D I q => by
    obtain ⟨g, hg⟩ := tFor_hl D σ H q
    exact h2 g pins s σ H D I hg
  refine PSs.imp (pss_cons h1 (pss_cons h2' (pss_one h4))) fun Dn σ H hh0 => ?_
  obtain ⟨ρ, w, o, gd, ee, kk⟩ := hh0
  unfold dHgt at ee
  split at ee
  · rename_i tab q0 a1 a2
    split at ee
    · rename_i d q hF
      cases ee
      obtain ⟨r, hh, rfl, rfl⟩ := Fhgt_one hF
      · obtain ⟨ht, n, g, tb, h, top, hlen, hn, fl, hk, hT, ⟨qg, hG⟩, htop, rfl⟩ := hh
        intro p hp
        obtain ⟨v0, dg, go⟩ := DG.start (p := p) gd rfl ht rfl hp
        refine ⟨tab, v0, p, w, rngI n, g, tb, h, H, w, ht, dg, gd.wl, hp, go, fl, by simp [capD, ht], hk, fun Q q => arg_hgt dg ht hlen hn Q q, fun σ' H' w' kvs k d' s2 hk' hv Q q => ?_, fun σ' H' w' kvs ks' hperm d' go' hv hkeys => ?_⟩
        · obtain ⟨⟨qt, e1⟩, e2, e3⟩ := hT k hk'
          refine val_hgt d' ht s2 e1 e2 hv Q fun H1 w1 d1 go1 => ?_
          rw [← e3]
          exact q H1 w1 d1 go1
        · refine ⟨.ref p, d'.s1, [some (tab, 9), none, none], w', 0, .int top, qg, [some (tab, 9), none, none], d'.good ht, by simp [ht, hG], fun v H2 w2 F g2 go2 r2 => ?_⟩
          cases r2
          obtain ⟨d2, go3⟩ := d'.goT go2 g2
          refine ⟨p, .int (h top), rfl, ?_, ?_⟩
          · have := DGet.k (k := .inl top) d2.dk
            rw [hv top htop] at this
            exact this
          · exact kk _ _ _ [] d2.wl (go'.trans go3) (.int _)
    · cases ee
  · cases ee
theorem Hgt.uniq {fb : Den} {Ft Fg : List D → Option (D × Nat)} {tab : D} {r r' : Int} (a : Hgt fb Ft Fg tab r) (b : Hgt fb Ft Fg tab r') : r = r' := by
  obtain ⟨_, n, g, tb, h, top, a1, a2, a3, a4, a5, ⟨q, a6⟩, a7, rfl⟩ := a
  obtain ⟨_, n', g', tb', h', top', b1, b2, b3, b4, b5, ⟨q', b6⟩, b7, rfl⟩ := b
  rw [a1] at b1; cases b1
  rw [a6] at b6; cases b6
  have hg : ∀ k ∈ rngI n, g k = g' k := fun k hk => by
    have := a4 k hk
    rw [b4 k hk] at this
    have this := congrArg Prod.fst (Option.some.inj this)
    injection this with e
    exact e.symm
  have inj : ∀ {x y : List Int}, x.map D.int = y.map D.int → x = y := fun {x y} e => List.map_inj_right (fun a b z => by cases z; rfl) |>.mp e
  have ht : ∀ k ∈ rngI n, tb k = tb' k := fun k hk => by
    obtain ⟨⟨q1, e1⟩, _⟩ := a5 k hk
    obtain ⟨⟨q2, e2⟩, _⟩ := b5 k hk
    rw [e1] at e2
    have := Option.some.inj e2
    have e3 : (tb k).map D.int = (tb' k).map D.int := by
      have := congrArg Prod.fst this
      cases hx : (tb k).map D.int with
      | nil => rw [hx] at this; injection this
      | cons c cs => rw [hx] at this; injection this
    exact inj e3
  have key : ∀ (m : Nat) (l : List Int), l.length ≤ m → l.Nodup → (∀ x ∈ l, x ∈ rngI n) → (∀ x ∈ rngI n, x ∉ l → h x = h' x) → (∀ x ∈ rngI n, h x = h' x) := by
    intro m
    induction m with
    | zero =>
      intro l hl _ _ hx x hxn
      have : l = [] := List.length_eq_zero_iff.mp (by omega)
      subst this
      exact hx x hxn (by simp)
    | succ m ih =>
      intro l hl nd hsub hx
      by_cases hne : l = []
      · subst hne
        exact fun x hxn => hx x hxn (by simp)
      · -- one of least key
        obtain ⟨k, hk, hmin⟩ : ∃ k ∈ l, ∀ y ∈ l, g k ≤ g y := by
          clear ih hx hsub nd hl
          induction l with
          | nil => exact absurd rfl hne
          | cons c cs ihc =>
            by_cases hcs : cs = []
            · subst hcs
              exact ⟨c, List.mem_cons_self, fun y hy => by rw [List.mem_singleton.mp hy]; exact Int.le_refl _⟩
            · obtain ⟨k, hk, hm⟩ := ihc hcs
              by_cases hck : g c ≤ g k
              · exact ⟨c, List.mem_cons_self, fun y hy => by
                  rcases List.mem_cons.mp hy with z | z
                  · rw [z]; exact Int.le_refl _
                  · exact Int.le_trans hck (hm y z)⟩
              · exact ⟨k, List.mem_cons_of_mem _ hk, fun y hy => by
                  rcases List.mem_cons.mp hy with z | z
                  · rw [z]; omega
                  · exact hm y z⟩
        have hkn := hsub k hk
        have hkk : h k = h' k := by
          rw [(a5 k hkn).2.2, (b5 k hkn).2.2, ← ht k hkn]
          congr 1
          refine List.map_congr_left fun x hx' => ?_
          obtain ⟨x1, x2⟩ := a3.lt k hkn x hx'
          rw [hx x x1 fun z => by have := hmin x z; omega]
        refine ih (l.erase k) (by rw [List.length_erase_of_mem hk]; omega) (nd.erase k) (fun x hx' => hsub x (List.mem_of_mem_erase hx')) fun x hxn hxl => ?_
        by_cases hxk : x = k
        · rw [hxk]; exact hkk
        · exact hx x hxn fun z => hxl ((List.mem_erase_of_ne hxk).mpr z)
  exact key _ (rngI n) (Nat.le_refl _) (rngI_nd n) (fun x hx => hx) (fun x hx z => absurd hx z) top a7
open Classical in
theorem Fhgt_eq {fb : Den} {Ft Fg : List D → Option (D × Nat)} {tab : D} {r : Int} (h : Hgt fb Ft Fg tab r) : Fhgt fb Ft Fg [tab] = some (.int r, 9) := by
  have hex : ∃ r, Hgt fb Ft Fg tab r := ⟨r, h⟩
  have e : Fhgt fb Ft Fg [tab] = if h : ∃ r, Hgt fb Ft Fg tab r then some (D.int (Classical.choose h), 9) else none := rfl
  rw [e, dif_pos hex, (Classical.choose_spec hex).uniq h]
end L3
namespace L3
open PySem PySem.Spec PyProof.Rows PySem.W L2
theorem Room.u1 {k : Nat} {A : Around} (r : Room k A) : A.units + 1 < cLine := by have := r.units; omega
end L3
set_option Elab.async false
set_option linter.all false
set_option maxRecDepth 100000
namespace L3
open PySem PySem.Spec PyProof.Rows PySem.W L2
noncomputable def Itd (p : Addr) (ob : Obj) (kvs : List (Key × V)) : It :=
  ⟨fun i H => H p = some (.frz ob (.dK kvs)) ∧ i < kvs.length, fun i H x H' => H' = H ∧ ∃ kv, kvs[i]? = some kv ∧ x = kV kv.1, fun i H => H p = some (.frz ob (.dK kvs)) ∧ kvs.length ≤ i⟩
theorem key_rel {P : Program} {w : World} {k : Key} {u : Value} (h : (mixKind P w).is k u = true) : RelV (kV k) u := by
  cases k with
  | inl i =>
    have h' : Value.isInt i u = true := h
    cases u <;> simp [Value.isInt] at h'
    subst h'
    exact ⟨_, rfl⟩
  | inr x =>
    have h' : Value.isStrOf x u = true := h
    cases u <;> simp [Value.isStrOf] at h'
    subst h'
    exact ⟨_, rfl⟩
theorem fz_at {P : Program} {w : World} {H : Hp} {h : Heap} {p : Addr} {ob : Obj} {kvs : List (Key × V)} {es0 : Array DictEntry} {ep : Nat} (ok : HOk P w H h) (hp : H p = some (.frz ob (.dK kvs))) (hob : ob.data = .dict es0 ep) : ∃ vs, KV kvs vs ∧ h.DictAt (mixKind P w) p vs ep := by
  obtain ⟨e, z, y, vs, kv, o, es, ep', ho, x1, x2, x3⟩ := (show ObjOk P w H h p (.frz ob (.dK kvs)) from ok p _ hp)
  rw [e] at ho
  cases ho
  rw [hob] at x2
  cases x2
  exact ⟨vs, kv, ob, _, e, x1, hob, x3⟩
theorem kv_at {kvs : List (Key × V)} {vs : List (Key × Value)} (r : KV kvs vs) {i : Nat} {kv : Key × V} (h : kvs[i]? = some kv) : ∃ v, vs[i]? = some (kv.1, v) := by
  have hk := r.keys
  have : (kvs.map (·.1))[i]? = some kv.1 := by rw [List.getElem?_map, h]; rfl
  rw [hk, List.getElem?_map] at this
  cases e : vs[i]? with
  | none => rw [e] at this; cases this
  | some q =>
    rw [e] at this
    obtain ⟨a, b⟩ := q
    have h2 := Option.some.inj this
    dsimp only at h2
    subst h2
    exact ⟨b, rfl⟩
theorem turn_dict {P : Program} {w : World} {K : PySem.W.Frag} {tg : Expr} (p it : Addr) {ob : Obj} {kvs : List (Key × V)} {es0 : Array DictEntry} {ep : Nat} (hob : ob.data = .dict es0 ep) : Turn P w K tg (Itd p ob kvs) [it] it (fun i h => h.IsKeyIter it p i kvs.length ep) where
  mem := by simp
  obj := fun i h st b hb => by
    have e : b = it := by simpa using hb
    subst e
    obtain ⟨o, e, c, d⟩ := st
    exact ⟨o, e, fun v z => by rw [d] at z; cases z⟩
  keep := fun i h h' st k => st.at fun o e => k it (by simp) o e
  item := by
    intro X hP hw hK hc i pins s σ H E I hf st hg
    subst hP hw hK
    obtain ⟨hp, hi⟩ := hg
    obtain ⟨vs, kv, da⟩ := fz_at I.hok hp hob
    have hx : kvs[i]? = some kvs[i] := List.getElem?_eq_getElem hi
    obtain ⟨v, hv⟩ := kv_at kv hx
    obtain ⟨f0, f1, f2, f3, f4, f5⟩ := hf it (by simp)
    rw [kv.length] at st
    refine wpAny_pyNext_dict_item st da hv fun key h' his st' sb => ?_
    have I1 : Inv X pins σ H { s with heap := h' } := I.turned (t' := s.toks) (fun b o hb e => (sb.2 b hb).trans e) f0 f1 f3 f4 f5
    rw [← kv.length] at st'
    obtain ⟨o, e, c, d⟩ := id st'
    exact ⟨key, rfl, go_of (s := { s with heap := h' }) e c d (by decide) ⟨kV kvs[i].1, H, I1, key_rel his, ⟨rfl, kvs[i], hx, rfl⟩, st', fun b hb => (hf b hb).1⟩⟩
  done := by
    intro X hP hw hK hc i pins s σ H E I hf st hg
    subst hP hw hK
    obtain ⟨hp, hi⟩ := hg
    obtain ⟨vs, kv, da⟩ := fz_at I.hok hp hob
    obtain ⟨f0, f1, f2, f3, f4, f5⟩ := hf it (by simp)
    rw [kv.length] at st
    exact wpAny_pyNext_dict_end (I.ok.hd hc) st da (List.getElem?_eq_none (by rw [← kv.length]; exact hi)) fun h' eb => ⟨rfl, I.turned (t' := s.toks) (fun b o hb e => eb b o hb e) f0 f1 f3 f4 f5⟩
  self := fun _ _ _ _ _ st h => wpAny_pyIter_keyiter st h
section
variable {X : Cx} {pins : List (Addr × Obj)} {σ : St} {H : Hp} {s : Shared}
theorem inv_fz {p : Addr} {kvs : List (Key × V)} {ob : Obj} (I : Inv X pins σ H s) (hp : H p = some (.dK kvs)) (ho : s.heap.get? p = some ob) : Inv X pins σ (upd H p (.frz ob (.dK kvs))) s := by
  have ne : ∀ b u, H b = some u → (∀ k, u ≠ .dK k) → b ≠ p := fun b u e n z => by
    rw [z, hp] at e; cases e; exact n _ rfl
  have := I.un (h' := s.heap) (t' := s.toks) (H' := upd H p (.frz ob (.dK kvs))) ⟨fun b o q n _ _ => q, fun b o q n _ _ => ⟨o.slots, q⟩, fun b o q n _ => by rw [upd_ne (fun z => by rw [z, hp] at n; cases n)]; exact n, fun b o q _ => ⟨o, q⟩, fun b xs e => by rw [upd_ne (ne b _ e fun _ z => nomatch z)]; exact e, fun b o u e => by rw [upd_ne (ne b _ e fun _ z => nomatch z)]; exact e, fun b ps e => ⟨#[], by rw [upd_ne (ne b _ e fun _ z => nomatch z), e]; simp⟩⟩ (fun b u e => by
    have st : ∀ {b : Addr} {u : HO}, ObjOk X.prog X.w H s.heap b u → ObjOk X.prog X.w (upd H p (.frz ob (.dK kvs))) s.heap b u := fun x => x.stay (fun _ _ _ q => q) (fun c q => by rw [upd_ne (ne c _ q fun _ z => nomatch z)]; exact q) fun c xs q => by rw [upd_ne (ne c _ q fun _ z => nomatch z)]; exact q
    by_cases hb : b = p
    · subst hb
      rw [upd_same] at e
      cases e
      exact ⟨ho, st (I.hok _ _ hp)⟩
    · rw [upd_ne hb] at e
      exact st (I.hok b u e))
  exact this
noncomputable def iDict (te : TE) : TI := fun σ H R => te σ H fun x H1 => ∃ p kvs, x = .ref p ∧ H1 p = some (.dK kvs) ∧ ∀ ob, R (Itd p ob kvs) (upd H1 p (.frz ob (.dK kvs)))
theorem pi_dict {tg e : Expr} {te : TE} (h : PE X e te) : PI X tg e (iDict te) := by
  intro pins s σ H R I q
  refine thn (h pins s σ H _ I q) fun v s1 ⟨x, H1, I1, r1, q1⟩ => ?_
  obtain ⟨p, kvs, ex, hp, k⟩ := q1
  subst ex
  cases r1
  obtain ⟨z, y, vs, kv, dd⟩ := (show ObjOk X.prog X.w H1 s1.heap p (.dK kvs) from I1.hok p _ hp)
  obtain ⟨ep, da⟩ := dd.dictAt
  obtain ⟨ob, es, ho, x1, hd, x3⟩ := id da
  refine wpAny_pyIter_dict y da ?_
  have I2 := inv_fz I1 hp ho
  refine ⟨s1.heap.objs.size, [s1.heap.objs.size], _, Itd p ob kvs, _, rfl, I2.kept (t' := s1.toks) fun b o e => Heap.get?_push_of_some _ e, turn_dict p _ hd, ⟨_, Heap.get?_push_size _ rfl, rfl, by rw [kv.length]; rfl⟩, fun b hb => ?_, k ob⟩
  have e : b = s1.heap.objs.size := by simpa using hb
  subst e
  exact I2.fpOk (Nat.le_refl _) (I2.hok.fresh (Nat.le_refl _))
end
end L3
set_option Elab.async false
set_option linter.all false
set_option maxRecDepth 100000
namespace L3
open PySem PySem.Spec PyProof.Rows PySem.W L2
theorem fill_uniq {ks : List Int} {g : Int → Int} {tb : Int → List Int} {h h' : Int → Int} (fl : Fill ks g tb h) (e : ∀ k ∈ ks, (∀ x ∈ tb k, h x = h' x) → h k = h' k) : ∀ k ∈ ks, h k = h' k := by
  have key : ∀ (m : Nat) (l : List Int), l.length ≤ m → l.Nodup → (∀ x ∈ l, x ∈ ks) → (∀ x ∈ ks, x ∉ l → h x = h' x) → (∀ x ∈ ks, h x = h' x) := by
    intro m
    induction m with
    | zero =>
      intro l hl _ _ hx x hxn
      have : l = [] := List.length_eq_zero_iff.mp (by omega)
      subst this
      exact hx x hxn (by simp)
    | succ m ih =>
      intro l hl nd hsub hx
      by_cases hne : l = []
      · subst hne
        exact fun x hxn => hx x hxn (by simp)
      · obtain ⟨k, hk, hmin⟩ : ∃ k ∈ l, ∀ y ∈ l, g k ≤ g y := by
          clear ih hx hsub nd hl
          induction l with
          | nil => exact absurd rfl hne
          | cons c cs ihc =>
            by_cases hcs : cs = []
            · subst hcs
              exact ⟨c, List.mem_cons_self, fun y hy => by rw [List.mem_singleton.mp hy]; exact Int.le_refl _⟩
            · obtain ⟨k, hk, hm⟩ := ihc hcs
              by_cases hck : g c ≤ g k
              · exact ⟨c, List.mem_cons_self, fun y hy => by
                  rcases List.mem_cons.mp hy with z | z
                  · rw [z]; exact Int.le_refl _
                  · exact Int.le_trans hck (hm y z)⟩
              · exact ⟨k, List.mem_cons_of_mem _ hk, fun y hy => by
                  rcases List.mem_cons.mp hy with z | z
                  · rw [z]; omega
                  · exact hm y z⟩
        have hkn := hsub k hk
        have hkk : h k = h' k := e k hkn fun x hx' => by
          obtain ⟨x1, x2⟩ := fl.lt k hkn x hx'
          exact hx x x1 fun z => by have := hmin x z; omega
        refine ih (l.erase k) (by rw [List.length_erase_of_mem hk]; omega) (nd.erase k) (fun x hx' => hsub x (List.mem_of_mem_erase hx')) fun x hxn hxl => ?_
        by_cases hxk : x = k
        · rw [hxk]; exact hkk
        · exact hx x hxn fun z => hxl ((List.mem_erase_of_ne hxk).mpr z)
  exact key _ ks (Nat.le_refl _) fl.nd (fun x hx => hx) (fun x hx z => absurd hx z)
noncomputable abbrev oth (k : Int) (l : List Int) : List Int := l.filter fun x => !decide (x = k)
noncomputable def Hig (fb : Den) (Fu : List D → Option (D × Nat)) (tab : D) (r : Int) : Prop := tab.isL = false ∧ ∃ (n : Nat) (g : Int → Int) (un : Int → List Int) (h : Int → Int), lenD tab = some n ∧ 0 < n ∧ n < 64 ∧ Fill (rngI n) g (fun k => oth k (un k)) h ∧ (∀ k ∈ rngI n, lamD fb [tab] [.int k] = some (.int (g k), 9)) ∧
  (∀ k ∈ rngI n, (∃ q, Fu [tab, .int k] = some (.lst ((un k).map D.int), q)) ∧ (un k).length ≤ 500 ∧ h k = maxI 0 ((oth k (un k)).map fun x => 1 + h x)) ∧ (∀ k ∈ rngI n, h k ≤ r) ∧ ∃ k ∈ rngI n, h k = r
open Classical in
noncomputable def Fhig (fb : Den) (Fu : List D → Option (D × Nat)) : List D → Option (D × Nat)
  | [tab] => if h : ∃ r, Hig fb Fu tab r then some (.int (Classical.choose h), 9) else none
  | _ => none
open Classical in
theorem Fhig_one {fb : Den} {Fu : List D → Option (D × Nat)} {tab : D} {d : D} {q : Nat} (h : Fhig fb Fu [tab] = some (d, q)) : ∃ r, Hig fb Fu tab r ∧ d = .int r ∧ q = 9 := by
  have e : Fhig fb Fu [tab] = if h : ∃ r, Hig fb Fu tab r then some (D.int (Classical.choose h), 9) else none := rfl
  rw [e] at h
  by_cases hex : ∃ r, Hig fb Fu tab r
  · rw [dif_pos hex] at h
    have h' := Option.some.inj h
    exact ⟨_, Classical.choose_spec hex, (congrArg Prod.fst h').symm, (congrArg Prod.snd h').symm⟩
  · rw [dif_neg hex] at h
    cases h
noncomputable def dHig (fb : Den) (Fu : List D → Option (D × Nat)) : DenS := fun ρ => match ρ with
  | [some (tab, _), _, _] => match Fhig fb Fu [tab] with
    | some (d, q) => some (.rt d q)
    | none => none
  | _ => none
noncomputable def taL (K : PySem.W.Frag) : TA := tCons (tD K (eListR (aCons (eLenV 0) aNil))) tNil
noncomputable def tcL (K : PySem.W.Frag) (Fu : List D → Option (D × Nat)) : TE := tComp 1 (tDI K (iVal (eCall Fu 2 (aCons (eVar 0) (aCons (eVar 2) aNil))))) (gName 3) (tTest (tOp rNe (tVar 3) (tVar 2))) (tOp (rI0 fun i j => .int (i + j)) (tC (.int 1)) (tDGet (tVar 1) (tVar 3)))
noncomputable def rMaxL (K : PySem.W.Frag) : List V → Hp → VK → Prop := fun xs H Q => ∃ t k ks, xs = [.ref t] ∧ SqL K H t ((k :: ks).map V.int) ∧ Q (.int (maxI k ks)) H
noncomputable def tvL (K : PySem.W.Frag) (Fu : List D → Option (D × Nat)) : TE := tCB (rMaxL K) (tCons (tOp (rCatL K) (tLst (tCons (tC (.int 0)) tNil)) (tcL K Fu)) tNil)
noncomputable def trL (K : PySem.W.Frag) : TE := tCB (rMaxL K) (tCons (tComp 1 (iDict (tVar 1)) (gName 3) tYes (tDGet (tVar 1) (tVar 3))) tNil)
section
variable {K : PySem.W.Frag} {tab : D} {v0 : V} {p : Addr} {kvs : List (Key × V)} {σ : St} {H : Hp} {w : Wn} {Fu : List D → Option (D × Nat)} {fb : Den}
theorem arg_hig (d : DG K tab v0 p kvs σ H w) (ht : tab.isL = false) {n : Nat} (hl : lenD tab = some n) (hn : n < 64) (Q : List V → Hp → Prop) (k : ∀ x H1 w1, DG K tab v0 p kvs σ H1 w1 → Go H w H1 w1 → ColK K H1 x (rngI n) → Q [x] H1) : taL K σ H Q := by
  have b1 : (-1000 : Int) ≤ Int.ofNat n := by show (-1000 : Int) ≤ (n : Int); omega
  have b2 : Int.ofNat n ≤ 1000 := by show (n : Int) ≤ 1000; omega
  refine ⟨[some (tab, 9), none, none], w, 0, .lst ((rngI n).map D.int), 1, [some (tab, 9), none, none], d.good ht, ?_, fun v H1 w1 F g1 go1 r1 => ?_⟩
  · have e : iRange (aCons (eLenV 0) aNil) [some (tab, 9), none, none] = some ((rngI n).map D.int, [some (tab, 9), none, none]) := by
      simp only [iRange, aCons, aNil, eLenV, List.getElem?_cons_zero, hl]
      rw [if_pos ⟨b1, b2⟩]
      congr 2
      show (List.range n).map _ = ((List.range n).map Int.ofNat).map D.int
      rw [List.map_map]
      rfl
    unfold eListR
    rw [e]
  · obtain ⟨p1, vs, rfl, hsq, rs⟩ := r1.seqV (by decide)
    have ev := repsI2 rs
    subst ev
    obtain ⟨d1, go1'⟩ := d.goT go1 g1
    exact k _ _ _ d1 go1' (.inr ⟨p1, rfl, hsq⟩)
theorem comp_hig {k : Int} {l : List Int} {h : Int → Int} {q : Nat} (d : DG K tab v0 p kvs σ H w) (ht : tab.isL = false) (h2 : σ[2]? = some (some (.int k))) (hF : Fu [tab, .int k] = some (.lst (l.map D.int), q)) (hl : l.length ≤ 500) (hv : ∀ x ∈ oth k l, valV kvs (.inl x) = some (.int (h x)))
    (Q : V → Hp → Prop) (kk : ∀ a H1 w1, DG K tab v0 p kvs σ H1 w1 → Go H w H1 w1 → H1 a = some (.lst (((oth k l).map fun x => 1 + h x).map V.int)) → Q (.ref a) H1) : tcL K Fu σ H Q := by
  refine ⟨[some (tab, 9), none, some (.int k, 9)], w, 0, l.map D.int, [some (tab, 9), none, some (.int k, 9)], d.good2 ht h2, ?_, fun J P H1 w1 g1 go1 ok p1 hz => ?_⟩
  · have hl' : l.length ≤ 1000 := by omega
    simp [ht, hF, hl']
  · have hll : (l.map D.int).length = l.length := List.length_map _
    have big : ∀ j, j ≤ 1000 → j < sizeLine := fun j hj => small1000 hj
    refine ⟨fun i m ys H' => m = l.length - i ∧ i ≤ l.length ∧ ys = ((oth k (l.take i)).map fun x => 1 + h x).map V.int ∧ ∃ w', DG K tab v0 p kvs σ H' w' ∧ Go H w H' w' ∧ P H' w', ⟨l.length, by simp, Nat.zero_le _, by simp, w1, d.go go1 g1, go1, p1⟩, ?_⟩
    rintro i m ys H' ⟨rfl, hile, rfl, w', d', go', p'⟩
    have hyl : (((oth k (l.take i)).map fun x => 1 + h x).map V.int).length ≤ i := by
      rw [List.length_map, List.length_map]
      refine Nat.le_trans (List.length_filter_le _ _) ?_
      rw [List.length_take]; omega
    refine ⟨Nat.le_of_lt (Nat.lt_of_le_of_lt hyl (big i (by omega))), ?_⟩
    by_cases hi : i < l.length
    · refine .inr ⟨ok.go i H' w' p' (by rw [hll]; exact hi), Nat.lt_of_le_of_lt hyl (big i (by omega)), fun x H3 hy => ?_⟩
      obtain ⟨mo, rx, p3⟩ := ok.yld i H' w' x H3 (.int l[i]) p' d'.wl (by simp [hi]) hy
      cases rx
      obtain ⟨g3, go3⟩ := (d'.good ht).more mo
      have d3 := d'.go go3 g3
      have es : (σ ++ List.replicate 1 none).set 3 (some (V.int l[i])) = σ ++ [some (V.int l[i])] := by
        have hlen := d'.len
        rw [List.set_append_right _ _ (by omega), hlen]
        rfl
      show (∃ τ, (σ ++ List.replicate 1 none).set 3 (some (V.int l[i])) = σ ++ τ ∧ τ.length = 1) ∧ _
      rw [es]
      refine ⟨⟨_, rfl, rfl⟩, ?_⟩
      have s1 : (σ ++ [some (V.int l[i])])[1]? = some (some (.ref p)) := by rw [List.getElem?_append_left (by rw [d'.len]; decide)]; exact d'.s1
      have s2 : (σ ++ [some (V.int l[i])])[2]? = some (some (.int k)) := by rw [List.getElem?_append_left (by rw [d'.len]; decide)]; exact h2
      have s3 : (σ ++ [some (V.int l[i])])[3]? = some (some (.int l[i])) := by
        rw [List.getElem?_append_right (by rw [d'.len]; decide), d'.len]
        rfl
      have tk : l.take (i + 1) = l.take i ++ [l[i]] := by rw [List.take_add_one]; simp [hi]
      refine ⟨.int l[i], s3, .int k, s2, rfl, _, rfl, ?_⟩
      by_cases hk : l[i] = k
      · have e1 : decide (V.int l[i] = V.int k) = true := decide_eq_true (by rw [hk])
        dsimp only
        rw [e1]
        show if false = true then _ else _
        rw [if_neg (by decide)]
        refine ⟨l.length - (i + 1), by omega, rfl, hi, ?_, w', d3, go'.trans go3, p3⟩
        have e2 : oth k (l.take (i + 1)) = oth k (l.take i) := by
          rw [tk]
          unfold oth
          rw [List.filter_append]
          simp [hk]
        rw [e2]
      · have e1 : decide (V.int l[i] = V.int k) = false := decide_eq_false fun z => hk (by cases z; rfl)
        dsimp only
        rw [e1]
        show if true = true then _ else _
        rw [if_pos rfl]
        have hm : l[i] ∈ oth k l := List.mem_filter.mpr ⟨List.getElem_mem hi, by rw [decide_eq_false hk]; rfl⟩
        refine ⟨.ref p, s1, .int l[i], s3, p, .int (h l[i]), rfl, ?_, ?_⟩
        · have := DGet.k (k := .inl l[i]) d3.dk
          rw [hv _ hm] at this
          exact this
        · refine ⟨1, h l[i], rfl, rfl, l.length - (i + 1), by omega, rfl, hi, ?_, w', d3, go'.trans go3, p3⟩
          have e2 : oth k (l.take (i + 1)) = oth k (l.take i) ++ [l[i]] := by
            rw [tk]
            unfold oth
            rw [List.filter_append]
            simp [hk]
          rw [e2, List.map_append, List.map_append]
          rfl
    · have hi' : i = l.length := Nat.le_antisymm hile (Nat.not_lt.mp hi)
      subst hi'
      have st := ok.stop H' w' p'
      rw [hll] at st
      refine .inl ⟨st, fun a hn => ?_⟩
      obtain ⟨d4, go4⟩ := d'.alloc (x := .lst (((oth k (l.take l.length)).map fun x => 1 + h x).map V.int)) hn rfl
      refine kk a _ _ d4 (go'.trans go4) ?_
      rw [upd_same, List.take_length]
theorem val_hig {k : Int} {l : List Int} {h : Int → Int} {q : Nat} (d : DG K tab v0 p kvs σ H w) (ht : tab.isL = false) (h2 : σ[2]? = some (some (.int k))) (hF : Fu [tab, .int k] = some (.lst (l.map D.int), q)) (hl : l.length ≤ 500) (hv : ∀ x ∈ oth k l, valV kvs (.inl x) = some (.int (h x)))
    (Q : V → Hp → Prop) (kk : ∀ H1 w1, DG K tab v0 p kvs σ H1 w1 → Go H w H1 w1 → Q (.int (maxI 0 ((oth k l).map fun x => 1 + h x))) H1) : tvL K Fu σ H Q := by
  refine ⟨by show 1 ≤ sizeLine; exact Nat.le_of_lt (small1000 (by decide)), fun a ha => ?_⟩
  obtain ⟨d1, go1⟩ := d.alloc (x := .lst [.int 0]) ha rfl
  have na : w a = none := by
    cases q : w a with
    | none => rfl
    | some o =>
      obtain ⟨vs, e⟩ := d.wl.own a o q
      rw [ha] at e; cases e
  refine comp_hig d1 ht h2 hF hl hv _ fun b H1 w1 d2 go2 e2 => ?_
  have ea : H1 a = some (.lst [.int 0]) := (go2.stab a _ upd_same na).1
  have hol : (oth k l).length ≤ 500 := Nat.le_trans (List.length_filter_le _ _) hl
  refine ⟨a, b, _, _, rfl, rfl, .inl (.inl ea), .inl (.inl e2), ?_, fun c hc => ?_⟩
  · rw [List.length_map, List.length_map]
    exact Nat.le_of_lt (small1000 (by show 1 + _ ≤ 1000; omega))
  · obtain ⟨d3, go3⟩ := d2.alloc (x := .lst ([.int 0] ++ ((oth k l).map fun x => 1 + h x).map V.int)) hc rfl
    exact ⟨c, 0, (oth k l).map fun x => 1 + h x, rfl, .inl (.inl upd_same), kk _ _ d3 ((go1.trans go2).trans go3)⟩
theorem ret_hig {h : Int → Int} {k0 : Int} {ks : List Int} (d : DG K tab v0 p kvs σ H w) (hk : kvs.map (·.1) = (k0 :: ks).map Sum.inl) (hv : ∀ k ∈ k0 :: ks, valV kvs (.inl k) = some (.int (h k))) (hs : ks.length < 500)
    (Q : V → Hp → Prop) (kk : ∀ H1, (∀ b, b ≠ p → H b ≠ none → H1 b = H b) → (∀ b ps, H1 b = some (.tbl ps) → H b = some (.tbl ps)) → Q (.int (maxI (h k0) (ks.map h))) H1) : trL K σ H Q := by
  have len : kvs.length = (k0 :: ks).length := by
    have := congrArg List.length hk
    rw [List.length_map, List.length_map] at this
    exact this
  refine ⟨.ref p, d.s1, p, kvs, rfl, d.dk, fun ob => ?_⟩
  refine ⟨fun i m ys H' => m = kvs.length - i ∧ i ≤ kvs.length ∧ ys = (((k0 :: ks).take i).map h).map V.int ∧ H' = upd H p (.frz ob (.dK kvs)), ⟨kvs.length, by simp, Nat.zero_le _, by simp, rfl⟩, ?_⟩
  rintro i m ys H' ⟨rfl, hile, rfl, rfl⟩
  have hyl : ((((k0 :: ks).take i).map h).map V.int).length = i := by rw [List.length_map, List.length_map, List.length_take]; omega
  have big : i < sizeLine := small1000 (by rw [List.length_cons] at len; omega)
  refine ⟨by rw [hyl]; exact Nat.le_of_lt big, ?_⟩
  by_cases hi : i < kvs.length
  · refine .inr ⟨⟨upd_same, hi⟩, by rw [hyl]; exact big, fun x H3 hy => ?_⟩
    obtain ⟨rfl, kv, e1, rfl⟩ := hy
    have hi' : i < (k0 :: ks).length := by rw [← len]; exact hi
    have ek : kv.1 = .inl (k0 :: ks)[i] := by
      have := congrArg (·[i]?) hk
      simp only [List.getElem?_map, e1, List.getElem?_eq_getElem hi', Option.map_some, Option.some.injEq] at this
      exact this
    rw [ek]
    have es : (σ ++ List.replicate 1 none).set 3 (some (kV (Sum.inl (k0 :: ks)[i]))) = σ ++ [some (V.int (k0 :: ks)[i])] := by
      have hlen := d.len
      rw [List.set_append_right _ _ (by omega), hlen]
      rfl
    show (∃ τ, (σ ++ List.replicate 1 none).set 3 (some (kV (Sum.inl (k0 :: ks)[i]))) = σ ++ τ ∧ τ.length = 1) ∧ _
    rw [es]
    refine ⟨⟨_, rfl, rfl⟩, ?_⟩
    unfold tYes
    dsimp only
    rw [if_pos rfl]
    have s1 : (σ ++ [some (V.int (k0 :: ks)[i])])[1]? = some (some (.ref p)) := by rw [List.getElem?_append_left (by rw [d.len]; decide)]; exact d.s1
    have s3 : (σ ++ [some (V.int (k0 :: ks)[i])])[3]? = some (some (.int (k0 :: ks)[i])) := by
      rw [List.getElem?_append_right (by rw [d.len]; decide), d.len]
      rfl
    refine ⟨.ref p, s1, .int (k0 :: ks)[i], s3, p, .int (h (k0 :: ks)[i]), rfl, .inl ⟨kvs, .inl (k0 :: ks)[i], .inr ⟨ob, upd_same⟩, rfl, ?_⟩, kvs.length - (i + 1), by omega, rfl, hi, ?_, rfl⟩
    · rw [hv _ (List.getElem_mem hi')]
    · have tk : (k0 :: ks).take (i + 1) = (k0 :: ks).take i ++ [(k0 :: ks)[i]] := by rw [List.take_add_one, List.getElem?_eq_getElem hi']; rfl
      rw [tk, List.map_append, List.map_append]
      rfl
  · have hi' : i = kvs.length := Nat.le_antisymm hile (Nat.not_lt.mp hi)
    subst hi'
    refine .inl ⟨⟨upd_same, Nat.le_refl _⟩, fun a hn => ?_⟩
    have et : (k0 :: ks).take kvs.length = k0 :: ks := List.take_of_length_le (by omega)
    rw [et]
    refine ⟨a, h k0, ks.map h, rfl, .inl (.inl upd_same), kk _ (fun b nb hb => ?_) fun b ps e => ?_⟩
    · have nb2 : b ≠ a := fun z => by
        rw [z] at hb
        rw [upd_ne (fun z2 => nb (z.trans z2))] at hn
        exact hb hn
      rw [upd_ne nb2, upd_ne nb]
    · by_cases h1 : b = a
      · rw [h1, upd_same] at e; cases e
      · rw [upd_ne h1] at e
        by_cases h2 : b = p
        · rw [h2, upd_same] at e; cases e
        · rw [upd_ne h2] at e; exact e
end
theorem pds_hig {X : Cx} {S1 S2 S4 : Stmt} {fb : Den} {Fu : List D → Option (D × Nat)} (h1 : PS X S1 (tAsg tDNewK (gName 1))) (h2 : ∀ g, PS X S2 (tFor (iSeq X.K (tSortK X.K (taL X.K) fb [0] g)) (gName 2) (sDPut (tVar 1) (tVar 2) (tvL X.K Fu)))) (h4 : PS X S4 (tRet (trL X.K))) :
    PDSs X [S1, S2, S4] (dHig fb Fu) := by
  have h2' : PS X S2 (tHL X.K fb [0] (taL X.K) (tvL X.K Fu)) := fun pins s σ H D I q => by
    obtain ⟨g, hg⟩ := tFor_hl D σ H q
    exact h2 g pins s σ H D I hg
  refine PSs.imp (pss_cons h1 (pss_cons h2' (pss_one h4))) fun Dn σ H hh0 => ?_
  obtain ⟨ρ, w, o, gd, ee, kk⟩ := hh0
  unfold dHig at ee
  split at ee
  · rename_i tab q0 a1 a2
    split at ee
    · rename_i d q hF
      cases ee
      obtain ⟨r, hh, rfl, rfl⟩ := Fhig_one hF
      obtain ⟨ht, n, g, un, h, hlen, hn0, hn, fl, hk, hT, hle, kr, hkr, hr⟩ := hh
      intro p hp
      obtain ⟨v0, dg, go⟩ := DG.start (p := p) gd rfl ht rfl hp
      refine ⟨tab, v0, p, w, rngI n, g, fun k => oth k (un k), h, H, w, ht, dg, gd.wl, hp, go, fl, by simp [capD, ht], hk, fun Q q => arg_hig dg ht hlen hn Q q, fun σ' H' w' kvs k d' s2 hk' hv Q q => ?_, fun σ' H' w' kvs ks' hperm d' go' hv hkeys => ?_⟩
      · obtain ⟨⟨qt, e1⟩, e2, e3⟩ := hT k hk'
        refine val_hig d' ht s2 e1 e2 hv Q fun H1 w1 d1 go1 => ?_
        rw [← e3]
        exact q H1 w1 d1 go1
      · have hl' : ks'.length = n := by rw [hperm.length_eq, List.length_map, List.length_range]
        cases hks : ks' with
        | nil => rw [hks] at hl'; simp at hl'; omega
        | cons k0 ks =>
          rw [hks] at hkeys hperm hl'
          refine ret_hig d' hkeys (fun k hk' => hv k (hperm.mem_iff.mp hk')) (by rw [List.length_cons] at hl'; omega) _ fun H1 keep tbs => ?_
          have mx := maxI_ge (ks.map h) (h k0)
          have er : maxI (h k0) (ks.map h) = r := by
            have le : maxI (h k0) (ks.map h) ≤ r := by
              have : maxI (h k0) (ks.map h) ∈ (k0 :: ks).map h := mx.2.2
              obtain ⟨y, hy, ey⟩ := List.mem_map.mp this
              rw [← ey]
              exact hle y (hperm.mem_iff.mp hy)
            have ge : r ≤ maxI (h k0) (ks.map h) := by
              have hm : kr ∈ k0 :: ks := hperm.mem_iff.mpr hkr
              rw [← hr]
              rcases List.mem_cons.mp hm with z | z
              · rw [z]; exact mx.1
              · exact mx.2.1 _ (List.mem_map.mpr ⟨kr, z, rfl⟩)
            omega
          rw [er]
          have hne : ∀ a o, w' a = some o → a ≠ p := fun a o e z => by rw [z, d'.np] at e; cases e
          have wl1 : WL X.K w' H1 := by
            refine ⟨fun a o e => ?_, fun P ps e => d'.wl.tb.tr P ps (tbs P ps e), fun P ps e pos cv hc => ?_, fun x hx c P hP => ?_⟩
            · obtain ⟨vs, q⟩ := d'.wl.own a o e
              exact ⟨vs, (keep a (hne a o e) (by rw [q]; nofun)).trans q⟩
            · obtain ⟨c, oc, u, vs, q, tt, x1, x2, x3⟩ := d'.wl.tb.cd P ps (tbs P ps e) pos cv hc
              exact ⟨c, oc, u, vs, q, tt, x1, (keep c (fun z => by rw [z, d'.dk] at x2; cases x2) (by rw [x2]; nofun)).trans x2, x3⟩
            · obtain ⟨ps, e⟩ := d'.wl.tb.is x hx c P hP
              exact ⟨ps, (keep P (fun z => by rw [z, d'.dk] at e; cases e) (by rw [e]; nofun)).trans e⟩
          refine kk _ _ _ [] wl1 ⟨fun a x e nn => ?_, fun a o e hne' => ?_⟩ (.int r)
          · obtain ⟨s1, n1⟩ := go'.stab a x e nn
            have ap : a ≠ p := fun z => by rw [z, hp] at e; cases e
            obtain ⟨y, ey, _⟩ := s1.is
            rw [keep a ap (by rw [ey]; nofun)]
            exact ⟨s1, n1⟩
          · obtain ⟨s1, n1⟩ := go'.keep a o e hne'
            have ap : a ≠ p := hne a o n1
            obtain ⟨vs, q⟩ := gd.wl.own a o e
            rw [keep a ap (by rw [s1, q]; nofun)]
            exact ⟨s1, n1⟩
    · cases ee
  · cases ee
theorem Hig.uniq {fb : Den} {Fu : List D → Option (D × Nat)} {tab : D} {r r' : Int} (a : Hig fb Fu tab r) (b : Hig fb Fu tab r') : r = r' := by
  obtain ⟨_, n, g, un, h, a1, a2, a3, a4, a5, a6, a7, ka, ha, ra⟩ := a
  obtain ⟨_, n', g', un', h', b1, b2, b3, b4, b5, b6, b7, kb, hb, rb⟩ := b
  rw [a1] at b1; cases b1
  have inj : ∀ {x y : List Int}, x.map D.int = y.map D.int → x = y := fun {x y} e => List.map_inj_right (fun a b z => by cases z; rfl) |>.mp e
  have hu : ∀ k ∈ rngI n, un k = un' k := fun k hk => by
    obtain ⟨⟨q1, e1⟩, _⟩ := a6 k hk
    obtain ⟨⟨q2, e2⟩, _⟩ := b6 k hk
    rw [e1] at e2
    have e3 := congrArg Prod.fst (Option.some.inj e2)
    injection e3 with e4
    exact inj e4
  have hh := fill_uniq a4 (h' := h') fun k hk hx => by
    rw [(a6 k hk).2.2, (b6 k hk).2.2, ← hu k hk]
    congr 1
    exact List.map_congr_left fun x hx' => by rw [hx x hx']
  have l1 := b7 ka ha
  have l2 := a7 kb hb
  rw [← hh ka ha, ra] at l1
  rw [hh kb hb, rb] at l2
  omega
open Classical in
theorem Fhig_eq {fb : Den} {Fu : List D → Option (D × Nat)} {tab : D} {r : Int} (h : Hig fb Fu tab r) : Fhig fb Fu [tab] = some (.int r, 9) := by
  have hex : ∃ r, Hig fb Fu tab r := ⟨r, h⟩
  have e : Fhig fb Fu [tab] = if h : ∃ r, Hig fb Fu tab r then some (D.int (Classical.choose h), 9) else none := rfl
  rw [e, dif_pos hex, (Classical.choose_spec hex).uniq h]
end L3
set_option Elab.async false
set_option linter.all false
set_option maxRecDepth 100000
namespace L3
open PySem PySem.Spec PyProof.Rows L2
structure QE (X : Cx) (e : Expr) (t : TE) : Prop where mk :: o : PE X e t
structure QD (X : Cx) (e : Expr) (f : Den) : Prop where mk :: o : PD X e f
structure QDA (X : Cx) (e : List Expr) (f : DenA) : Prop where mk :: o : PDA X e f
structure QDT (X : Cx) (e : Expr) (f : DenT) : Prop where mk :: o : PDT X e f
structure QDW (X : Cx) (e : Expr) (f : DenT) : Prop where mk :: o : PDW X e f
structure QDS (X : Cx) (e : Stmt) (f : DenS) : Prop where mk :: o : PDS X e f
structure QDSs (X : Cx) (e : List Stmt) (f : DenS) : Prop where mk :: o : PDSs X e f
structure QDI (X : Cx) (tg e : Expr) (f : DenI) : Prop where mk :: o : PDI X tg e f
structure QDG (X : Cx) (b : Nat) (e : Expr) (f : DenP) : Prop where mk :: o : PDG X b e f
structure QDTs (X : Cx) (e : List Expr) (f : DenT) : Prop where mk :: o : PDTs X e f
structure QQ (X : Cx) (e : Expr) (f : DenQ) : Prop where mk :: o : PQ X e f
theorem qv {X : Cx} (i : Nat) {x : Str} {pos : Pos} (hN : X.N[i]? = some x := by rfl) (hv : Vis X.env.scope x := by first | exact Or.inl rfl | exact Or.inr (Or.inl rfl) | exact Or.inr (Or.inr rfl)) (hd : (x == ("__debug__" : Str)) = false := by decide) (hcd : (x == ("__classdict__" : Str)) = false := by decide) : QE X (.Name x pos) (tVar i) := ⟨pv i hN hv hd hcd⟩
theorem qw_pt {X : Cx} {e : Expr} {f : DenT} (h : QDW X e f) : QDT X e f := ⟨PW.pt h.o⟩
section
variable {X : Cx} {a b c e : Expr} {fa fb fc f : Den} {pos : Pos}
theorem qd_int {i j} : QD X (.Constant (.int i) j pos) (eC (.int i)) := ⟨pd_int ⟩
end
section
variable {X : Cx} {a b c e : Expr} {fa fb fc f : Den} {pos : Pos}
theorem qd_bl {i j} : QD X (.Constant (.bool i) j pos) (eC (.bl i)) := ⟨pd_bl ⟩
end
section
variable {X : Cx} {a b c e : Expr} {fa fb fc f : Den} {pos : Pos}
theorem qd_var {i : Nat} {x : Str} (h : QE X (.Name x pos) (tVar i)) : QD X (.Name x pos) (eVar i) := ⟨pd_var h.o⟩
end
section
variable {X : Cx} {a b c e : Expr} {fa fb fc f : Den} {pos : Pos}
theorem qd_add (ha : QD X a fa) (hb : QD X b fb) : QD X (.BinOp a .Add b pos) (e2 dAdd fa fb) := ⟨pd_add ha.o hb.o⟩
end
section
variable {X : Cx} {a b c e : Expr} {fa fb fc f : Den} {pos : Pos}
theorem qd_mul (ha : QD X a fa) (hb : QD X b fb) : QD X (.BinOp a .Mult b pos) (e2 dMul fa fb) := ⟨pd_mul ha.o hb.o⟩
end
section
variable {X : Cx} {a b c e : Expr} {fa fb fc f : Den} {pos : Pos}
theorem qd_div (ha : QD X a fa) (hb : QD X b fb) : QD X (.BinOp a .FloorDiv b pos) (e2 dDiv fa fb) := ⟨pd_div ha.o hb.o⟩
end
section
variable {X : Cx} {a b c e : Expr} {fa fb fc f : Den} {pos : Pos}
theorem qd_mod (ha : QD X a fa) (hb : QD X b fb) : QD X (.BinOp a .Mod b pos) (e2 dMod fa fb) := ⟨pd_mod ha.o hb.o⟩
end
section
variable {X : Cx} {a b c e : Expr} {fa fb fc f : Den} {pos : Pos}
theorem qd_ix (ha : QD X a fa) (hb : QD X b fb) (hs : PlainIx b := by exact fun _ _ => rfl) : QD X (.Subscript a b pos) (eIx fa fb) := ⟨pd_ix ha.o hb.o hs⟩
end
section
variable {X : Cx} {a b c e : Expr} {fa fb fc f : Den} {pos : Pos}
theorem qda_nil  : QDA X [] aNil := ⟨pda_nil ⟩
end
section
variable {X : Cx} {a b c e : Expr} {fa fb fc f : Den} {pos : Pos}
theorem qda_cons {es : List Expr} {g : DenA} (ha : QD X e f) (hr : QDA X es g) (hs : starEach (e :: es) X.env = (false, eval e X.env) :: starEach es X.env := by rfl) : QDA X (e :: es) (aCons f g) := ⟨pda_cons ha.o hr.o hs⟩
end
section
variable {X : Cx} {a b c e : Expr} {fa fb fc f : Den} {pos : Pos}
theorem qd_lst {es : List Expr} {g : DenA} (h : QDA X es g) : QD X (.List es pos) (eLst g) := ⟨pd_lst h.o⟩
end
section
variable {X : Cx} {a b c e : Expr} {fa fb fc f : Den} {pos : Pos}
theorem qd_tup {es : List Expr} {g : DenA} {x1} (h : QDA X es g) : QD X (.Tuple es x1 pos) (eTup g) := ⟨pd_tup h.o⟩
end
section
variable {X : Cx} {a b c e : Expr} {fa fb fc f : Den} {ga gb gc : DenT} {pos : Pos}
theorem qdt_val (ha : QD X a fa) (he : ∀ whole, isTrue a X.env whole = (do let v ← whole; standAt a.pos; holding [v] (truthy v)) := by exact fun _ => rfl) : QDT X a (tOfV fa) := ⟨pdt_val ha.o he⟩
end
section
variable {X : Cx} {a b c e : Expr} {fa fb fc f : Den} {ga gb gc : DenT} {pos : Pos}
theorem qdt_lt (ha : QD X a fa) (hb : QD X b fb) : QDT X (.Compare a [.Lt] [b] pos) (tOfB (e2 dLt fa fb)) := ⟨pdt_lt ha.o hb.o⟩
end
section
variable {X : Cx} {a b c e : Expr} {fa fb fc f : Den} {ga gb gc : DenT} {pos : Pos} {rest : List Expr}
theorem qdw_and1 (ha : QDT X a ga) : QDW X (.BoolOp .And [a] pos) ga := ⟨pdw_and1 ha.o⟩
end
section
variable {X : Cx} {a b c e : Expr} {fa fb fc f : Den} {ga gb gc : DenT} {pos : Pos} {rest : List Expr}
theorem qdw_or1 (ha : QDT X a ga) : QDW X (.BoolOp .Or [a] pos) ga := ⟨pdw_or1 ha.o⟩
end
section
variable {X : Cx} {a b c e : Expr} {fa fb fc f : Den} {ga gb gc : DenT} {pos : Pos} {rest : List Expr}
theorem qdw_and (ha : QDT X a ga) (hb : QDW X (.BoolOp .And (b :: rest) pos) gb) : QDW X (.BoolOp .And (a :: b :: rest) pos) (tAndD ga gb) := ⟨pdw_and ha.o hb.o⟩
end
section
variable {X : Cx} {a b c e : Expr} {fa fb fc f : Den} {ga gb gc : DenT} {pos : Pos} {rest : List Expr}
theorem qdw_or (ha : QDT X a ga) (hb : QDW X (.BoolOp .Or (b :: rest) pos) gb) : QDW X (.BoolOp .Or (a :: b :: rest) pos) (tOrD ga gb) := ⟨pdw_or ha.o hb.o⟩
end
section
variable {X : Cx} {a b c e : Expr} {fa fb fc f : Den} {ga gb gc : DenT} {pos : Pos} {rest : List Expr}
theorem qd_ifExp (hc : QDT X c gc) (ha : QD X a fa) (hb : QD X b fb) : QD X (.IfExp c a b pos) (eIf gc fa fb) := ⟨pd_ifExp hc.o ha.o hb.o⟩
end
section
variable {X : Cx} {a b c e : Expr} {fa fb fc f : Den} {ga gb gc : DenT} {pos : Pos} {st : Stmt} {rest sa sb : List Stmt} {s s' : DenS}
theorem qds_nil  : QDSs X [] sNil := ⟨pds_nil ⟩
end
section
variable {X : Cx} {a b c e : Expr} {fa fb fc f : Den} {ga gb gc : DenT} {pos : Pos} {st : Stmt} {rest sa sb : List Stmt} {s s' : DenS}
theorem qds_cons (h1 : QDS X st s) (h2 : QDSs X rest s') : QDSs X (st :: rest) (sSeq s s') := ⟨pds_cons h1.o h2.o⟩
end
section
variable {X : Cx} {a b c e : Expr} {fa fb fc f : Den} {ga gb gc : DenT} {pos : Pos} {st : Stmt} {rest sa sb : List Stmt} {s s' : DenS}
theorem qds_one (h1 : QDS X st s) : QDSs X [st] s := ⟨pds_one h1.o⟩
end
section
variable {X : Cx} {a b c e : Expr} {fa fb fc f : Den} {ga gb gc : DenT} {pos : Pos} {st : Stmt} {rest sa sb : List Stmt} {s s' : DenS}
theorem qds_ret (h : QD X e f) : QDS X (.Return (some e) pos) (sRet f) := ⟨pds_ret h.o⟩
end
section
variable {X : Cx} {a b c e : Expr} {fa fb fc f : Den} {ga gb gc : DenT} {pos : Pos} {st : Stmt} {rest sa sb : List Stmt} {s s' : DenS}
theorem qds_if (hc : QDT X c gc) (ha : QDSs X sa s) (hb : QDSs X sb s') : QDS X (.If c sa sb pos) (sIf gc s s') := ⟨pds_if hc.o ha.o hb.o⟩
end
section
variable {X : Cx} {a b c e : Expr} {fa fb fc f : Den} {ga gb gc : DenT} {pos : Pos} {st : Stmt} {rest sa sb : List Stmt} {s s' : DenS}
theorem qds_set {i : Nat} {x : Str} {pos' : Pos} (hN : X.N.Nodup) (hi : X.N[i]? = some x) (hx : Loc X.env.scope x) (he : QD X e f) (hs : swapsWith e (some (.Name x pos')) pos.line X.env = pure false := by rfl) (hf : X.fn x = true ∨ X.env.scope.names.lookup x = some .local := by first | exact .inl rfl | exact .inr rfl) : QDS X (.Assign [.Name x pos'] e pos) (sSet i f) := ⟨pds_set hN hi hx he.o hs hf⟩
end
section
variable {X : Cx} {a b c e : Expr} {fa fb fc f : Den} {ga gb gc : DenT} {pos : Pos} {st : Stmt} {rest sa sb : List Stmt} {s s' : DenS}
theorem qds_expr (he : QD X e f) (hs : swapsWith e none pos.line X.env = pure false := by rfl) : QDS X (.Expr e pos) (sDrop f) := ⟨pds_expr he.o hs⟩
end
section
variable {X : Cx} {tg a b c e : Expr} {fa fb fc f : Den} {ga gb gc : DenT} {pos p : Pos}
theorem qdi_range1 {g : DenA} (hm : X.mg "range" = none) (ha : QDA X [a] g) (hg : Gl X "range" := by rfl) (hs : starEach [a] X.env = [(false, eval a X.env)] := by rfl) : QDI X tg (.Call (.Name "range" p) [a] [] pos) (iRange g) := ⟨pdi_range1 hm ha.o hg hs⟩
end
section
variable {X : Cx} {tg a b c e : Expr} {fa fb fc f : Den} {ga gb gc : DenT} {pos p : Pos}
theorem qdi_val (ha : QD X a fa) : QDI X tg a (iVal fa) := ⟨pdi_val ha.o⟩
end
section
theorem qdg_name {X : Cx} {b i : Nat} {x : Str} {pos : Pos} (hb : b ≤ i) (hN : X.N.Nodup) (hi : X.N[i]? = some x) (hx : Loc X.env.scope x) (hf : X.fn x = true ∨ X.env.scope.names.lookup x = some .local := by first | exact .inl rfl | exact .inr rfl) : QDG X b (.Name x pos) (pName i) := ⟨pdg_name hb hN hi hx hf⟩
end
section
theorem qds_for {X : Cx} {tg iter : Expr} {body : List Stmt} {it : DenI} {pt : DenP} {s : DenS} {pos : Pos} (hp : PassesOwn (model X.prog X.w) X.A X.env X.xe) (hc : X.calm = true) (hi : QDI X tg iter it) (hg : QDG X 0 tg pt) (hb : QDSs X body s) (hs : ∀ x, foldedSetIterable iter X.env x = pure x := by intro _; rfl) : QDS X (.For tg iter body [] pos) (sFor it pt s) := ⟨pds_for hp hc hi.o hg.o hb.o hs⟩
end
section
variable {X : Cx} {k : Nat} {N' : List Str} {scope : Scope} {elt tg iter : Expr} {ifs : List Expr} {pos : Pos} {it : DenI} {pt : DenP} {tt : DenT} {te : Den}
theorem qdts_nil  : QDTs X [] tYesD := ⟨pdts_nil ⟩
end
section
variable {X : Cx} {k : Nat} {N' : List Str} {scope : Scope} {elt tg iter : Expr} {ifs : List Expr} {pos : Pos} {it : DenI} {pt : DenP} {tt : DenT} {te : Den}
theorem qdts_one {c : Expr} {g : DenT} (h : QDT X c g) : QDTs X [c] g := ⟨pdts_one h.o⟩
end
section
variable {X : Cx} {k : Nat} {N' : List Str} {scope : Scope} {elt tg iter : Expr} {ifs : List Expr} {pos : Pos} {it : DenI} {pt : DenP} {tt : DenT} {te : Den}
theorem qd_comp (deep : Bool) (hc : X.calm = true) (S : CompOk X k N' scope) (hi : QDI X tg iter it) (hg : ∀ C s H fp, QDG (compCx X N' scope C s H fp) X.N.length tg pt) (ht : ∀ C s H fp, QDTs (compCx X N' scope C s H fp) ifs tt) (he : ∀ C s H fp, QD (compCx X N' scope C s H fp) elt te) (hs : ∀ x, foldedSetIterable iter X.env x = pure x := by intro _; rfl) : QD X (.ListComp elt [⟨tg, iter, ifs, 0⟩] scope pos) (eComp k it pt tt te deep) := ⟨pd_comp deep hc S hi.o (fun C s H fp => (hg C s H fp).o) (fun C s H fp => (ht C s H fp).o) (fun C s H fp => (he C s H fp).o) hs⟩
end
section
variable {X : Cx} {k : Nat} {N' : List Str} {scope : Scope} {elt tg iter : Expr} {ifs : List Expr} {pos : Pos} {it : DenI} {pt : DenP} {tt : DenT} {te : Den}
theorem qds_setC {i : Nat} {y : Str} {py spos : Pos} (deep : Bool) (hN : X.N.Nodup) (hy : X.N[i]? = some y) (hx : Loc X.env.scope y) (hsw : swapsWith (.ListComp elt [⟨tg, iter, ifs, 0⟩] scope pos) (some (.Name y py)) spos.line X.env = pure true) (hc : X.calm = true) (S : CompOk X k N' scope) (hi : QDI X tg iter it) (hg : ∀ C s H fp, QDG (compCx X N' scope C s H fp) X.N.length tg pt) (ht : ∀ C s H fp, QDTs (compCx X N' scope C s H fp) ifs tt) (he : ∀ C s H fp, QD (compCx X N' scope C s H fp) elt te) (hs : ∀ x, foldedSetIterable iter X.env x = pure x := by intro _; rfl) (hf : X.fn y = true ∨ X.env.scope.names.lookup y = some .local := by first | exact .inl rfl | exact .inr rfl | assumption) : QDS X (.Assign [.Name y py] (.ListComp elt [⟨tg, iter, ifs, 0⟩] scope pos) spos) (sSet i (eComp k it pt tt te deep)) := ⟨pds_setC deep hN hy hx hsw hc S hi.o (fun C s H fp => (hg C s H fp).o) (fun C s H fp => (ht C s H fp).o) (fun C s H fp => (he C s H fp).o) hs hf⟩
end
section
variable {X : Cx} {a b c e : Expr} {fa fb fc f : Den} {pos : Pos}
theorem qd_eq {k : Nat} (hr : Room k X.A) (ha : QD X a fa) (hb : QD X b fb) : QD X (.Compare a [.Eq] [b] pos) (e2 dEq fa fb) := ⟨pd_eq hr ha.o hb.o⟩
end
section
variable {X : Cx} {a b c e : Expr} {fa fb fc f : Den} {pos : Pos}
theorem qdt_eq {k : Nat} (hr : Room k X.A) (ha : QD X a fa) (hb : QD X b fb) : QDT X (.Compare a [.Eq] [b] pos) (tOfB (e2 dEq fa fb)) := ⟨pdt_eq hr ha.o hb.o⟩
end
section
variable {X : Cx} {a b c e : Expr} {fa fb fc f : Den} {pos : Pos}
theorem qdt_ne {k : Nat} (hr : Room k X.A) (ha : QD X a fa) (hb : QD X b fb) : QDT X (.Compare a [.NotEq] [b] pos) (tOfB (e2 dNe fa fb)) := ⟨pdt_ne hr ha.o hb.o⟩
end
section
variable {X : Cx} {a b c e : Expr} {fa fb fc f : Den} {pos : Pos}
theorem qdt_in {k : Nat} (hr : Room k X.A) (ha : QD X a fa) (hb : QD X b fb) (hm : behindInMarks .In b = false := by with_unfolding_all rfl) : QDT X (.Compare a [.In] [b] pos) (tOfB (e2 dIn fa fb)) := ⟨pdt_in hr ha.o hb.o hm⟩
end
section
variable {X : Cx} {a b c e : Expr} {es : List Expr} {fa fb fc f : Den} {g : DenA} {pos p p1 p2 : Pos}
theorem qd_len (hm : X.mg "len" = none) (ha : QDA X [a] g) (hg : Gl X "len" := by rfl) (he : starEach [a] X.env = (false, eval a X.env) :: starEach [] X.env := by rfl) (hpl : (backTo pos (starEach [] X.env)).any (·.1) = false := by rfl) : QD X (.Call (.Name "len" p) [a] [] pos) (eB bLen g) := ⟨pd_len hm ha.o hg he hpl⟩
end
section
variable {X : Cx} {a b c e : Expr} {es : List Expr} {fa fb fc f : Den} {g : DenA} {pos p p1 p2 : Pos}
theorem qd_lenV {i : Nat} {x : Str} (hm : X.mg "len" = none) (h : QE X (.Name x p1) (tVar i)) (hg : Gl X "len" := by rfl) (he : starEach [.Name x p1] X.env = (false, eval (.Name x p1) X.env) :: starEach [] X.env := by rfl) (hpl : (backTo pos (starEach [] X.env)).any (·.1) = false := by rfl) : QD X (.Call (.Name "len" p) [.Name x p1] [] pos) (eLenV i) := ⟨pd_lenV hm h.o hg he hpl⟩
end
section
variable {X : Cx} {a b c e : Expr} {es : List Expr} {fa fb fc f : Den} {g : DenA} {pos p p1 p2 : Pos}
theorem qd_max2 (hc : X.calm = true) (hm : X.mg "max" = none) (hb : bootBuiltins "max" = some (.builtin "max")) (ha : QDA X (a :: es) g) (hg : Gl X "max" := by rfl) (he : starEach (a :: es) X.env = (false, eval a X.env) :: starEach es X.env := by rfl) (hpl : (backTo pos (starEach es X.env)).any (·.1) = false := by rfl) : QD X (.Call (.Name "max" p) (a :: es) [] pos) (eB bMax g) := ⟨pd_max2 hc hm hb ha.o hg he hpl⟩
end
section
variable {X : Cx} {a b c e : Expr} {es : List Expr} {fa fb fc f : Den} {g : DenA} {pos p p1 p2 : Pos}
theorem qd_listOf (hm : X.mg "list" = none) (hb : bootBuiltins "list" = some (.type "list")) (ha : QDA X [a] g) (hg : Gl X "list" := by rfl) (he : starEach [a] X.env = (false, eval a X.env) :: starEach [] X.env := by rfl) (hpl : (backTo pos (starEach [] X.env)).any (·.1) = false := by rfl) : QD X (.Call (.Name "list" p) [a] [] pos) (eListOf g) := ⟨pd_listOf hm hb ha.o hg he hpl⟩
end
section
variable {X : Cx} {a b c e : Expr} {es : List Expr} {fa fb fc f : Den} {g : DenA} {pos p p1 p2 : Pos}
theorem qd_tupOf (hm : X.mg "tuple" = none) (hb : bootBuiltins "tuple" = some (.type "tuple")) (ha : QDA X [a] g) (hg : Gl X "tuple" := by rfl) (he : starEach [a] X.env = (false, eval a X.env) :: starEach [] X.env := by rfl) (hpl : (backTo pos (starEach [] X.env)).any (·.1) = false := by rfl) : QD X (.Call (.Name "tuple" p) [a] [] pos) (eTupOf g) := ⟨pd_tupOf hm hb ha.o hg he hpl⟩
end
section
variable {X : Cx} {a : Expr} {g : DenA} {pos p p1 pos1 : Pos}
theorem qd_listR (hc : X.calm = true) (hm : X.mg "list" = none) (hb : bootBuiltins "list" = some (.type "list")) (hmr : X.mg "range" = none) (ha : QDA X [a] g) (hg : Gl X "list" := by rfl) (hgr : Gl X "range" := by rfl) (hs : starEach [a] X.env = [(false, eval a X.env)] := by rfl) (he : starEach [.Call (.Name "range" p1) [a] [] pos1] X.env = (false, eval (.Call (.Name "range" p1) [a] [] pos1) X.env) :: starEach [] X.env := by rfl) (hpl : (backTo pos (starEach [] X.env)).any (·.1) = false := by rfl) : QD X (.Call (.Name "list" p) [.Call (.Name "range" p1) [a] [] pos1] [] pos) (eListR g) := ⟨pd_listR hc hm hb hmr ha.o hg hgr hs he hpl⟩
end
section
variable {X : Cx} {a : Expr} {g : DenA} {pos p p1 pos1 : Pos}
theorem qd_tupR (hc : X.calm = true) (hm : X.mg "tuple" = none) (hb : bootBuiltins "tuple" = some (.type "tuple")) (hmr : X.mg "range" = none) (ha : QDA X [a] g) (hg : Gl X "tuple" := by rfl) (hgr : Gl X "range" := by rfl) (hs : starEach [a] X.env = [(false, eval a X.env)] := by rfl) (he : starEach [.Call (.Name "range" p1) [a] [] pos1] X.env = (false, eval (.Call (.Name "range" p1) [a] [] pos1) X.env) :: starEach [] X.env := by rfl) (hpl : (backTo pos (starEach [] X.env)).any (·.1) = false := by rfl) : QD X (.Call (.Name "tuple" p) [.Call (.Name "range" p1) [a] [] pos1] [] pos) (eTupR g) := ⟨pd_tupR hc hm hb hmr ha.o hg hgr hs he hpl⟩
end
section
variable {X : Cx} {a b c e : Expr} {es : List Expr} {fa fb fc f : Den} {g : DenA} {pos p p1 p2 cpos apos : Pos}
theorem qd_index {k : Nat} (hr : Room k X.A) (ho : QD X a fa) (ha : QDA X [e] g) (hbase : attributeBase a "index" X.env (eval a X.env) = eval a X.env := by rfl) (hfew : ((backTo cpos (starEach [e] X.env)).all (fun x => !x.1) && (backToKw cpos (keywordEach [] X.env)).all (fun x => x.1.isSome)
      && decide ([e].length + ([] : List Keyword).length + (if ([] : List Keyword).isEmpty then 0 else 1) < 30)) = true := by rfl) (hline : (apos.endLine == cpos.line) = true := by rfl) (hs : starEach [e] X.env = (false, eval e X.env) :: starEach [] X.env := by rfl) (hplain : (backTo cpos (starEach [] X.env)).any (·.1) = false := by rfl) : QD X (.Call (.Attribute a "index" apos) [e] [] cpos) (eIndex fa g) := ⟨pd_index hr ho.o ha.o hbase hfew hline hs hplain⟩
end
section
variable {X : Cx} {a b c e : Expr} {es : List Expr} {fa fb fc f : Den} {g : DenA} {pos p p1 p2 cpos apos : Pos}
theorem qd_append {i : Nat} {x : Str} (h : QE X (.Name x p1) (tVar i)) (ha : QDA X [e] g) (hbase : attributeBase (.Name x p1) "append" X.env (eval (.Name x p1) X.env) = eval (.Name x p1) X.env := by rfl) (hfew : ((backTo cpos (starEach [e] X.env)).all (fun x => !x.1) && (backToKw cpos (keywordEach [] X.env)).all (fun x => x.1.isSome)
      && decide ([e].length + ([] : List Keyword).length + (if ([] : List Keyword).isEmpty then 0 else 1) < 30)) = true := by rfl) (hline : (apos.endLine == cpos.line) = true := by rfl) (hs : starEach [e] X.env = (false, eval e X.env) :: starEach [] X.env := by rfl) (hplain : (backTo cpos (starEach [] X.env)).any (·.1) = false := by rfl) : QD X (.Call (.Attribute (.Name x p1) "append" apos) [e] [] cpos) (eApp i g) := ⟨pd_append h.o ha.o hbase hfew hline hs hplain⟩
end
section
variable {X : Cx} {a b c e : Expr} {es : List Expr} {fa fb fc f : Den} {g : DenA} {pos p p1 p2 cpos apos : Pos}
theorem qd_pop {i : Nat} {x : Str} (h : QE X (.Name x p1) (tVar i)) (ha : QDA X [e] g) (hbase : attributeBase (.Name x p1) "pop" X.env (eval (.Name x p1) X.env) = eval (.Name x p1) X.env := by rfl) (hfew : ((backTo cpos (starEach [e] X.env)).all (fun x => !x.1) && (backToKw cpos (keywordEach [] X.env)).all (fun x => x.1.isSome)
      && decide ([e].length + ([] : List Keyword).length + (if ([] : List Keyword).isEmpty then 0 else 1) < 30)) = true := by rfl) (hline : (apos.endLine == cpos.line) = true := by rfl) (hs : starEach [e] X.env = (false, eval e X.env) :: starEach [] X.env := by rfl) (hplain : (backTo cpos (starEach [] X.env)).any (·.1) = false := by rfl) : QD X (.Call (.Attribute (.Name x p1) "pop" apos) [e] [] cpos) (ePop i g) := ⟨pd_pop h.o ha.o hbase hfew hline hs hplain⟩
end
section
variable {X : Cx} {a b c e : Expr} {es : List Expr} {fa fb fc f : Den} {g : DenA} {pos p p1 p2 cpos apos : Pos}
theorem qd_ixV {n : Nat} {x : Str} (h : QE X (.Name x p1) (tVar n)) (hb : QD X b fb) (hs : PlainIx b := by exact fun _ _ => rfl) : QD X (.Subscript (.Name x p1) b pos) (eIxV n fb) := ⟨pd_ixV h.o hb.o hs⟩
end
section
variable {X : Cx} {a b c e : Expr} {es : List Expr} {fa fb fc f : Den} {g : DenA} {pos p p1 p2 cpos apos : Pos}
theorem qd_repL (ha : QD X a fa) (hb : QD X b fb) : QD X (.BinOp a .Mult b pos) (eRepL fa fb) := ⟨pd_repL ha.o hb.o⟩
end
section
variable {X : Cx} {a b c e : Expr} {es : List Expr} {fa fb fc f : Den} {qa qb : DenQ} {g : DenA} {pos p p1 p2 cpos apos : Pos}
theorem qq_var {n : Nat} {x : Str} (h : QE X (.Name x p1) (tVar n)) : QQ X (.Name x p1) (qVar n) := ⟨pq_var h.o⟩
end
section
variable {X : Cx} {a b c e : Expr} {es : List Expr} {fa fb fc f : Den} {qa qb : DenQ} {g : DenA} {pos p p1 p2 cpos apos : Pos}
theorem qq_ix {n : Nat} {x : Str} (h : QE X (.Name x p1) (tVar n)) (hb : QQ X b qb) (hs : PlainIx b := by exact fun _ _ => rfl) : QQ X (.Subscript (.Name x p1) b pos) (qIx n qb) := ⟨pq_ix h.o hb.o hs⟩
end
section
variable {X : Cx} {a b c e : Expr} {es : List Expr} {fa fb fc f : Den} {qa qb : DenQ} {g : DenA} {pos p p1 p2 cpos apos : Pos}
theorem qds_set2 {n : Nat} {x : Str} (h : QE X (.Name x p1) (tVar n)) (ha : QQ X a qa) (hb : QQ X b qb) (he : QD X e f) (hi : PlainIx a := by exact fun _ _ => rfl) (hasg : ∀ v, assign (.Subscript (.Subscript (.Name x p1) a p2) b p) X.env v = (do
      let ov ← holding [v] (eval (.Subscript (.Name x p1) a p2) X.env)
      let iv ← holding [v, ov] (eval b X.env)
      standAt p
      holding [v, ov, iv] (setItem ov iv v)
      release [v, ov, iv] []) := by exact fun _ => rfl) (hs : swapsWithSole [.Subscript (.Subscript (.Name x p1) a p2) b p] e pos.line X.env = pure false := by rfl) : QDS X (.Assign [.Subscript (.Subscript (.Name x p1) a p2) b p] e pos) (sSet2 n qa qb f) := ⟨pds_set2 h.o ha.o hb.o he.o hi hasg hs⟩
end
section
variable {X : Cx} {a b c e : Expr} {es rest : List Expr} {fa fb fc f : Den} {g : DenA} {pos p p1 p2 cpos apos : Pos}
theorem qd_callC {j k n : Nat} {x : Str} {F : List D → Option (D × Nat)} (C : Cal X.prog X.w X.K X.mg X.base k x n F) (hr : Room j X.A) (hk : k ≤ j) (ha : QDA X (e :: es) g) (hg : Gl X x := by rfl) (hdb : (x == ("__debug__" : Str)) = false := by decide) (he : starEach (e :: es) X.env = (false, eval e X.env) :: starEach es X.env := by rfl) (hpl : (backTo pos (starEach es X.env)).any (·.1) = false := by rfl) : QD X (.Call (.Name x p) (e :: es) [] pos) (eCall F n g) := ⟨pd_callC C hr hk ha.o hg hdb he hpl⟩
end
section
variable {X : Cx} {e : Expr} {es : List Expr} {g : DenA} {pos p : Pos}
theorem qd_callO {i j k n : Nat} {x : Str} {ob : D} {G : List D → Option (D × Nat)} (h : QE X (.Name x p) (tVar i)) (C : CalO X.prog X.w X.K X.mg X.base k ob n G) (hr : Room j X.A) (hk : k ≤ j) (ha : QDA X (e :: es) g) (he : starEach (e :: es) X.env = (false, eval e X.env) :: starEach es X.env := by rfl) (hpl : (backTo pos (starEach es X.env)).any (·.1) = false := by rfl) : QD X (.Call (.Name x p) (e :: es) [] pos) (eCallO ob G i n g) := ⟨pd_callO h.o C hr hk ha.o he hpl⟩
end
theorem Cal.mkQ {P : Program} {w : World} {K : PySem.W.Frag} {mg : Str → Option Value} {base : Heap} {k : Nat} {x : Str} {st : Stmt} {N ps : List Str} {body : DenS} (a : At K mg x st ps) (S : FnScope N ps (defScope st))
    (h : ∀ (f : Addr) (cdv : Value) (A : Around) (outer : List Env) (s : Shared) (H : Hp) (E : XK), Room k (A.deeper (envOfC x (defScope st) s.heap.objs.size f cdv)) → QDSs (cxOf CX0 P w K mg base N x (defScope st) f cdv A outer s H E).nox (defBody st) body) :
    Cal P w K mg base (k + 1) x ps.length (fnD N.length body) := Cal.mk a S fun f cdv A outer s H E hr => (h f cdv A outer s H E hr).o
theorem law_okQ {P : Program} {w : World} {K : PySem.W.Frag} {mg : Str → Option Value} {base : Heap} {k : Nat} {x : Str} {st : Stmt} {N ps : List Str} {body : DenS} {f : Addr} {fd : FuncData} (F : Fun K x x st f fd) (S : FnScope N ps (defScope st))
    (h : ∀ (f : Addr) (cdv : Value) (A : Around) (outer : List Env) (s : Shared) (H : Hp) (E : XK), Room k (A.deeper (envOfC x (defScope st) s.heap.objs.size f cdv)) → QDSs (cxOf CX0 P w K mg base N x (defScope st) f cdv A outer s H E).nox (defBody st) body) :
    FnOk P w K mg base CX0 (k + 1) f fd ps (spD K ps.length (fnD N.length body)) := law_ok F S fun f cdv A outer s H E hr => (h f cdv A outer s H E hr).o
end L3
set_option Elab.async false
set_option linter.all false
set_option maxRecDepth 100000
namespace L3
open PySem PySem.Spec PyProof.Rows PySem.W L2
end L3
set_option Elab.async false
set_option linter.all false
set_option maxRecDepth 100000
namespace L3
open PySem PySem.Spec PyProof.Rows PySem.W L2
noncomputable def CapOk (X : Cx) : List Str → List Nat → Prop
  | [], [] => True
  | z :: zs, i :: is => X.N[i]? = some z ∧ X.env.scope.names.lookup z = some .cell ∧ CapOk X zs is
  | _, _ => False
theorem CapOk.len {X : Cx} : ∀ {zs : List Str} {is : List Nat}, CapOk X zs is → is.length = zs.length
  | [], [], _ => rfl
  | _ :: _, _ :: _, h => by simp [h.2.2.len]
theorem CapOk.at {X : Cx} : ∀ {zs : List Str} {is : List Nat}, CapOk X zs is → ∀ (j : Nat) (z : Str), zs[j]? = some z → ∃ i, is[j]? = some i ∧ X.N[i]? = some z ∧ X.env.scope.names.lookup z = some .cell
  | [], [], _, _, _, e => by simp at e
  | z :: zs, i :: is, h, 0, _, e => by simp at e; subst e; exact ⟨i, rfl, h.1, h.2.1⟩
  | z :: zs, i :: is, h, j + 1, y, e => by
    obtain ⟨i', a, b⟩ := h.2.2.at j y (by simpa using e)
    exact ⟨i', by simpa using a, b⟩
section
variable {P : Program} {w : World} {K : PySem.W.Frag} {mg : Str → Option Value} {base : Heap} {N : List Str} {x : Str} {sc : Scope} {f c : Addr} {A : Around} {outer : List Env} {s₀ : Shared} {H₀ : Hp} {E : XK}
theorem qd_tab {y : Str} {Pt : Addr} {j k kb : Nat} {ps caps : List Str} {is : List Nat} {params : Arguments} {body eN : Expr} {scope : Scope} {fN fb : Den} {F : D → (List D → Option (D × Nat)) → List D → Option (D × Nat)} {p lp pos : Pos}
    (L : Lm K mg base) (hx : x ∈ lamNms) (ht : tabIn K x = some (c, Pt)) (S : LamScope ps caps scope) (hy : ∃ fn, mg y = some (.ref fn) ∧ keepIn K (.ref fn) = true) (hr : Room j (A.deeper (envOfC x sc s₀.heap.objs.size f (.ref c)))) (hk : k ≤ j)
    (hF : ∀ base' ob G, CalO P w K mg base' (kb + 1) ob ps.length G → Cal P w K mg base' k y 2 (F ob G))
    (hbody : ∀ (base' : Heap) (f c' : Addr) (cl : List (Str × Addr)) (q : Str) (A : Around) (outer : List Env) (s : Shared) (H : Hp), Room kb (A.deeper (envX q scope s.heap.objs.size f (.ref c') cl)) → QD (cxL P w K mg base' (ps ++ caps) q scope f (.ref c') cl A outer s H) body fb)
    (hbind : ∀ (q : Str) (cl : List (Str × Addr)) (pm cdv ctv : Value) (us : List Value), us.length = ps.length → bindArgs (kla_fn "<lambda>" q params body scope cl pm cdv ctv) ⟨us, []⟩ = pure (ps.zip us))
    (hN : CapOk (cxOf CX0 P w K mg base N x sc f (.ref c) A outer s₀ H₀ E).nox caps is) (ha : QD (cxOf CX0 P w K mg base N x sc f (.ref c) A outer s₀ H₀ E).nox eN fN)
    (hse : ∀ env : Env, starEach [eN, .Lambda params body scope lp] env = (false, eval eN env) :: starEach [.Lambda params body scope lp] env)
    (hcl : closureFor scope (cxOf CX0 P w K mg base N x sc f (.ref c) A outer s₀ H₀ E).nox.env = pure (capL caps (cxOf CX0 P w K mg base N x sc f (.ref c) A outer s₀ H₀ E).nox.env.cells) := by rfl) (hdf : ∀ env, defaultsOf params env = ([], []) := by exact fun _ => rfl) (hg : Gl (cxOf CX0 P w K mg base N x sc f (.ref c) A outer s₀ H₀ E).nox y := by rfl) (hdb : (y == ("__debug__" : Str)) = false := by decide) :
    QD (cxOf CX0 P w K mg base N x sc f (.ref c) A outer s₀ H₀ E).nox (.Call (.Name y p) [eN, .Lambda params body scope lp] [] pos) (eTab F fb is fN) := by
  obtain ⟨fn, h1, h2⟩ := hy
  exact ⟨pd_tab (X := (cxOf CX0 P w K mg base N x sc f (.ref c) A outer s₀ H₀ E).nox) (c := c) (P := Pt) rfl L hx ht rfl S h1 h2 hr hk hF (fun base' f c' cl q A outer s H hr => (hbody base' f c' cl q A outer s H hr).o) (hbind _) hN.at hN.len ha.o hcl (hdf _) hg hdb (hse _) (by rw [se_Lambda]; rfl)⟩
end
theorem cd_of {K : PySem.W.Frag} {mg : Str → Option Value} {h : Heap} {x : Str} {c P f : Addr} {oc : Value} {od : Option Addr} {fd : FuncData} {sl : Array (Option Value)} (X : K.In h) (G : h.Ns mainGlobals mg) (ht : tabIn K x = some (c, P)) (hm : mg x = some (.ref f)) (lk : K.lookup f = some ⟨oc, od, .func fd, sl⟩) : fd.code = .ref c :=
  law_code X G ht hm (X _ _ lk) rfl
theorem Cal.mkL {P : Program} {w : World} {K : PySem.W.Frag} {mg : Str → Option Value} {base : Heap} {k : Nat} {x : Str} {st : Stmt} {N ps : List Str} {body : DenS} (KX : K.In base) (G : base.Ns mainGlobals mg) (ht : ∃ c Pt, tabIn K x = some (c, Pt)) (a : At K mg x st ps) (S : FnScope N ps (defScope st))
    (h : ∀ (f c Pt : Addr) (A : Around) (outer : List Env) (s : Shared) (H : Hp) (E : XK), tabIn K x = some (c, Pt) → Room k (A.deeper (envOfC x (defScope st) s.heap.objs.size f (.ref c))) → QDSs (cxOf CX0 P w K mg base N x (defScope st) f (.ref c) A outer s H E).nox (defBody st) body) :
    Cal P w K mg base (k + 1) x ps.length (fnD N.length body) := by
  obtain ⟨f, fd, F, m, b⟩ := a
  obtain ⟨c, Pt, ht⟩ := ht
  obtain ⟨oc, od, kV, doc, pm, an, cdv, ct, osl, rfl, lk, hcd⟩ := F.ex
  have e : cdv = .ref c := cd_of KX G ht m lk
  subst e
  exact ⟨f, _, ps, fn_of lk hcd S (fun vs H Q E h => h.1) fun A outer s H vs Q E hr hsp => ⟨_, (h f c Pt A outer s H E ht hr).o.nox, fn_enter hsp⟩, m, F.kp, b⟩
end L3
namespace L3
open PySem PySem.Spec PyProof.Rows PySem.W L2
theorem pairOf {α : Type} : ∀ {l : List α}, l.length = 2 → ∃ a b, l = [a, b]
  | [a, b], _ => ⟨a, b, rfl⟩
theorem LamScope.of {ps cs : List Str} {sc : Scope} (kind : sc.kind = .function) (co : sc.isCoroutine = false) (gen : sc.isGenerator = false) (nd : (ps ++ cs).Nodup) (par : ∀ x ∈ ps, sc.names.lookup x = some .local) (cap : ∀ x ∈ cs, sc.names.lookup x = some .free)
    (nocell : ∀ y ∈ sc.names, y.2 ≠ .cell) (free : ∀ y ∈ sc.names, y.2 = .free → y.1 ∈ cs) : LamScope ps cs sc := ⟨kind, co, gen, nd, par, cap, nocell, fun x e => free _ (PySem.mem_of_lookup e) rfl⟩
theorem tab_mk {K : PySem.W.Frag} {x : Str} {f c Pt : Addr} {oc o2 : Value} {od od2 : Option Addr} {fd : FuncData} {sl sl2 : Array (Option Value)} {vs : Array Value} (a : nsIn K mainGlobals x = some (some (.ref f))) (l : K.lookup f = some ⟨oc, od, .func fd, sl⟩) (hc : fd.code = .ref c) (m : K.lookup c = some ⟨o2, od2, .fields vs, sl2⟩) (v : vs[11]? = some (.ref Pt)) :
    ∃ c Pt, tabIn K x = some (c, Pt) := ⟨c, Pt, by unfold tabIn; rw [a]; simp only [l, hc, m, v]⟩
theorem tab_none {K : PySem.W.Frag} {x : Str} (a : nsIn K mainGlobals x = some none) : tabIn K x = none := by unfold tabIn; rw [a]
end L3
set_option Elab.async false
set_option linter.all false
set_option maxRecDepth 100000
namespace L3
open PySem PySem.Spec PyProof.Rows PySem.W L2
noncomputable def isTab (K : PySem.W.Frag) (b : Addr) : Bool := lamNms.any fun x => match tabIn K x with
  | some (_, P) => P == b
  | none => false
theorem isTab_of {K : PySem.W.Frag} {b : Addr} (h : isTab K b = true) : ∃ x ∈ lamNms, ∃ c, tabIn K x = some (c, b) := by
  obtain ⟨x, hx, e⟩ := List.any_eq_true.mp h
  split at e
  · rename_i c P hP
    rw [eq_of_beq e] at hP
    exact ⟨x, hx, c, hP⟩
  · cases e
theorem isTab_mk {K : PySem.W.Frag} {x : Str} {c P : Addr} (hx : x ∈ lamNms) (e : tabIn K x = some (c, P)) : isTab K P = true :=
  List.any_eq_true.mpr ⟨x, hx, by rw [e]; exact beq_self_eq_true P⟩
theorem law_callL {P : Program} {w : World} {K : PySem.W.Frag} {mg mb : Str → Option Value} {CX : CXT} {k : Nat} {fa a : Addr} {fd : FuncData} {x : Str} {sp : Sp} {s₁ : Shared} {vs : List Value} {ns : List Int}
    (KX : K.In s₁.heap) (hns : s₁.heap.Ns mainGlobals mg) (hb : s₁.heap.Ns builtinsNs mb) (hbb : ∀ x : Str, x ≠ "__name__" → mb x = bootBuiltins x) (hlim : s₁.heap.NoLimit) (hg : s₁.gens = #[])
    (hbm : ∃ bm o, mg "__builtins__" = some (.ref bm) ∧ bm ≠ builtinsNs ∧ s₁.heap.get? bm = some o ∧ o.cls = .type "module" ∧ o.dict = some builtinsNs ∧ o.data = .plain)
    (hT : ∀ x ∈ lamNms, ∀ c Pt, tabIn K x = some (c, Pt) → CodeHd s₁.heap c Pt ∧ s₁.heap.get? Pt = some (tabObj #[])) (hnt : noTabs K = true)
    (ha : s₁.heap.get? a = some { cls := .type "list", data := .seq vs.toArray }) (hi : IntsAre vs ns) (hl : ns.length ≤ sizeLine) (hr : Room k callerA)
    (F : ∀ base : Heap, K.In base → base.Ns mainGlobals mg → Lm K mg base → FnOk P w K mg base CX k fa fd [x] sp) (hbind : ∀ (s : Shared) (u : Value), BindsTo s fd ⟨[u], []⟩ [(x, u)])
    (hsp : ∀ H : Hp, TB K H → SqL K H a (ns.map V.int) → sp [.ref a] H (fun v _ => v = .bl true) fun _ _ _ => False)
    (hCX : ∀ H e s', CX [] H s₁ (fun _ _ _ => False) e s' → False) :
    codeAny (model P w) callerA (.call (.ref fa) ⟨[.ref a], []⟩) (fun r s' => r = .ok (.ret (.bool true)) ∧ OldK s₁.heap s'.heap ∧ s'.os = s₁.os ∧ AllBare s'.gens) s₁ := by
  have rv := vals_ints hi
  have lenV := hi.length
  have tabO : ∀ b, isTab K b = true → (∃ c, CodeHd s₁.heap c b) ∧ s₁.heap.get? b = some (tabObj #[]) := fun b h => by
    obtain ⟨x, hx, c, e⟩ := isTab_of h
    obtain ⟨h1, h2⟩ := hT x hx c b e
    exact ⟨⟨c, h1⟩, h2⟩
  have core : ∀ H : Hp, (∀ b, H b = none ∨ (b = a ∧ ∃ o xs, H b = some (.frz o (.lst xs))) ∨ (isTab K b = true ∧ H b = some (.tbl #[]))) → (∀ b, isTab K b = true → H b = some (.tbl #[])) → SqL K H a (ns.map V.int) → HOk P w H s₁.heap → (∀ o xs, H a = some (.frz o (.lst xs)) → K.lookup a = none) →
      codeAny (model P w) callerA (.call (.ref fa) ⟨[.ref a], []⟩) (fun r s' => r = .ok (.ret (.bool true)) ∧ OldK s₁.heap s'.heap ∧ s'.os = s₁.os ∧ AllBare s'.gens) s₁ := by
    intro H hO hO2 hS hok hK
    have base_of : ∀ {b : Addr} {o : Obj}, s₁.heap.get? b = some o → H b = none → (hidT s₁.heap H).get? b = some o := fun e n => hidT_get e n
    have noA : ∀ {b : Addr} {o : Obj}, s₁.heap.get? b = some o → o.cls ≠ .type "list" → o.cls ≠ .none → H b = none := fun {b o} e d1 d2 => by
      rcases hO b with z | ⟨z, _⟩ | ⟨z, _⟩
      · exact z
      · subst z; rw [ha] at e; cases e; exact absurd rfl d1
      · rw [(tabO b z).2] at e; cases e; exact absurd rfl d2
    have noD : ∀ {b : Addr} {o : Obj} {es : Array DictEntry} {ep : Nat}, s₁.heap.get? b = some o → o.data = .dict es ep → H b = none := fun {b o es ep} e d => by
      rcases hO b with z | ⟨z, _⟩ | ⟨z, _⟩
      · exact z
      · subst z; rw [ha] at e; cases e; exact nomatch (show Data.seq vs.toArray _ = Data.dict es ep from d)
      · rw [(tabO b z).2] at e; cases e; exact nomatch (show Data.fields _ = Data.dict es ep from d)
    have nsK : ∀ {b : Addr} {m : Str → Option Value}, s₁.heap.Ns b m → (hidT s₁.heap H).Ns b m := fun {b m} hh => by
      obtain ⟨o, es, ep, e, d, r⟩ := hh
      exact ⟨o, es, ep, base_of e (noD e d), d, r⟩
    have hKb : K.In (hidT s₁.heap H) := fun b o e => base_of (KX b o e) (by
      rcases hO b with z | ⟨z, o', xs, z2⟩ | ⟨z, _⟩
      · exact z
      · subst z; rw [hK _ _ z2] at e; cases e
      · have e2 := KX b o e
        rw [(tabO b z).2] at e2
        cases e2
        have h2 := List.all_eq_true.mp hnt (b, tabObj #[]) (mem_of_lookupK e)
        exact absurd (show false = true from h2) Bool.false_ne_true)
    have hM : Mod K mg (hidT s₁.heap H) := by
      obtain ⟨mc, h1, h2⟩ := hlim
      exact ⟨hKb, nsK hns, ⟨mb, nsK hb, hbb⟩, ⟨mc, nsK h1, h2⟩⟩
    have hL : Lm K mg (hidT s₁.heap H) := by
      refine ⟨?_, fun x hx c Pt e => ?_⟩
      · obtain ⟨bm, o, h1, h2, h3, h4, h5⟩ := hbm
        exact ⟨bm, o, h1, h2, base_of h3 (noA h3 (by rw [h4]; decide) (by rw [h4]; nofun)), h4, h5⟩
      · obtain ⟨o, v1, v2, v3, v4, v5, v6, v7, v8, e1, e2, r⟩ := (hT x hx c Pt e).1
        exact ⟨o, v1, v2, v3, v4, v5, v6, v7, v8, base_of e1 (noA e1 (by rw [e2]; decide) (by rw [e2]; nofun)), e2, r⟩
    have tb : TB K H := by
      refine ⟨fun Q ps e => ?_, fun Q ps e pos cv hc => ?_, fun x hx c Pt e => ⟨_, hO2 Pt (isTab_mk hx e)⟩⟩ <;> rcases hO Q with z | ⟨_, o', xs, z⟩ | ⟨_, z⟩ <;> rw [e] at z <;> cases z
      · exact True.intro
      · cases hc
    have e0 : Env0 P w K mg (hidT s₁.heap H) callerA [] s₁ H := ⟨rfl, hM, fun b o e => of_hidT e, Nat.le_of_eq (hidT_size _ _), trivial, fun b hb => absurd (show b ∈ ([] : List Addr) from hb) (by simp), hok, .of_eq hg⟩
    refine codeAny_mono ((F _ hKb (nsK hns) hL).run callerA [] s₁ H ⟨[.ref a], []⟩ [.ref a] [.ref a] _ _ hr e0 (hbind s₁ (.ref a)) (.cons rfl .nil) (hsp H tb hS)) fun r s' h => ?_
    cases r with
    | error e => exact (hCX H e s' h).elim
    | ok fl =>
      cases fl with
      | next => exact False.elim h
      | brk => exact False.elim h
      | cont => exact False.elim h
      | ret u =>
        obtain ⟨v, H', os, bare, un, hok', r', q⟩ := h
        have q' : v = .bl true := q
        subst q'
        obtain rfl : u = Value.bool true := r'
        have kp : ∀ b o, s₁.heap.get? b = some o → isTab K b = false → s'.heap.get? b = some o := fun b o e nt => by
          rcases hO b with z | ⟨_, ob, xs, z⟩ | ⟨z, _⟩
          · exact un.keep b o e z (by intro z; exact absurd (show b ∈ ([] : List Addr) from z) (by simp)) (by simp)
          · have z2 := un.frzs b ob _ z
            obtain ⟨e1, _⟩ := hok b _ z
            obtain ⟨e2, _⟩ := hok' b _ z2
            rw [e] at e1; cases e1
            exact e2
          · rw [z] at nt; cases nt
        have gr : ∀ b, isTab K b = true → ∃ ps, s'.heap.get? b = some (tabObj ps) := fun b t => by
          obtain ⟨more, z⟩ := un.tbls b _ (hO2 b t)
          exact ⟨_, hok' b _ z⟩
        refine ⟨rfl, ⟨fun b o e => ?_, fun b o e => ?_⟩, os, bare⟩
        · cases t : isTab K b with
          | false => exact .inl (kp b o e t)
          | true =>
            obtain ⟨⟨c, C⟩, e1⟩ := tabO b t
            obtain ⟨ps, e2⟩ := gr b t
            rw [e] at e1; cases e1
            exact .inr (.inl ⟨(C.tab e).isCodeTable, rfl, #[], ps, rfl, by rw [Array.empty_append]; exact e2⟩)
        · cases t : isTab K b with
          | false => exact ⟨o, kp b o e t⟩
          | true => obtain ⟨ps, e2⟩ := gr b t; exact ⟨_, e2⟩
  have aT : isTab K a = false := by
    cases t : isTab K a with
    | false => rfl
    | true =>
      have := (tabO a t).2
      rw [ha] at this; cases this
  cases hk : K.lookup a with
  | some o =>
    have e := KX a o hk
    rw [ha] at e
    cases e
    refine core (fun b => if isTab K b = true then some (.tbl #[]) else none) (fun b => ?_) (fun b h => if_pos h) (.inr ⟨_, vs.toArray, _, hk, rfl, rfl, rfl, by rw [List.size_toArray, lenV]; exact hl, by simpa using rv⟩) (fun b u z => ?_) fun o xs z => ?_
    · by_cases hb : isTab K b = true
      · exact .inr (.inr ⟨hb, if_pos hb⟩)
      · exact .inl (if_neg hb)
    · by_cases hb : isTab K b = true
      · have z' := (if_pos hb).symm.trans z
        cases z'
        exact (tabO b hb).2
      · have z' := (if_neg hb).symm.trans z
        cases z'
    · have z' := (if_neg (by rw [aT]; decide)).symm.trans z
      cases z'
  | none =>
    refine core (fun b => if b = a then some (.frz { cls := .type "list", data := .seq vs.toArray } (.lst (ns.map V.int))) else if isTab K b = true then some (.tbl #[]) else none) (fun b => ?_) (fun b h => ?_) (.inl (.inr ⟨{ cls := .type "list", data := .seq vs.toArray }, if_pos rfl⟩)) (fun b u z => ?_) fun _ _ _ => hk
    · by_cases hb : b = a
      · exact .inr (.inl ⟨hb, _, _, if_pos hb⟩)
      · by_cases ht : isTab K b = true
        · exact .inr (.inr ⟨ht, (if_neg hb).trans (if_pos ht)⟩)
        · exact .inl ((if_neg hb).trans (if_neg ht))
    · have hb : b ≠ a := fun z => by rw [z, aT] at h; cases h
      exact (if_neg hb).trans (if_pos h)
    · by_cases hb : b = a
      · have z' := (if_pos hb).symm.trans z
        cases z'
        subst hb
        exact ⟨ha, by rw [List.length_map]; exact hl, vs, _, rv, ha⟩
      · by_cases ht : isTab K b = true
        · have z' := ((if_neg hb).trans (if_pos ht)).symm.trans z
          cases z'
          exact (tabO b ht).2
        · have z' := ((if_neg hb).trans (if_neg ht)).symm.trans z
          cases z'
noncomputable def LamR (q : Program) (K : PySem.W.Frag) : Prop := ∀ x ∈ lamNms, (∃ d, (recsOf q).find? (fun e => e.name == x) = some d) ∨ tabIn K x = none
theorem LamR.of {q : Program} {K : PySem.W.Frag} (h1 : (∃ d, (recsOf q).find? (fun e => e.name == ("turned" : Str)) = some d) ∨ tabIn K "turned" = none) (h2 : (∃ d, (recsOf q).find? (fun e => e.name == ("chain_ladder" : Str)) = some d) ∨ tabIn K "chain_ladder" = none)
    (h3 : (∃ d, (recsOf q).find? (fun e => e.name == ("flat_ladder" : Str)) = some d) ∨ tabIn K "flat_ladder" = none) (h4 : (∃ d, (recsOf q).find? (fun e => e.name == ("paired" : Str)) = some d) ∨ tabIn K "paired" = none) (h5 : (∃ d, (recsOf q).find? (fun e => e.name == ("height_of" : Str)) = some d) ∨ tabIn K "height_of" = none) (h6 : (∃ d, (recsOf q).find? (fun e => e.name == ("_law_high" : Str)) = some d) ∨ tabIn K "_law_high" = none) : LamR q K := fun x hx => by
  rcases List.mem_cons.mp hx with rfl | hx
  · exact h1
  rcases List.mem_cons.mp hx with rfl | hx
  · exact h2
  rcases List.mem_cons.mp hx with rfl | hx
  · exact h3
  rcases List.mem_cons.mp hx with rfl | hx
  · exact h4
  rcases List.mem_cons.mp hx with rfl | hx
  · exact h5
  rcases List.mem_cons.mp hx with rfl | hx
  · exact h6
  cases hx
theorem walk_ofL {l : PySem.W.OpenLaw} {n k : Nat} {q : Program} {loose : List Str} {XP : (Str → Option Value) → Heap → Prop} {YP : World → Heap → Prop} {d : DefRec} {K : Params → PySem.W.Frag} {CX : World → CXT} {sp : World → Sp} {x : Str}
    (hn : l.most = some n) (hn2 : n ≤ sizeLine) (hdf : d.params.defaults = []) (hr : Room k callerA)
    (hY : ∀ (w : World) (h : Heap), YP w h → (K w.params).In h)
    (F : ∀ (w : World) (mg : Str → Option Value) (fa : Addr) (h : Heap), (K w.params).In h → h.Ns mainGlobals mg → mg d.name = some (.ref fa) → LamR q (K w.params) ∧ noTabs (K w.params) = true ∧
      ∃ fd : FuncData, (∀ (s : Shared) (u : Value), BindsTo s fd ⟨[u], []⟩ [(x, u)]) ∧
        ∀ base : Heap, (K w.params).In base → base.Ns mainGlobals mg → Lm (K w.params) mg base → FnOk l.prog w (K w.params) mg base (CX w) k fa fd [x] (sp w))
    (hsp : ∀ (w : World) (H : Hp) (a : Addr) (ns : List Int), ns.length ≤ n → TB (K w.params) H → SqL (K w.params) H a (ns.map V.int) → sp w [.ref a] H (fun v _ => v = .bl true) fun _ _ _ => False)
    (hCX : ∀ (w : World) (H : Hp) (s : Shared) (e : Value) (s' : Shared), CX w [] H s (fun _ _ _ => False) e s' → False) :
    PySem.W.WalkO q loose XP YP l.row.toRowW d [] (fun f vs => PySem.call f vs) := by
  refine Att.attach_call hn hdf fun w s₀ s₁ mg mb fa o pm cd doc a vs ns G Y ho hd hcd hmg hobj hints hlen hg => ?_
  have KX := hY w _ Y
  obtain ⟨hrec, hnt, fd, hb, hF⟩ := F w mg fa _ KX G.T.g hmg
  have hbm := G.T.bmain
  refine law_callL KX G.T.g G.T.b G.T.builtins G.T.nolimit hg ?_ (fun x hx c Pt e => ?_) hnt hobj hints (Nat.le_trans hlen hn2) hr hF hb (fun H hO hS => hsp w H a ns hlen hO hS) fun H e s' => hCX w H s₁ e s'
  · obtain ⟨bm, ob, b1, b2, b3, b4, b5, b6⟩ := hbm
    exact ⟨bm, ob, b1, b2, b3, b4, b5, b6⟩
  · rcases hrec x hx with ⟨dd, hd⟩ | z
    · exact tab_of G.T KX hd e
    · rw [z] at e; cases e
end L3
set_option Elab.async false
set_option linter.all false
set_option maxRecDepth 100000
namespace L3
open PySem PySem.Spec PyProof.Rows L2
theorem compD_fn {k : Nat} {pt : DenP} {tt : DenT} {te : Den} {deep : Bool} : ∀ (ds : List D) (S : Nat → Rho) (b : Nat → Bool) (v : Nat → D),
    (∀ i (h : i < ds.length), ∃ ρ1 ρ2, pt ds[i] (S i ++ List.replicate k none) = some ρ1 ∧ tt ρ1 = some (b i, ρ2) ∧
      (if b i = true then ∃ q ρ3, te ρ2 = some (v i, q, ρ3) ∧ ¬ (deep = true ∧ (v i).isL = true ∧ q ≠ 1) ∧ ρ3.take (S i).length = S (i + 1) else ρ2.take (S i).length = S (i + 1))) →
    compD k pt tt te deep ds (S 0) = some (((List.range ds.length).filter b).map v, S ds.length)
  | [], S, b, v, _ => rfl
  | d :: ds, S, b, v, h => by
    obtain ⟨ρ1, ρ2, h1, h2, h3⟩ := h 0 (by simp)
    have ih := compD_fn ds (fun i => S (i + 1)) (fun i => b (i + 1)) (fun i => v (i + 1)) (fun i hi => h (i + 1) (by simpa using hi))
    have er : ((List.range (d :: ds).length).filter b).map v = (if b 0 = true then [v 0] else []) ++ ((List.range ds.length).filter fun i => b (i + 1)).map fun i => v (i + 1) := by
      rw [List.length_cons, List.range_succ_eq_map, List.filter_cons, List.filter_map]
      split <;> simp [Function.comp_def]
    rw [er]
    unfold compD
    rw [show pt d (S 0 ++ List.replicate k none) = some ρ1 from h1]
    simp only [h2]
    split at h3
    · rename_i hb
      obtain ⟨q, ρ3, h4, h5, h6⟩ := h3
      simp only [hb, if_true, h4, if_neg h5, h6, ih]
      rfl
    · rename_i hb
      simp only [hb, h3, ih]
      rfl
theorem forD_rel {pt : DenP} {body : DenS} : ∀ (ds : List D) (I : Nat → Rho → Prop) (ρ : Rho), (∀ i (h : i < ds.length) ρ, I i ρ → ∃ ρ1 ρ2, pt ds[i] ρ = some ρ1 ∧ (body ρ1 = some (.nx ρ2) ∨ body ρ1 = some (.ct ρ2)) ∧ I (i + 1) ρ2) → I 0 ρ → ∃ ρ', forD pt body ds ρ = some (.nx ρ') ∧ I ds.length ρ'
  | [], I, ρ, _, h0 => ⟨ρ, rfl, h0⟩
  | d :: ds, I, ρ, h, h0 => by
    obtain ⟨ρ1, ρ2, h1, h2, h3⟩ := h 0 (by simp) ρ h0
    obtain ⟨ρ', e, h4⟩ := forD_rel ds (fun i => I (i + 1)) ρ2 (fun i hi => h (i + 1) (by simpa using hi)) h3
    refine ⟨ρ', ?_, h4⟩
    unfold forD
    rw [show pt d ρ = some ρ1 from h1]
    rcases h2 with h2 | h2 <;> (simp only [h2]; exact e)
theorem sSeq_nx {f g : DenS} {ρ ρ1 : Rho} (h : f ρ = some (.nx ρ1)) : sSeq f g ρ = g ρ1 := by unfold sSeq; rw [h]
theorem fnD_rt {n : Nat} {body : DenS} {ds : List D} {d : D} {q : Nat} (h : body (startD n ds) = some (.rt d q)) : fnD n body ds = some (d, q) := by unfold fnD; rw [h]
theorem eComp_eq {k : Nat} {it : DenI} {pt : DenP} {tt : DenT} {te : Den} {deep : Bool} {ρ ρ1 ρ2 : Rho} {ds vs : List D} (hi : it ρ = some (ds, ρ1)) (hc : compD k pt tt te deep ds ρ1 = some (vs, ρ2)) : eComp k it pt tt te deep ρ = some (.lst vs, if deep = true then 2 else 1, ρ2) := by unfold eComp; rw [hi]; simp only [hc]
theorem sSet_eq {i : Nat} {f : Den} {ρ ρ1 : Rho} {d : D} {q : Nat} (h : f ρ = some (d, q, ρ1)) : sSet i f ρ = some (.nx (ρ1.set i (some (d, q)))) := by unfold sSet; rw [h]
theorem sRet_eq {f : Den} {ρ ρ1 : Rho} {d : D} {q : Nat} (h : f ρ = some (d, q, ρ1)) : sRet f ρ = some (.rt d q) := by unfold sRet; rw [h]
theorem sFor_eq {it : DenI} {pt : DenP} {body : DenS} {ρ ρ1 : Rho} {ds : List D} (h : it ρ = some (ds, ρ1)) : sFor it pt body ρ = forD pt body ds ρ1 := by unfold sFor; rw [h]
theorem sIf_t {g : DenT} {s s' : DenS} {ρ ρ1 : Rho} (h : g ρ = some (true, ρ1)) : sIf g s s' ρ = s ρ1 := by unfold sIf; rw [h]; rfl
theorem sIf_f {g : DenT} {s s' : DenS} {ρ ρ1 : Rho} (h : g ρ = some (false, ρ1)) : sIf g s s' ρ = s' ρ1 := by unfold sIf; rw [h]; rfl
theorem sSet_to {i : Nat} {f : Den} {ρ ρ1 ρ2 : Rho} {d : D} {q : Nat} (h : f ρ = some (d, q, ρ1)) (e : ρ1.set i (some (d, q)) = ρ2) : sSet i f ρ = some (.nx ρ2) := by rw [sSet_eq h, e]
theorem aCons_1 {f : Den} {ρ ρ1 : Rho} {d : D} {q : Nat} (h : f ρ = some (d, q, ρ1)) : aCons f aNil ρ = some ([d], ρ1) := by unfold aCons; rw [h]; rfl
theorem aCons_eq {f : Den} {g : DenA} {ρ ρ1 ρ2 : Rho} {d : D} {q : Nat} {ds : List D} (h : f ρ = some (d, q, ρ1)) (h' : g ρ1 = some (ds, ρ2)) : aCons f g ρ = some (d :: ds, ρ2) := by unfold aCons; rw [h]; simp only [h']
theorem eTupOf_lst {g : DenA} {ρ ρ1 : Rho} {ds : List D} (h : g ρ = some ([.lst ds], ρ1)) : eTupOf g ρ = some (.tup ds, 9, ρ1) := by unfold eTupOf; rw [h]
theorem eListR_eq {g : DenA} {ρ ρ1 : Rho} {ds : List D} (h : iRange g ρ = some (ds, ρ1)) : eListR g ρ = some (.lst ds, 1, ρ1) := by unfold eListR; rw [h]
theorem eCall_eq {F : List D → Option (D × Nat)} {n : Nat} {g : DenA} {ρ ρ1 : Rho} {ds : List D} {d : D} {q : Nat} (h : g ρ = some (ds, ρ1)) (hl : ds.length = n) (hF : F ds = some (d, q)) : eCall F n g ρ = some (d, q, ρ1) := by unfold eCall; rw [h]; simp only [hl, if_true, hF]
noncomputable def nums (l : List Nat) : List D := l.map fun i => .int (Int.ofNat i)
noncomputable def rowT (n : Nat) (f : Nat → Nat → Nat) (i : Nat) : D := .tup (nums ((List.range n).map fun j => f i j))
noncomputable def tabT (n : Nat) (f : Nat → Nat → Nat) : D := .tup ((List.range n).map fun i => rowT n f i)
noncomputable def rowL (n : Nat) (f : Nat → Nat → Nat) (i : Nat) : D := .lst (nums ((List.range n).map fun j => f i j))
noncomputable def tabL (n : Nat) (f : Nat → Nat → Nat) : D := .lst ((List.range n).map fun i => rowL n f i)
@[simp] theorem isL_tabT {n : Nat} {f : Nat → Nat → Nat} : (tabT n f).isL = false := rfl
@[simp] theorem isL_rowT {n : Nat} {f : Nat → Nat → Nat} {i : Nat} : (rowT n f i).isL = false := rfl
@[simp] theorem isL_tabL {n : Nat} {f : Nat → Nat → Nat} : (tabL n f).isL = true := rfl
@[simp] theorem isL_rowL {n : Nat} {f : Nat → Nat → Nat} {i : Nat} : (rowL n f i).isL = true := rfl
theorem nums_len (l : List Nat) : (nums l).length = l.length := by simp [nums]
theorem nums_get (l : List Nat) (i : Nat) : (nums l)[i]? = (l[i]?).map fun x => .int (Int.ofNat x) := by simp [nums]
theorem ixN_nat {n i : Nat} (h : i < n) : ixN n (Int.ofNat i) = some i := by
  unfold ixN
  rw [if_pos (by exact Int.natCast_nonneg i), if_pos (by show (i : Int) < n; omega)]
  rfl
theorem atI_of {α : Type} {xs : List α} {i : Nat} {x : α} (h : xs[i]? = some x) : L2.atI xs (Int.ofNat i) = some x := by
  unfold L2.atI
  rw [ixN_nat (List.getElem?_eq_some_iff.mp h).1]
  exact h
theorem at_nums {l : List Nat} {i x : Nat} (h : l[i]? = some x) : L2.atI (nums l) (Int.ofNat i) = some (.int (Int.ofNat x)) := atI_of (by rw [nums_get, h]; rfl)
theorem at_map {g : Nat → D} {n i : Nat} (h : i < n) : L2.atI ((List.range n).map g) (Int.ofNat i) = some (g i) := atI_of (by rw [List.getElem?_map, List.getElem?_range h]; rfl)
theorem at_nums_range {g : Nat → Nat} {n i : Nat} (h : i < n) : L2.atI (nums ((List.range n).map g)) (Int.ofNat i) = some (.int (Int.ofNat (g i))) := at_nums (by rw [List.getElem?_map, List.getElem?_range h]; rfl)
theorem at_tabT {n : Nat} {f : Nat → Nat → Nat} {i : Nat} (h : i < n) : atD (tabT n f) (Int.ofNat i) = some (rowT n f i) := at_map h
theorem at_rowT {n : Nat} {f : Nat → Nat → Nat} {i j : Nat} (h : j < n) : atD (rowT n f i) (Int.ofNat j) = some (.int (Int.ofNat (f i j))) := at_nums_range h
theorem at_tabL {n : Nat} {f : Nat → Nat → Nat} {i : Nat} (h : i < n) : atD (tabL n f) (Int.ofNat i) = some (rowL n f i) := at_map h
theorem at_rowL {n : Nat} {f : Nat → Nat → Nat} {i j : Nat} (h : j < n) : atD (rowL n f i) (Int.ofNat j) = some (.int (Int.ofNat (f i j))) := at_nums_range h
theorem len_tabT {n : Nat} {f : Nat → Nat → Nat} : lenD (tabT n f) = some n := by simp [tabT, lenD]
theorem len_tabL {n : Nat} {f : Nat → Nat → Nat} : lenD (tabL n f) = some n := by simp [tabL, lenD]
theorem tabL_congr {n : Nat} {f g : Nat → Nat → Nat} (h : ∀ a b, a < n → b < n → f a b = g a b) : tabL n f = tabL n g := by
  unfold tabL rowL
  refine congrArg D.lst (List.map_congr_left fun a ha => ?_)
  refine congrArg (fun l => D.lst (nums l)) (List.map_congr_left fun b hb => ?_)
  exact h a b (List.mem_range.mp ha) (List.mem_range.mp hb)
theorem map_range_set {α : Type} {g : Nat → α} {n m : Nat} {x : α} : ((List.range n).map g).set m x = (List.range n).map fun a => if a = m then x else g a := by
  apply List.ext_getElem?
  intro i
  by_cases hi : i < n
  · by_cases h : m = i
    · subst h
      rw [List.getElem?_set_self (by simpa using hi), List.getElem?_map, List.getElem?_range hi]
      simp
    · rw [List.getElem?_set_ne h, List.getElem?_map, List.getElem?_map, List.getElem?_range hi]
      simp
      exact fun z => absurd z.symm h
  · rw [List.getElem?_eq_none (by simp; omega), List.getElem?_eq_none (by simp; omega)]
theorem nums_map {g : Nat → Nat} {n : Nat} : nums ((List.range n).map g) = (List.range n).map fun i => .int (Int.ofNat (g i)) := by simp [nums]
theorem tabL_set {n : Nat} {f : Nat → Nat → Nat} {a b v : Nat} : D.lst (((List.range n).map fun i => rowL n f i).set a (.lst ((nums ((List.range n).map fun j => f a j)).set b (.int (Int.ofNat v))))) = tabL n fun i j => if i = a ∧ j = b then v else f i j := by
  unfold tabL
  rw [map_range_set]
  refine congrArg D.lst (List.map_congr_left fun i hi => ?_)
  by_cases h : i = a
  · subst h
    rw [if_pos rfl, nums_map, map_range_set]
    unfold rowL
    rw [nums_map]
    refine congrArg D.lst (List.map_congr_left fun j hj => ?_)
    by_cases hj : j = b <;> simp [hj]
  · rw [if_neg h]
    unfold rowL
    simp [h]
theorem zeros (n : Nat) : D.lst (List.replicate n [D.int 0]).flatten = rowL n (fun _ _ => 0) 0 := by
  unfold rowL nums
  congr 1
  simp [List.flatten_replicate_singleton, List.map_const']
theorem toPs_map : ∀ ds : List D, toPs ds = ds.map toP
  | [] => rfl
  | d :: ds => by rw [toPs, toPs_map ds]; rfl
noncomputable def lay (d : D) : Bool := noDic d && (toP d).canLay0
theorem lay_1 {d : D} (h : lay d = true) : noDic d = true := (Bool.and_eq_true_iff.mp h).1
theorem lay_2 {d : D} (h : lay d = true) : (toP d).canLay0 = true := (Bool.and_eq_true_iff.mp h).2
theorem noDics_all : ∀ {ds : List D}, (∀ d ∈ ds, lay d = true) → noDics ds = true
  | [], _ => rfl
  | d :: ds, h => by
    show (noDic d && noDics ds) = true
    rw [lay_1 (h d List.mem_cons_self), noDics_all fun x m => h x (List.mem_cons_of_mem _ m)]
    rfl
noncomputable def dep (d : D) : Nat := (toP d).depth
theorem layAll : ∀ {ds : List D}, (∀ d ∈ ds, lay d = true) → PyData.canLayAll0 (toPs ds) = true
  | [], _ => rfl
  | d :: ds, h => by
    rw [toPs, PyData.canLayAll0, layAll fun x m => h x (List.mem_cons_of_mem _ m), Bool.and_true]
    exact lay_2 (h d List.mem_cons_self)
theorem depAll {k : Nat} : ∀ {ds : List D}, (∀ d ∈ ds, dep d ≤ k) → PyData.depthAll (toPs ds) ≤ k
  | [], _ => Nat.zero_le _
  | d :: ds, h => by
    rw [toPs, PyData.depthAll]
    exact Nat.max_le.mpr ⟨h d List.mem_cons_self, depAll fun x m => h x (List.mem_cons_of_mem _ m)⟩
noncomputable def Sh (k : Nat) (d : D) : Prop := lay d = true ∧ dep d ≤ k
theorem Sh.int {k : Nat} (i : Int) : Sh k (.int i) := ⟨rfl, Nat.zero_le _⟩
theorem Sh.tup {k : Nat} {ds : List D} (h : ∀ d ∈ ds, Sh k d) : Sh (k + 1) (.tup ds) := ⟨Bool.and_eq_true_iff.mpr ⟨noDics_all fun d m => (h d m).1, layAll fun d m => (h d m).1⟩, Nat.succ_le_succ (depAll fun d m => (h d m).2)⟩
theorem Sh.lst {k : Nat} {ds : List D} (h : ∀ d ∈ ds, Sh k d) : Sh (k + 1) (.lst ds) := ⟨Bool.and_eq_true_iff.mpr ⟨noDics_all fun d m => (h d m).1, layAll fun d m => (h d m).1⟩, Nat.succ_le_succ (depAll fun d m => (h d m).2)⟩
theorem Sh.ok {k : Nat} {d : D} (h : Sh k d) (hk : k ≤ 64 := by decide) : okD d = true := by
  show (noDic d && ((toP d).canLay0 && decide ((toP d).depth ≤ 64))) = true
  rw [lay_1 h.1, lay_2 h.1, Bool.true_and, Bool.true_and]
  exact decide_eq_true (Nat.le_trans h.2 hk)
theorem sh_nums {l : List Nat} {d : D} (m : d ∈ nums l) : Sh 0 d := by
  obtain ⟨x, _, rfl⟩ := List.mem_map.mp m
  exact .int _
theorem sh_L (l : List Nat) : Sh 1 (.lst (nums l)) := .lst fun _ m => sh_nums m
theorem sh_T (l : List Nat) : Sh 1 (.tup (nums l)) := .tup fun _ m => sh_nums m
theorem sh_tabT (n : Nat) (f : Nat → Nat → Nat) : Sh 2 (tabT n f) := .tup fun d m => by
  obtain ⟨x, _, rfl⟩ := List.mem_map.mp m
  exact sh_T _
theorem eqvAll_nums : ∀ l l' : List Nat, PyData.eqvAll (toPs (nums l)) (toPs (nums l')) = decide (l = l')
  | [], [] => rfl
  | [], _ :: _ => rfl
  | _ :: _, [] => rfl
  | x :: l, y :: l' => by
    show (((x : Int) == (y : Int)) && PyData.eqvAll (toPs (nums l)) (toPs (nums l'))) = _
    rw [eqvAll_nums l l']
    by_cases h : x = y
    · subst h; simp
    · have : ((x : Int) == (y : Int)) = false := by simp; omega
      rw [this]
      simp [h]
theorem eqD_L (l l' : List Nat) : eqD (.lst (nums l)) (.lst (nums l')) = decide (l = l') := eqvAll_nums l l'
theorem eqD_T (l l' : List Nat) : eqD (.tup (nums l)) (.tup (nums l')) = decide (l = l') := eqvAll_nums l l'
theorem eqD_int (i j : Int) : eqD (.int i) (.int j) = decide (i = j) := by
  show (i == j) = _
  rw [Bool.beq_eq_decide_eq]
theorem eqD_nat (i j : Nat) : eqD (.int (Int.ofNat i)) (.int (Int.ofNat j)) = decide (i = j) := by
  rw [eqD_int]
  exact decide_eq_decide.mpr ⟨fun h => Int.ofNat.inj h, fun h => by rw [h]⟩
theorem dEq_L (l l' : List Nat) : dEq (.lst (nums l)) (.lst (nums l')) = some (.bl (decide (l = l'))) := by unfold dEq; rw [if_pos ⟨(sh_L l).ok, (sh_L l').ok⟩, eqD_L]
theorem dNe_L (l l' : List Nat) : dNe (.lst (nums l)) (.lst (nums l')) = some (.bl (!decide (l = l'))) := by unfold dNe; rw [if_pos ⟨(sh_L l).ok, (sh_L l').ok⟩, eqD_L]
theorem dEq_int (i j : Int) : dEq (.int i) (.int j) = some (.bl (decide (i = j))) := by unfold dEq; rw [if_pos ⟨(Sh.int (k := 0) i).ok, (Sh.int (k := 0) j).ok⟩, eqD_int]
theorem dEq_nat (i j : Nat) : dEq (.int (Int.ofNat i)) (.int (Int.ofNat j)) = some (.bl (decide (i = j))) := by unfold dEq; rw [if_pos ⟨(Sh.int (k := 0) _).ok, (Sh.int (k := 0) _).ok⟩, eqD_nat]
theorem dNe_nat (i j : Nat) : dNe (.int (Int.ofNat i)) (.int (Int.ofNat j)) = some (.bl (!decide (i = j))) := by unfold dNe; rw [if_pos ⟨(Sh.int (k := 0) _).ok, (Sh.int (k := 0) _).ok⟩, eqD_nat]
theorem findIdx_first {α : Type} {p : α → Bool} : ∀ {l : List α} {j : Nat} {x : α}, l[j]? = some x → p x = true → (∀ i y, i < j → l[i]? = some y → p y = false) → l.findIdx? p = some j
  | [], j, x, h, _, _ => by simp at h
  | a :: l, 0, x, h, hp, _ => by
    simp at h; subst h
    simp [List.findIdx?_cons, hp]
  | a :: l, j + 1, x, h, hp, hn => by
    have h0 : p a = false := hn 0 a (Nat.succ_pos _) rfl
    have ih := findIdx_first (l := l) (j := j) (x := x) (by simpa using h) hp fun i y hi hy => hn (i + 1) y (Nat.succ_lt_succ hi) (by simpa using hy)
    simp [List.findIdx?_cons, h0, ih]
structure Lad (n : Nat) (f : Nat → Nat → Nat) : Prop where
  lo : 0 < n
  hi : n ≤ 16
  cl : ∀ i j, i < n → j < n → f i j < n
  idem : ∀ i, i < n → f i i = i
  comm : ∀ i j, i < n → j < n → f i j = f j i
  assoc : ∀ i j k, i < n → j < n → k < n → f (f i j) k = f i (f j k)
  bot : ∃ z, z < n ∧ ∀ j, j < n → f z j = j
noncomputable def ladB (n : Nat) (f : Nat → Nat → Nat) : Bool :=
  decide (0 < n) && decide (n ≤ 16) && ((List.range n).all fun i => (List.range n).all fun j => decide (f i j < n)) && ((List.range n).all fun i => decide (f i i = i)) && ((List.range n).all fun i => (List.range n).all fun j => decide (f i j = f j i)) &&
  ((List.range n).all fun i => (List.range n).all fun j => (List.range n).all fun k => decide (f (f i j) k = f i (f j k))) && ((List.range n).any fun z => (List.range n).all fun j => decide (f z j = j))
theorem ladB_ok {n : Nat} {f : Nat → Nat → Nat} (h : ladB n f = true) : Lad n f := by
  unfold ladB at h
  simp only [Bool.and_eq_true, decide_eq_true_eq, List.all_eq_true, List.any_eq_true, List.mem_range] at h
  obtain ⟨⟨⟨⟨⟨⟨h1, h2⟩, h3⟩, h4⟩, h5⟩, h6⟩, z, hz, h7⟩ := h
  exact ⟨h1, h2, fun i j hi hj => h3 i hi j hj, h4, fun i j hi hj => h5 i hi j hj, fun i j k hi hj hk => h6 i hi j hj k hk, z, hz, h7⟩
theorem Lad.ren {n : Nat} {f : Nat → Nat → Nat} (L : Lad n f) {π ι : Nat → Nat} (h1 : ∀ i, i < n → π i < n) (h2 : ∀ i, i < n → ι i < n) (h3 : ∀ i, i < n → ι (π i) = i) (h4 : ∀ i, i < n → π (ι i) = i) : Lad n fun a b => π (f (ι a) (ι b)) := by
  obtain ⟨l1, l2, cl, idem, comm, assoc, z, hz, bot⟩ := L
  refine ⟨l1, l2, fun i j hi hj => h1 _ (cl _ _ (h2 i hi) (h2 j hj)), fun i hi => ?_, fun i j hi hj => ?_, fun i j k hi hj hk => ?_, π z, h1 z hz, fun j hj => ?_⟩
  · show π (f (ι i) (ι i)) = i
    rw [idem _ (h2 i hi), h4 i hi]
  · show π (f (ι i) (ι j)) = π (f (ι j) (ι i))
    rw [comm _ _ (h2 i hi) (h2 j hj)]
  · show π (f (ι (π (f (ι i) (ι j)))) (ι k)) = π (f (ι i) (ι (π (f (ι j) (ι k)))))
    rw [h3 _ (cl _ _ (h2 i hi) (h2 j hj)), h3 _ (cl _ _ (h2 j hj) (h2 k hk)), assoc _ _ _ (h2 i hi) (h2 j hj) (h2 k hk)]
  · show π (f (ι (π z)) (ι j)) = j
    rw [h3 z hz, bot _ (h2 j hj), h4 j hj]
noncomputable def left (p : Nat → Nat → Nat) (n : Nat) : Nat → List Nat
  | 0 => List.range n
  | k + 1 => (left p n k).eraseIdx (p k (left p n k).length)
noncomputable def drawn (p : Nat → Nat → Nat) (n k : Nat) : Nat := (left p n k).getD (p k (left p n k).length) 0
theorem nums_erase : ∀ (l : List Nat) (j : Nat), (nums l).eraseIdx j = nums (l.eraseIdx j)
  | [], _ => rfl
  | _ :: _, 0 => rfl
  | a :: l, j + 1 => congrArg (D.int (Int.ofNat a) :: ·) (nums_erase l j)
theorem left_len {p : Nat → Nat → Nat} {n : Nat} (hp : ∀ k m, 0 < m → p k m < m) : ∀ k, k ≤ n → (left p n k).length = n - k
  | 0, _ => by simp [left]
  | k + 1, h => by
    have ih := left_len hp k (Nat.le_of_succ_le h)
    have := hp k (n - k) (by omega)
    rw [left, List.length_eraseIdx, ih, if_pos this]
    omega
theorem cons_erase : ∀ {l : List Nat} {j : Nat} (h : j < l.length), (l[j] :: l.eraseIdx j).Perm l
  | a :: l, 0, _ => List.Perm.refl _
  | a :: l, j + 1, h => (List.Perm.swap a (l[j]'(by simpa using h)) (l.eraseIdx j)).trans (List.Perm.cons a (cons_erase (by simpa using h)))
theorem left_perm {p : Nat → Nat → Nat} {n : Nat} (hp : ∀ k m, 0 < m → p k m < m) : ∀ k, k ≤ n → (((List.range k).map (drawn p n)) ++ left p n k).Perm (List.range n)
  | 0, _ => by simp [left]
  | k + 1, h => by
    have ih := left_perm hp k (Nat.le_of_succ_le h)
    have hl := left_len hp k (by omega : k ≤ n)
    have hj : p k (left p n k).length < (left p n k).length := by rw [hl]; exact hp k _ (by omega)
    refine List.Perm.trans ?_ ih
    rw [List.range_succ, List.map_append, List.append_assoc]
    refine List.Perm.append_left _ ?_
    have e : drawn p n k = (left p n k)[p k (left p n k).length] := by unfold drawn; rw [List.getD_eq_getElem?_getD, List.getElem?_eq_getElem hj]; rfl
    show (drawn p n k :: (left p n (k + 1))).Perm _
    rw [e, left]
    exact cons_erase hj
theorem drawn_perm {p : Nat → Nat → Nat} {n : Nat} (hp : ∀ k m, 0 < m → p k m < m) : ((List.range n).map (drawn p n)).Perm (List.range n) := by
  have h := left_perm hp n (Nat.le_refl n)
  have hl := left_len hp n (Nat.le_refl n)
  rw [Nat.sub_self] at hl
  rw [List.length_eq_zero_iff.mp hl, List.append_nil] at h
  exact h
theorem drawn_lt {p : Nat → Nat → Nat} {n : Nat} (hp : ∀ k m, 0 < m → p k m < m) {i : Nat} (h : i < n) : drawn p n i < n := by
  have m : drawn p n i ∈ (List.range n).map (drawn p n) := List.mem_map.mpr ⟨i, List.mem_range.mpr h, rfl⟩
  exact List.mem_range.mp ((drawn_perm hp).mem_iff.mp m)
noncomputable def undrawn (p : Nat → Nat → Nat) (n a : Nat) : Nat := ((List.range n).map (drawn p n)).idxOf a
theorem undrawn_lt {p : Nat → Nat → Nat} {n : Nat} (hp : ∀ k m, 0 < m → p k m < m) {a : Nat} (h : a < n) : undrawn p n a < n := by
  have m : a ∈ (List.range n).map (drawn p n) := (drawn_perm hp).mem_iff.mpr (List.mem_range.mpr h)
  have := List.idxOf_lt_length_of_mem m
  rw [List.length_map, List.length_range] at this
  exact this
theorem drawn_undrawn {p : Nat → Nat → Nat} {n : Nat} (hp : ∀ k m, 0 < m → p k m < m) {a : Nat} (h : a < n) : drawn p n (undrawn p n a) = a := by
  have m : a ∈ (List.range n).map (drawn p n) := (drawn_perm hp).mem_iff.mpr (List.mem_range.mpr h)
  have := List.getElem_idxOf (List.idxOf_lt_length_of_mem m)
  rw [List.getElem_map, List.getElem_range] at this
  exact this
theorem undrawn_drawn {p : Nat → Nat → Nat} {n : Nat} (hp : ∀ k m, 0 < m → p k m < m) {i : Nat} (h : i < n) : undrawn p n (drawn p n i) = i := by
  have nd : ((List.range n).map (drawn p n)).Nodup := (drawn_perm hp).nodup_iff.mpr List.nodup_range
  have hi : i < ((List.range n).map (drawn p n)).length := by simpa using h
  have := nd.idxOf_getElem i hi
  rw [List.getElem_map, List.getElem_range] at this
  exact this
end L3
set_option Elab.async false
set_option linter.all false
set_option maxRecDepth 100000
namespace L3
open PySem PySem.Spec PyProof.Rows L2
theorem comp1 {i n : Nat} {tt : DenT} {te : Den} {ρ : Rho} {deep : Bool} (hi : ρ.length = i) (b : Nat → Bool) (v : Nat → D) (q : Nat → Nat) (ht : ∀ j, j < n → tt (ρ ++ [some (.int (Int.ofNat j), 9)]) = some (b j, ρ ++ [some (.int (Int.ofNat j), 9)]))
    (he : ∀ j, j < n → b j = true → te (ρ ++ [some (.int (Int.ofNat j), 9)]) = some (v j, q j, ρ ++ [some (.int (Int.ofNat j), 9)])) (hd : deep = true → ∀ j, (v j).isL = true → q j = 1 := by intro h; cases h) :
    compD 1 (pName i) tt te deep (rangeD n) ρ = some (((List.range n).filter b).map v, ρ) := by
  have h := compD_fn (k := 1) (pt := pName i) (tt := tt) (te := te) (deep := deep) (rangeD n) (fun _ => ρ) b v (fun j hj => ?_)
  · rw [rangeD_len] at h
    exact h
  · rw [rangeD_len] at hj
    refine ⟨ρ ++ [some (.int (Int.ofNat j), 9)], _, ?_, ht j hj, ?_⟩
    · have : (rangeD n)[j]'(by rw [rangeD_len]; exact hj) = .int (Int.ofNat j) := by simp [rangeD]
      rw [this]
      unfold pName
      rw [if_pos (by simp [hi])]
      subst hi
      simp [List.set_append]
    · by_cases hb : b j = true
      · rw [if_pos hb]
        exact ⟨q j, _, he j hj hb, fun ⟨h1, h2, h3⟩ => h3 (hd h1 j h2), by simp⟩
      · rw [if_neg hb]
        simp
theorem filter_one {z : Nat} : ∀ n : Nat, (List.range n).filter (fun w => decide (w = z)) = if z < n then [z] else []
  | 0 => by simp
  | n + 1 => by
    rw [List.range_succ, List.filter_append, filter_one n]
    by_cases h : n = z
    · subst h; simp
    · have : ¬ (n = z) := h
      by_cases h2 : z < n
      · rw [if_pos h2, if_pos (by omega)]; simp [h]
      · rw [if_neg h2, if_neg (by omega)]; simp [h]
theorem map_range_id {n : Nat} {g : Nat → Nat} : (List.range n).map g = List.range n ↔ ∀ j, j < n → g j = j := by
  constructor
  · intro h j hj
    have := congrArg (fun l => l[j]?) h
    simpa [hj] using this
  · intro h
    have e := List.map_congr_left (l := List.range n) (f := g) (g := id) fun a ha => h a (List.mem_range.mp ha)
    rw [e, List.map_id]
namespace Lad
variable {n : Nat} {f : Nat → Nat → Nat} (L : Lad n f)
include L
theorem bot_uniq {z x : Nat} (hz : z < n) (bz : ∀ j, j < n → f z j = j) (hx : x < n) (bx : ∀ j, j < n → f x j = j) : x = z := by
  have h1 := bx z hz
  have h2 := bz x hx
  rw [L.comm x z hx hz] at h1
  omega
theorem fold_lt : ∀ {l : List Nat} {a : Nat}, a < n → (∀ x ∈ l, x < n) → l.foldl f a < n
  | [], a, ha, _ => ha
  | y :: l, a, ha, h => fold_lt (l := l) (L.cl a y ha (h y List.mem_cons_self)) fun x m => h x (List.mem_cons_of_mem _ m)
theorem fold_up : ∀ {l : List Nat} {a x : Nat}, a < n → x < n → (∀ x ∈ l, x < n) → f x a = a → f x (l.foldl f a) = l.foldl f a
  | [], a, x, _, _, _, e => e
  | y :: l, a, x, ha, hx, h, e => by
    have hy := h y List.mem_cons_self
    refine fold_up (l := l) (L.cl a y ha hy) hx (fun x m => h x (List.mem_cons_of_mem _ m)) ?_
    rw [← L.assoc x a y hx ha hy, e]
theorem fold_mem : ∀ {l : List Nat} {a x : Nat}, a < n → (∀ x ∈ l, x < n) → x ∈ l → f x (l.foldl f a) = l.foldl f a
  | y :: l, a, x, ha, h, m => by
    have hy := h y List.mem_cons_self
    have hl : ∀ x ∈ l, x < n := fun x m => h x (List.mem_cons_of_mem _ m)
    rcases List.mem_cons.mp m with rfl | m
    · refine fold_up L (l := l) (L.cl a x ha hy) hy hl ?_
      rw [L.comm a x ha hy, ← L.assoc x x a hy hy ha, L.idem x hy]
    · exact fold_mem (l := l) (L.cl a y ha hy) hl m
theorem fold_out {z : Nat} (hz : z < n) (bz : ∀ j, j < n → f z j = j) : ∀ {l : List Nat} {a : Nat}, a < n → (∀ x ∈ l, x < n) → l.foldl f a = f a (l.foldl f z)
  | [], a, ha, _ => by show a = f a z; rw [L.comm a z ha hz, bz a ha]
  | y :: l, a, ha, h => by
    have hy := h y List.mem_cons_self
    have hl : ∀ x ∈ l, x < n := fun x m => h x (List.mem_cons_of_mem _ m)
    show l.foldl f (f a y) = f a (l.foldl f (f z y))
    rw [bz y hy, fold_out hz bz (L.cl a y ha hy) hl, fold_out hz bz hy hl, L.assoc a y _ ha hy (L.fold_lt hz hl)]
theorem top_uniq {z : Nat} (hz : z < n) (w : Nat) (hw : w < n) : (∀ x, x < n → f x w = w) ↔ w = (List.range n).foldl f z := by
  have hr : ∀ x ∈ List.range n, x < n := fun x m => List.mem_range.mp m
  have ht := L.fold_lt hz hr
  have up : ∀ x, x < n → f x ((List.range n).foldl f z) = (List.range n).foldl f z := fun x hx => L.fold_mem hz hr (List.mem_range.mpr hx)
  constructor
  · intro h
    have h1 := h _ ht
    have h2 := up w hw
    rw [L.comm _ _ ht hw] at h1
    omega
  · intro h x hx
    rw [h]; exact up x hx
end Lad
end L3
set_option Elab.async false
set_option linter.all false
set_option maxRecDepth 100000
namespace L3
open PySem PySem.Spec PyProof.Rows L2
theorem nums_getD {l : List Nat} {i : Nat} (h : i < (nums l).length) : (nums l)[i] = .int (Int.ofNat (l.getD i 0)) := by
  have h' : i < l.length := by rw [nums_len] at h; exact h
  simp [nums, h']
theorem getD_mem {l : List Nat} {i : Nat} (h : i < l.length) : l.getD i 0 ∈ l := by
  rw [List.getD_eq_getElem?_getD, List.getElem?_eq_getElem h]
  exact List.getElem_mem h
theorem compL {i : Nat} {te : Den} {ρ : Rho} {deep : Bool} (l : List Nat) (hi : ρ.length = i) (v : Nat → D) (q : Nat → Nat)
    (he : ∀ x, x ∈ l → te (ρ ++ [some (.int (Int.ofNat x), 9)]) = some (v x, q x, ρ ++ [some (.int (Int.ofNat x), 9)])) (hd : deep = true → ∀ j, (v j).isL = true → q j = 1 := by intro h; cases h) :
    compD 1 (pName i) tYesD te deep (nums l) ρ = some (l.map v, ρ) := by
  have h := compD_fn (k := 1) (pt := pName i) (tt := tYesD) (te := te) (deep := deep) (nums l) (fun _ => ρ) (fun _ => true) (fun j => v (l.getD j 0)) (fun j hj => ?_)
  · rw [nums_len, show (List.range l.length).filter (fun _ => true) = List.range l.length by simp] at h
    rw [h]
    have e : (List.range l.length).map (fun j => v (l.getD j 0)) = l.map v := by
      apply List.ext_getElem?
      intro k
      by_cases hk : k < l.length
      · simp [hk]
      · rw [List.getElem?_eq_none (by simp; omega), List.getElem?_eq_none (by simp; omega)]
    rw [e]
  · have hj' : j < l.length := by rw [nums_len] at hj; exact hj
    refine ⟨ρ ++ [some (.int (Int.ofNat (l.getD j 0)), 9)], _, ?_, rfl, ?_⟩
    · rw [nums_getD hj]
      unfold pName
      rw [if_pos (by simp [hi])]
      subst hi
      simp [List.set_append]
    · rw [if_pos rfl]
      exact ⟨q _, _, he _ (getD_mem hj'), fun ⟨h1, h2, h3⟩ => h3 (hd h1 _ h2), by simp⟩
theorem compLt {i : Nat} {tt : DenT} {te : Den} {ρ : Rho} {deep : Bool} (l : List Nat) (hi : ρ.length = i) (b : Nat → Bool) (v : Nat → D) (q : Nat → Nat)
    (ht : ∀ x, x ∈ l → tt (ρ ++ [some (.int (Int.ofNat x), 9)]) = some (b x, ρ ++ [some (.int (Int.ofNat x), 9)]))
    (he : ∀ x, x ∈ l → b x = true → te (ρ ++ [some (.int (Int.ofNat x), 9)]) = some (v x, q x, ρ ++ [some (.int (Int.ofNat x), 9)])) (hd : deep = true → ∀ j, (v j).isL = true → q j = 1 := by intro h; cases h) :
    compD 1 (pName i) tt te deep (nums l) ρ = some ((l.filter b).map v, ρ) := by
  have h := compD_fn (k := 1) (pt := pName i) (tt := tt) (te := te) (deep := deep) (nums l) (fun _ => ρ) (fun j => b (l.getD j 0)) (fun j => v (l.getD j 0)) (fun j hj => ?_)
  · rw [nums_len] at h
    rw [h]
    have e : ((List.range l.length).filter fun j => b (l.getD j 0)).map (fun j => v (l.getD j 0)) = (l.filter b).map v := by
      have e1 : (List.range l.length).map (fun j => l.getD j 0) = l := by
        apply List.ext_getElem?
        intro k
        by_cases hk : k < l.length
        · simp [hk]
        · rw [List.getElem?_eq_none (by simp; omega), List.getElem?_eq_none (by omega)]
      have e2 := congrArg (fun m => (List.filter b m).map v) e1
      simp only [List.filter_map, List.map_map] at e2
      exact e2
    rw [e]
  · have hj' : j < l.length := by rw [nums_len] at hj; exact hj
    refine ⟨ρ ++ [some (.int (Int.ofNat (l.getD j 0)), 9)], _, ?_, ht _ (getD_mem hj'), ?_⟩
    · rw [nums_getD hj]
      unfold pName
      rw [if_pos (by simp [hi])]
      subst hi
      simp [List.set_append]
    · by_cases hb : b (l.getD j 0) = true
      · rw [if_pos hb]
        exact ⟨q _, _, he _ (getD_mem hj') hb, fun ⟨h1, h2, h3⟩ => h3 (hd h1 _ h2), by simp⟩
      · rw [if_neg hb]
        simp
theorem e2_eq {g : D → D → Option D} {fa fb : Den} {ρ ρ1 ρ2 : Rho} {x y d : D} {q q' : Nat} (ha : fa ρ = some (x, q, ρ1)) (hb : fb ρ1 = some (y, q', ρ2)) (hg : g x y = some d) : e2 g fa fb ρ = some (d, 9, ρ2) := by unfold e2; rw [ha]; simp only [hb, hg]
theorem tOfB_eq {f : Den} {ρ ρ1 : Rho} {b : Bool} {q : Nat} (h : f ρ = some (.bl b, q, ρ1)) : tOfB f ρ = some (b, ρ1) := by unfold tOfB; rw [h]
theorem sApp_eq {i : Nat} {g : DenA} {ρ ρ1 ρ2 : Rho} {ds : List D} {d : D} (hl : isLst ρ[i]? = true) (hg : g ρ = some ([d], ρ1)) (h1 : ρ1[i]? = some (some (.lst ds, 1))) (hn : ds.length ≤ 1000) (e : ρ1.set i (some (.lst (ds ++ [d]), 1)) = ρ2) : sDrop (eApp i g) ρ = some (.nx ρ2) := by
  unfold sDrop eApp
  rw [if_pos hl, hg]
  simp only [h1, if_pos hn, e]
theorem eB_eq {b : List D → Option D} {g : DenA} {ρ ρ1 : Rho} {ds : List D} {d : D} (h : g ρ = some (ds, ρ1)) (hd : b ds = some d) : eB b g ρ = some (d, 9, ρ1) := by unfold eB; rw [h]; simp only [hd]
namespace Lad
variable {n : Nat} {f : Nat → Nat → Nat} (L : Lad n f)
include L
theorem le_trans {x y z : Nat} (hx : x < n) (hy : y < n) (hz : z < n) (h1 : f x y = y) (h2 : f y z = z) : f x z = z := by
  rw [← h2, ← L.assoc x y z hx hy hz, h1]
theorem le_anti {x y : Nat} (hx : x < n) (hy : y < n) (h1 : f x y = y) (h2 : f y x = x) : x = y := by
  rw [L.comm y x hy hx, h1] at h2; exact h2.symm
theorem lub {x y z : Nat} (hx : x < n) (hy : y < n) (hz : z < n) (h1 : f x z = z) (h2 : f y z = z) : f (f x y) z = z := by rw [L.assoc x y z hx hy hz, h2, h1]
theorem sup_least {z : Nat} (hz : z < n) (bz : ∀ j, j < n → f z j = j) {b : Nat} (hb : b < n) : ∀ {l : List Nat}, (∀ x ∈ l, x < n) → (∀ x ∈ l, f x b = b) → f (l.foldl f z) b = b
  | [], _, _ => bz b hb
  | y :: l, h, k => by
    have hy := h y List.mem_cons_self
    have hl : ∀ x ∈ l, x < n := fun x m => h x (List.mem_cons_of_mem _ m)
    have e : (y :: l).foldl f z = f y (l.foldl f z) := by
      show l.foldl f (f z y) = _
      rw [bz y hy, L.fold_out hz bz hy hl]
    rw [e]
    exact L.lub hy (L.fold_lt hz hl) hb (k y List.mem_cons_self) (sup_least hz bz hb hl fun x m => k x (List.mem_cons_of_mem _ m))
omit L
include L
variable {z : Nat} (hz : z < n) (bz : ∀ j, j < n → f z j = j) {r s : Nat → Nat} (hr : ∀ i, i < n → r i < n)
include hz bz hr
end Lad
end L3
set_option Elab.async false
set_option linter.all false
set_option maxRecDepth 100000
namespace L3
open PySem PySem.Spec PyProof.Rows L2
theorem len1 {α : Type} {us : List α} (h : us.length = 1) : ∃ a, us = [a] := match us, h with | [a], _ => ⟨a, rfl⟩
theorem len2 {α : Type} {us : List α} (h : us.length = 2) : ∃ a b, us = [a, b] := by
  cases us with
  | nil => cases h
  | cons a us =>
    obtain ⟨b, hh⟩ := len1 (Nat.succ.inj h)
    exact ⟨a, b, by rw [hh]⟩
theorem len3 {α : Type} {us : List α} (h : us.length = 3) : ∃ a b c, us = [a, b, c] := by
  cases us with
  | nil => cases h
  | cons a us =>
    obtain ⟨b, c, hh⟩ := len2 (Nat.succ.inj h)
    exact ⟨a, b, c, by rw [hh]⟩
theorem forD_nx {pt : DenP} {body : DenS} {d : D} {ds : List D} {ρ ρ1 ρ2 : Rho} (h1 : pt d ρ = some ρ1) (h2 : body ρ1 = some (.nx ρ2)) : forD pt body (d :: ds) ρ = forD pt body ds ρ2 := by
  show (match pt d ρ with | none => none | some ρ1 => _) = _
  simp only [h1, h2]
namespace Lad
variable {n : Nat} {f : Nat → Nat → Nat} (L : Lad n f) {p : Nat}
include L
end Lad
end L3
set_option maxHeartbeats 0
namespace My
open PySem PySem.Spec PyProof.Rows L2 L3
noncomputable def top (i : Nat) : Stmt := PySem.Challenge.pw_ladderhall_k04_whole_heights.main.body.getD i (.Pass ⟨0, 0, 0, 0⟩)
structure Bt (mg : Str → Option Value) : Prop where
  m_len : mg "len" = none
  m_list : mg "list" = none
  m_max : mg "max" = none
  m_range : mg "range" = none
  m_sorted : mg "sorted" = none
  m_tuple : mg "tuple" = none
noncomputable section
variable {P : Program} {w : World} {K : PySem.W.Frag} {mg : Str → Option Value} {base : Heap}
noncomputable def d__law_under : DenS := sRet (eComp 1 (iRange (aCons (eLenV 0) (aNil))) (pName 2) (tOfB (e2 dEq (eIx (eIxV 0 (eVar 2)) (eVar 1)) (eVar 1))) (eVar 2) false)
noncomputable def F__law_under : List D → Option (D × Nat) := fnD 2 (d__law_under)
theorem sc__law_under : FnScope ["_law_ladder_here", "_law_worth"] ["_law_ladder_here", "_law_worth"] (defScope (top 23)) := ⟨rfl, rfl, rfl, by decide +kernel, rfl, by decide +kernel, by decide +kernel⟩
noncomputable abbrev n0__law_under : List Str := ["_law_ladder_here", "_law_worth", "_law_one"]
theorem nd0__law_under : (n0__law_under).Nodup := by decide +kernel
theorem C__law_under (B : Bt mg)  (a : At K mg "_law_under" (top 23) ["_law_ladder_here", "_law_worth"]) : Cal P w K mg base 1 "_law_under" 2 (F__law_under) :=
  Cal.mkQ (k := 0) a sc__law_under fun f cdv A outer s H E hr =>
    qds_one (qds_ret (qd_comp (k := 1) (N' := n0__law_under) false rfl ⟨rfl, by decide +kernel, rfl, rfl, rfl⟩ (qdi_range1 B.m_range (qda_cons (qd_lenV B.m_len (qv 0 rfl (Or.inr (Or.inl rfl)))) (qda_nil) se_Call)) (fun _ _ _ _ => qdg_name (i := 2) (show 2 ≤ 2 by decide) nd0__law_under rfl (Or.inl rfl) (Or.inr rfl)) (fun _ _ _ _ => qdts_one (qdt_eq hr (qd_ix (qd_ixV (qv 0) (qd_var (qv 2))) (qd_var (qv 1))) (qd_var (qv 1)))) (fun _ _ _ _ => qd_var (qv 2))))
noncomputable def d_is_below : DenS := sRet (e2 dEq (eIx (eIxV 0 (eVar 1)) (eVar 2)) (eVar 2))
noncomputable def F_is_below : List D → Option (D × Nat) := fnD 3 (d_is_below)
theorem sc_is_below : FnScope ["ladder", "one", "other"] ["ladder", "one", "other"] (defScope (top 4)) := ⟨rfl, rfl, rfl, by decide +kernel, rfl, by decide +kernel, by decide +kernel⟩
theorem C_is_below (B : Bt mg)  (a : At K mg "is_below" (top 4) ["ladder", "one", "other"]) : Cal P w K mg base 1 "is_below" 3 (F_is_below) :=
  Cal.mkQ (k := 0) a sc_is_below fun f cdv A outer s H E hr =>
    qds_one (qds_ret (qd_eq hr (qd_ix (qd_ixV (qv 0 rfl (Or.inl rfl)) (qd_var (qv 1 rfl (Or.inl rfl)))) (qd_var (qv 2 rfl (Or.inl rfl)))) (qd_var (qv 2 rfl (Or.inl rfl)))))
noncomputable def d_below : DenS := sRet (eComp 1 (iRange (aCons (eLenV 0) (aNil))) (pName 2) (tOfV (eCall F_is_below 3 (aCons (eVar 0) (aCons (eVar 2) (aCons (eVar 1) (aNil)))))) (eVar 2) false)
noncomputable def F_below : List D → Option (D × Nat) := fnD 2 (d_below)
theorem sc_below : FnScope ["ladder", "worth"] ["ladder", "worth"] (defScope (top 5)) := ⟨rfl, rfl, rfl, by decide +kernel, rfl, by decide +kernel, by decide +kernel⟩
noncomputable abbrev n0_below : List Str := ["ladder", "worth", "x"]
theorem nd0_below : (n0_below).Nodup := by decide +kernel
theorem C_below (B : Bt mg) (c_is_below : Cal P w K mg base 1 "is_below" 3 F_is_below) (a : At K mg "below" (top 5) ["ladder", "worth"]) : Cal P w K mg base 2 "below" 2 (F_below) :=
  Cal.mkQ (k := 1) a sc_below fun f cdv A outer s H E hr =>
    qds_one (qds_ret (qd_comp (k := 1) (N' := n0_below) false rfl ⟨rfl, by decide +kernel, rfl, rfl, rfl⟩ (qdi_range1 B.m_range (qda_cons (qd_lenV B.m_len (qv 0 rfl (Or.inr (Or.inl rfl)))) (qda_nil) se_Call)) (fun _ _ _ _ => qdg_name (i := 2) (show 2 ≤ 2 by decide) nd0_below rfl (Or.inl rfl) (Or.inr rfl)) (fun _ _ _ _ => qdts_one (qdt_val (qd_callC c_is_below hr (by decide) (qda_cons (qd_var (qv 0)) (qda_cons (qd_var (qv 2)) (qda_cons (qd_var (qv 1)) (qda_nil) se_Name) se_Name) se_Name)))) (fun _ _ _ _ => qd_var (qv 2))))
noncomputable def d_row_of_least : DenS := sRet (eTupR (aCons (eVar 0) (aNil)))
noncomputable def F_row_of_least : List D → Option (D × Nat) := fnD 1 (d_row_of_least)
theorem sc_row_of_least : FnScope ["many"] ["many"] (defScope (top 1)) := ⟨rfl, rfl, rfl, by decide +kernel, rfl, by decide +kernel, by decide +kernel⟩
theorem C_row_of_least (B : Bt mg)  (a : At K mg "row_of_least" (top 1) ["many"]) : Cal P w K mg base 1 "row_of_least" 1 (F_row_of_least) :=
  Cal.mkQ (k := 0) a sc_row_of_least fun f cdv A outer s H E hr =>
    qds_one (qds_ret (qd_tupR rfl B.m_tuple PyProof.Rows.boot_tuple B.m_range (qda_cons (qd_var (qv 0 rfl (Or.inl rfl))) (qda_nil) se_Name)))
noncomputable def d_least_of : DenS := sRet (eIndex (eVar 0) (aCons (eCall F_row_of_least 1 (aCons (eLenV 0) (aNil))) (aNil)))
noncomputable def F_least_of : List D → Option (D × Nat) := fnD 1 (d_least_of)
theorem sc_least_of : FnScope ["ladder"] ["ladder"] (defScope (top 2)) := ⟨rfl, rfl, rfl, by decide +kernel, rfl, by decide +kernel, by decide +kernel⟩
theorem C_least_of (B : Bt mg) (c_row_of_least : Cal P w K mg base 1 "row_of_least" 1 F_row_of_least) (a : At K mg "least_of" (top 2) ["ladder"]) : Cal P w K mg base 2 "least_of" 1 (F_least_of) :=
  Cal.mkQ (k := 1) a sc_least_of fun f cdv A outer s H E hr =>
    qds_one (qds_ret (qd_index hr (qd_var (qv 0 rfl (Or.inl rfl))) (qda_cons (qd_callC c_row_of_least hr (by decide) (qda_cons (qd_lenV B.m_len (qv 0 rfl (Or.inl rfl))) (qda_nil) se_Call)) (qda_nil) se_Call)))
noncomputable def d_joined_all : DenS := sSeq (sSet 2 (eCall F_least_of 1 (aCons (eVar 0) (aNil))))
  (sSeq (sFor (iVal (eVar 1)) (pName 3) (sSet 2 (eIx (eIxV 0 (eVar 2)) (eVar 3))))
  (sRet (eVar 2)))
noncomputable def F_joined_all : List D → Option (D × Nat) := fnD 4 (d_joined_all)
theorem sc_joined_all : FnScope ["ladder", "worths", "joined", "worth"] ["ladder", "worths"] (defScope (top 7)) := ⟨rfl, rfl, rfl, by decide +kernel, rfl, by decide +kernel, by decide +kernel⟩
theorem C_joined_all (B : Bt mg) (c_least_of : Cal P w K mg base 2 "least_of" 1 F_least_of) (a : At K mg "joined_all" (top 7) ["ladder", "worths"]) : Cal P w K mg base 3 "joined_all" 2 (F_joined_all) :=
  Cal.mkQ (k := 2) a sc_joined_all fun f cdv A outer s H E hr =>
    qds_cons (qds_set (i := 2) sc_joined_all.nd rfl (Or.inl rfl) (qd_callC c_least_of hr (by decide) (qda_cons (qd_var (qv 0 rfl (Or.inl rfl))) (qda_nil) se_Name)))
    (qds_cons (qds_for PassesOwn.never rfl (qdi_val (qd_var (qv 1 rfl (Or.inl rfl)))) (qdg_name (i := 3) (show 0 ≤ 3 by decide) sc_joined_all.nd rfl (Or.inl rfl)) (qds_one (qds_set (i := 2) sc_joined_all.nd rfl (Or.inl rfl) (qd_ix (qd_ixV (qv 0 rfl (Or.inl rfl)) (qd_var (qv 2 rfl (Or.inl rfl)))) (qd_var (qv 3 rfl (Or.inl rfl)))))))
    (qds_one (qds_ret (qd_var (qv 2 rfl (Or.inl rfl))))))
noncomputable def d_met : DenS := sRet (eCall F_joined_all 2 (aCons (eVar 0) (aCons (eComp 1 (iVal (eCall F_below 2 (aCons (eVar 0) (aCons (eVar 1) (aNil))))) (pName 3) (tOfV (eCall F_is_below 3 (aCons (eVar 0) (aCons (eVar 3) (aCons (eVar 2) (aNil)))))) (eVar 3) false) (aNil))))
noncomputable def F_met : List D → Option (D × Nat) := fnD 3 (d_met)
theorem sc_met : FnScope ["ladder", "one", "other"] ["ladder", "one", "other"] (defScope (top 8)) := ⟨rfl, rfl, rfl, by decide +kernel, rfl, by decide +kernel, by decide +kernel⟩
noncomputable abbrev n0_met : List Str := ["ladder", "one", "other", "x"]
theorem nd0_met : (n0_met).Nodup := by decide +kernel
theorem C_met (B : Bt mg) (c_joined_all : Cal P w K mg base 3 "joined_all" 2 F_joined_all) (c_below : Cal P w K mg base 2 "below" 2 F_below) (c_is_below : Cal P w K mg base 1 "is_below" 3 F_is_below) (a : At K mg "met" (top 8) ["ladder", "one", "other"]) : Cal P w K mg base 4 "met" 3 (F_met) :=
  Cal.mkQ (k := 3) a sc_met fun f cdv A outer s H E hr =>
    qds_one (qds_ret (qd_callC c_joined_all hr (by decide) (qda_cons (qd_var (qv 0 rfl (Or.inr (Or.inl rfl)))) (qda_cons (qd_comp (k := 1) (N' := n0_met) false rfl ⟨rfl, by decide +kernel, rfl, rfl, rfl⟩ (qdi_val (qd_callC c_below hr (by decide) (qda_cons (qd_var (qv 0 rfl (Or.inr (Or.inl rfl)))) (qda_cons (qd_var (qv 1 rfl (Or.inl rfl))) (qda_nil) se_Name) se_Name))) (fun _ _ _ _ => qdg_name (i := 3) (show 3 ≤ 3 by decide) nd0_met rfl (Or.inl rfl) (Or.inr rfl)) (fun _ _ _ _ => qdts_one (qdt_val (qd_callC c_is_below hr (by decide) (qda_cons (qd_var (qv 0)) (qda_cons (qd_var (qv 3)) (qda_cons (qd_var (qv 2)) (qda_nil) se_Name) se_Name) se_Name)))) (fun _ _ _ _ => qd_var (qv 3))) (qda_nil) se_ListComp) se_Name)))
noncomputable def d__law_cell : DenS := sSeq (sIf (tOfB (e2 dLt (eVar 1) (eLenV 0))) (sRet (eIxV 0 (eVar 1))) (sNil))
  (sSeq (sIf (tOfB (e2 dEq (eVar 0) (eLst (aNil)))) (sRet (eC (.int 0))) (sNil))
  (sRet (e2 dAdd (e2 dMul (eIxV 0 (e2 dMod (eVar 1) (eLenV 0))) (eC (.int 31))) (eVar 1))))
noncomputable def F__law_cell : List D → Option (D × Nat) := fnD 2 (d__law_cell)
theorem sc__law_cell : FnScope ["_law_script", "_law_k"] ["_law_script", "_law_k"] (defScope (top 14)) := ⟨rfl, rfl, rfl, by decide +kernel, rfl, by decide +kernel, by decide +kernel⟩
theorem C__law_cell (B : Bt mg)  (a : At K mg "_law_cell" (top 14) ["_law_script", "_law_k"]) : Cal P w K mg base 1 "_law_cell" 2 (F__law_cell) :=
  Cal.mkQ (k := 0) a sc__law_cell fun f cdv A outer s H E hr =>
    qds_cons (qds_if (qdt_lt (qd_var (qv 1 rfl (Or.inl rfl))) (qd_lenV B.m_len (qv 0 rfl (Or.inl rfl)))) (qds_one (qds_ret (qd_ixV (qv 0 rfl (Or.inl rfl)) (qd_var (qv 1 rfl (Or.inl rfl)))))) (qds_nil))
    (qds_cons (qds_if (qdt_eq hr (qd_var (qv 0 rfl (Or.inl rfl))) (qd_lst (qda_nil))) (qds_one (qds_ret (qd_int))) (qds_nil))
    (qds_one (qds_ret (qd_add (qd_mul (qd_ixV (qv 0 rfl (Or.inl rfl)) (qd_mod (qd_var (qv 1 rfl (Or.inl rfl))) (qd_lenV B.m_len (qv 0 rfl (Or.inl rfl))))) (qd_int)) (qd_var (qv 1 rfl (Or.inl rfl)))))))
noncomputable def d__law_pick : DenS := sSeq (sSet 3 (e2 dMod (e2 dMul (e2 dAdd (eCall F__law_cell 2 (aCons (eVar 0) (aCons (eVar 1) (aNil)))) (e2 dMul (eC (.int 6151)) (e2 dAdd (eVar 1) (eC (.int 1))))) (eC (.int 40692))) (eC (.int 2147483399))))
  (sRet (e2 dMod (e2 dMod (e2 dAdd (e2 dMul (eVar 3) (eVar 3)) (e2 dDiv (eVar 3) (eC (.int 31)))) (eC (.int 2147483629))) (eVar 2)))
noncomputable def F__law_pick : List D → Option (D × Nat) := fnD 4 (d__law_pick)
theorem sc__law_pick : FnScope ["_law_script", "_law_k", "_law_many", "_law_drawn"] ["_law_script", "_law_k", "_law_many"] (defScope (top 15)) := ⟨rfl, rfl, rfl, by decide +kernel, rfl, by decide +kernel, by decide +kernel⟩
theorem C__law_pick (B : Bt mg) (c__law_cell : Cal P w K mg base 1 "_law_cell" 2 F__law_cell) (a : At K mg "_law_pick" (top 15) ["_law_script", "_law_k", "_law_many"]) : Cal P w K mg base 2 "_law_pick" 3 (F__law_pick) :=
  Cal.mkQ (k := 1) a sc__law_pick fun f cdv A outer s H E hr =>
    qds_cons (qds_set (i := 3) sc__law_pick.nd rfl (Or.inl rfl) (qd_mod (qd_mul (qd_add (qd_callC c__law_cell hr (by decide) (qda_cons (qd_var (qv 0 rfl (Or.inl rfl))) (qda_cons (qd_var (qv 1 rfl (Or.inl rfl))) (qda_nil) se_Name) se_Name)) (qd_mul (qd_int) (qd_add (qd_var (qv 1 rfl (Or.inl rfl))) (qd_int)))) (qd_int)) (qd_int)))
    (qds_one (qds_ret (qd_mod (qd_mod (qd_add (qd_mul (qd_var (qv 3 rfl (Or.inl rfl))) (qd_var (qv 3 rfl (Or.inl rfl)))) (qd_div (qd_var (qv 3 rfl (Or.inl rfl))) (qd_int))) (qd_int)) (qd_var (qv 2 rfl (Or.inl rfl))))))
noncomputable def d__law_chain : DenS := sRet (eComp 1 (iRange (aCons (eVar 0) (aNil))) (pName 1) (tYesD) (eComp 1 (iRange (aCons (eVar 0) (aNil))) (pName 2) (tYesD) (eB bMax (aCons (eVar 1) (aCons (eVar 2) (aNil)))) false) false)
noncomputable def F__law_chain : List D → Option (D × Nat) := fnD 1 (d__law_chain)
theorem sc__law_chain : FnScope ["_law_many"] ["_law_many"] (defScope (top 16)) := ⟨rfl, rfl, rfl, by decide +kernel, rfl, by decide +kernel, by decide +kernel⟩
noncomputable abbrev n0__law_chain : List Str := ["_law_many", "_law_one", "_law_other"]
theorem nd0__law_chain : (n0__law_chain).Nodup := by decide +kernel
noncomputable abbrev n1__law_chain : List Str := ["_law_many", "_law_one"]
theorem nd1__law_chain : (n1__law_chain).Nodup := by decide +kernel
theorem C__law_chain (B : Bt mg)  (a : At K mg "_law_chain" (top 16) ["_law_many"]) : Cal P w K mg base 1 "_law_chain" 1 (F__law_chain) :=
  Cal.mkQ (k := 0) a sc__law_chain fun f cdv A outer s H E hr =>
    qds_one (qds_ret (qd_comp (k := 1) (N' := n1__law_chain) false rfl ⟨rfl, by decide +kernel, rfl, rfl, rfl⟩ (qdi_range1 B.m_range (qda_cons (qd_var (qv 0 rfl (Or.inr (Or.inl rfl)))) (qda_nil) se_Name)) (fun _ _ _ _ => qdg_name (i := 1) (show 1 ≤ 1 by decide) nd1__law_chain rfl (Or.inr rfl) (Or.inl rfl)) (fun _ _ _ _ => qdts_nil) (fun _ _ _ _ => qd_comp (k := 1) (N' := n0__law_chain) false rfl ⟨rfl, by decide +kernel, rfl, rfl, rfl⟩ (qdi_range1 B.m_range (qda_cons (qd_var (qv 0)) (qda_nil) se_Name)) (fun _ _ _ _ => qdg_name (i := 2) (show 2 ≤ 2 by decide) nd0__law_chain rfl (Or.inl rfl) (Or.inr rfl)) (fun _ _ _ _ => qdts_nil) (fun _ _ _ _ => qd_max2 rfl B.m_max PyProof.Rows.boot_max (qda_cons (qd_var (qv 1)) (qda_cons (qd_var (qv 2)) (qda_nil) se_Name) se_Name)))))
noncomputable def d__law_couples : DenS := sSeq (sSet 2 (eLenV 1))
  (sSeq (sSet 3 (eLst (aNil)))
  (sSeq (sFor (iRange (aCons (e2 dMul (eLenV 0) (eVar 2)) (aNil))) (pName 4) (sSeq (sSet 5 (eLst (aNil)))
  (sSeq (sFor (iRange (aCons (e2 dMul (eLenV 0) (eVar 2)) (aNil))) (pName 6) (sSeq (sSet 7 (eIx (eIxV 0 (e2 dDiv (eVar 4) (eVar 2))) (e2 dDiv (eVar 6) (eVar 2))))
  (sDrop (eApp 5 (aCons (e2 dAdd (e2 dMul (eVar 7) (eVar 2)) (eIx (eIxV 1 (e2 dMod (eVar 4) (eVar 2))) (e2 dMod (eVar 6) (eVar 2)))) (aNil))))))
  (sDrop (eApp 3 (aCons (eVar 5) (aNil)))))))
  (sRet (eVar 3))))
noncomputable def F__law_couples : List D → Option (D × Nat) := fnD 8 (d__law_couples)
theorem sc__law_couples : FnScope ["_law_one", "_law_other", "_law_many", "_law_made", "_law_here", "_law_row", "_law_there", "_law_first"] ["_law_one", "_law_other"] (defScope (top 17)) := ⟨rfl, rfl, rfl, by decide +kernel, rfl, by decide +kernel, by decide +kernel⟩
theorem C__law_couples (B : Bt mg)  (a : At K mg "_law_couples" (top 17) ["_law_one", "_law_other"]) : Cal P w K mg base 1 "_law_couples" 2 (F__law_couples) :=
  Cal.mkQ (k := 0) a sc__law_couples fun f cdv A outer s H E hr =>
    qds_cons (qds_set (i := 2) sc__law_couples.nd rfl (Or.inl rfl) (qd_lenV B.m_len (qv 1 rfl (Or.inl rfl))))
    (qds_cons (qds_set (i := 3) sc__law_couples.nd rfl (Or.inl rfl) (qd_lst (qda_nil)))
    (qds_cons (qds_for PassesOwn.never rfl (qdi_range1 B.m_range (qda_cons (qd_mul (qd_lenV B.m_len (qv 0 rfl (Or.inl rfl))) (qd_var (qv 2 rfl (Or.inl rfl)))) (qda_nil) se_BinOp)) (qdg_name (i := 4) (show 0 ≤ 4 by decide) sc__law_couples.nd rfl (Or.inl rfl)) (qds_cons (qds_set (i := 5) sc__law_couples.nd rfl (Or.inl rfl) (qd_lst (qda_nil)))
    (qds_cons (qds_for PassesOwn.never rfl (qdi_range1 B.m_range (qda_cons (qd_mul (qd_lenV B.m_len (qv 0 rfl (Or.inl rfl))) (qd_var (qv 2 rfl (Or.inl rfl)))) (qda_nil) se_BinOp)) (qdg_name (i := 6) (show 0 ≤ 6 by decide) sc__law_couples.nd rfl (Or.inl rfl)) (qds_cons (qds_set (i := 7) sc__law_couples.nd rfl (Or.inl rfl) (qd_ix (qd_ixV (qv 0 rfl (Or.inl rfl)) (qd_div (qd_var (qv 4 rfl (Or.inl rfl))) (qd_var (qv 2 rfl (Or.inl rfl))))) (qd_div (qd_var (qv 6 rfl (Or.inl rfl))) (qd_var (qv 2 rfl (Or.inl rfl))))))
    (qds_one (qds_expr (qd_append (qv 5 rfl (Or.inl rfl)) (qda_cons (qd_add (qd_mul (qd_var (qv 7 rfl (Or.inl rfl))) (qd_var (qv 2 rfl (Or.inl rfl)))) (qd_ix (qd_ixV (qv 1 rfl (Or.inl rfl)) (qd_mod (qd_var (qv 4 rfl (Or.inl rfl))) (qd_var (qv 2 rfl (Or.inl rfl))))) (qd_mod (qd_var (qv 6 rfl (Or.inl rfl))) (qd_var (qv 2 rfl (Or.inl rfl)))))) (qda_nil) se_BinOp))))))
    (qds_one (qds_expr (qd_append (qv 3 rfl (Or.inl rfl)) (qda_cons (qd_var (qv 5 rfl (Or.inl rfl))) (qda_nil) se_Name)))))))
    (qds_one (qds_ret (qd_var (qv 3 rfl (Or.inl rfl)))))))
noncomputable def d__law_side_by_side : DenS := sSeq (sSet 1 (eLst (aNil)))
  (sSeq (sFor (iRange (aCons (e2 dAdd (eVar 0) (eC (.int 2))) (aNil))) (pName 2) (sSeq (sSet 3 (eLst (aNil)))
  (sSeq (sFor (iRange (aCons (e2 dAdd (eVar 0) (eC (.int 2))) (aNil))) (pName 4) (sDrop (eApp 3 (aCons (eIf (tOrD (tOfB (e2 dIn (eC (.int 0)) (eTup (aCons (eVar 2) (aCons (eVar 4) (aNil)))))) (tOfB (e2 dEq (eVar 2) (eVar 4)))) (eB bMax (aCons (eVar 2) (aCons (eVar 4) (aNil)))) (e2 dAdd (eVar 0) (eC (.int 1)))) (aNil)))))
  (sDrop (eApp 1 (aCons (eVar 3) (aNil)))))))
  (sRet (eVar 1)))
noncomputable def F__law_side_by_side : List D → Option (D × Nat) := fnD 5 (d__law_side_by_side)
theorem sc__law_side_by_side : FnScope ["_law_many", "_law_made", "_law_one", "_law_row", "_law_other"] ["_law_many"] (defScope (top 18)) := ⟨rfl, rfl, rfl, by decide +kernel, rfl, by decide +kernel, by decide +kernel⟩
theorem C__law_side_by_side (B : Bt mg)  (a : At K mg "_law_side_by_side" (top 18) ["_law_many"]) : Cal P w K mg base 1 "_law_side_by_side" 1 (F__law_side_by_side) :=
  Cal.mkQ (k := 0) a sc__law_side_by_side fun f cdv A outer s H E hr =>
    qds_cons (qds_set (i := 1) sc__law_side_by_side.nd rfl (Or.inl rfl) (qd_lst (qda_nil)))
    (qds_cons (qds_for PassesOwn.never rfl (qdi_range1 B.m_range (qda_cons (qd_add (qd_var (qv 0 rfl (Or.inl rfl))) (qd_int)) (qda_nil) se_BinOp)) (qdg_name (i := 2) (show 0 ≤ 2 by decide) sc__law_side_by_side.nd rfl (Or.inl rfl)) (qds_cons (qds_set (i := 3) sc__law_side_by_side.nd rfl (Or.inl rfl) (qd_lst (qda_nil)))
    (qds_cons (qds_for PassesOwn.never rfl (qdi_range1 B.m_range (qda_cons (qd_add (qd_var (qv 0 rfl (Or.inl rfl))) (qd_int)) (qda_nil) se_BinOp)) (qdg_name (i := 4) (show 0 ≤ 4 by decide) sc__law_side_by_side.nd rfl (Or.inl rfl)) (qds_one (qds_expr (qd_append (qv 3 rfl (Or.inl rfl)) (qda_cons (qd_ifExp (qw_pt (qdw_or (qdt_in hr (qd_int) (qd_tup (qda_cons (qd_var (qv 2 rfl (Or.inl rfl))) (qda_cons (qd_var (qv 4 rfl (Or.inl rfl))) (qda_nil) se_Name) se_Name))) (qdw_or1 (qdt_eq hr (qd_var (qv 2 rfl (Or.inl rfl))) (qd_var (qv 4 rfl (Or.inl rfl))))))) (qd_max2 rfl B.m_max PyProof.Rows.boot_max (qda_cons (qd_var (qv 2 rfl (Or.inl rfl))) (qda_cons (qd_var (qv 4 rfl (Or.inl rfl))) (qda_nil) se_Name) se_Name)) (qd_add (qd_var (qv 0 rfl (Or.inl rfl))) (qd_int))) (qda_nil) se_IfExp)))))
    (qds_one (qds_expr (qd_append (qv 1 rfl (Or.inl rfl)) (qda_cons (qd_var (qv 3 rfl (Or.inl rfl))) (qda_nil) se_Name)))))))
    (qds_one (qds_ret (qd_var (qv 1 rfl (Or.inl rfl))))))
noncomputable def d__law_base : DenS := sSeq (sSet 2 (eCall F__law_pick 3 (aCons (eVar 0) (aCons (eVar 1) (aCons (eC (.int 9)) (aNil))))))
  (sSeq (sIf (tOfB (e2 dLt (eVar 2) (eC (.int 3)))) (sRet (eCall F__law_chain 1 (aCons (e2 dAdd (eC (.int 1)) (eCall F__law_pick 3 (aCons (eVar 0) (aCons (e2 dAdd (eVar 1) (eC (.int 1))) (aCons (eC (.int 5)) (aNil)))))) (aNil)))) (sNil))
  (sSeq (sIf (tOfB (e2 dLt (eVar 2) (eC (.int 5)))) (sRet (eCall F__law_couples 2 (aCons (eCall F__law_chain 1 (aCons (eC (.int 2)) (aNil))) (aCons (eCall F__law_chain 1 (aCons (eIx (eLst (aCons (eC (.int 2)) (aCons (eC (.int 3)) (aCons (eC (.int 4)) (aNil))))) (eCall F__law_pick 3 (aCons (eVar 0) (aCons (e2 dAdd (eVar 1) (eC (.int 1))) (aCons (eC (.int 3)) (aNil)))))) (aNil))) (aNil))))) (sNil))
  (sSeq (sIf (tOfB (e2 dLt (eVar 2) (eC (.int 7)))) (sRet (eCall F__law_side_by_side 1 (aCons (eCall F__law_pick 3 (aCons (eVar 0) (aCons (e2 dAdd (eVar 1) (eC (.int 1))) (aCons (eC (.int 5)) (aNil))))) (aNil)))) (sNil))
  (sSeq (sIf (tOfB (e2 dEq (eVar 2) (eC (.int 7)))) (sRet (eCall F__law_couples 2 (aCons (eCall F__law_chain 1 (aCons (eC (.int 2)) (aNil))) (aCons (eCall F__law_couples 2 (aCons (eCall F__law_chain 1 (aCons (eC (.int 2)) (aNil))) (aCons (eCall F__law_chain 1 (aCons (eC (.int 2)) (aNil))) (aNil)))) (aNil))))) (sNil))
  (sSeq (sSet 3 (eLst (aCons (eLst (aCons (eC (.int 0)) (aCons (eC (.int 1)) (aCons (eC (.int 2)) (aCons (eC (.int 3)) (aCons (eC (.int 4)) (aNil))))))) (aCons (eLst (aCons (eC (.int 1)) (aCons (eC (.int 1)) (aCons (eC (.int 2)) (aCons (eC (.int 4)) (aCons (eC (.int 4)) (aNil))))))) (aCons (eLst (aCons (eC (.int 2)) (aCons (eC (.int 2)) (aCons (eC (.int 2)) (aCons (eC (.int 4)) (aCons (eC (.int 4)) (aNil))))))) (aCons (eLst (aCons (eC (.int 3)) (aCons (eC (.int 4)) (aCons (eC (.int 4)) (aCons (eC (.int 3)) (aCons (eC (.int 4)) (aNil))))))) (aCons (eLst (aCons (eC (.int 4)) (aCons (eC (.int 4)) (aCons (eC (.int 4)) (aCons (eC (.int 4)) (aCons (eC (.int 4)) (aNil))))))) (aNil))))))))
  (sRet (eVar 3)))))))
noncomputable def F__law_base : List D → Option (D × Nat) := fnD 4 (d__law_base)
theorem sc__law_base : FnScope ["_law_script", "_law_at", "_law_kind", "_law_rows"] ["_law_script", "_law_at"] (defScope (top 19)) := ⟨rfl, rfl, rfl, by decide +kernel, rfl, by decide +kernel, by decide +kernel⟩
theorem C__law_base (B : Bt mg) (c__law_pick : Cal P w K mg base 2 "_law_pick" 3 F__law_pick) (c__law_chain : Cal P w K mg base 1 "_law_chain" 1 F__law_chain) (c__law_couples : Cal P w K mg base 1 "_law_couples" 2 F__law_couples) (c__law_side_by_side : Cal P w K mg base 1 "_law_side_by_side" 1 F__law_side_by_side) (a : At K mg "_law_base" (top 19) ["_law_script", "_law_at"]) : Cal P w K mg base 3 "_law_base" 2 (F__law_base) :=
  Cal.mkQ (k := 2) a sc__law_base fun f cdv A outer s H E hr =>
    qds_cons (qds_set (i := 2) sc__law_base.nd rfl (Or.inl rfl) (qd_callC c__law_pick hr (by decide) (qda_cons (qd_var (qv 0 rfl (Or.inl rfl))) (qda_cons (qd_var (qv 1 rfl (Or.inl rfl))) (qda_cons (qd_int) (qda_nil) se_Constant) se_Name) se_Name)))
    (qds_cons (qds_if (qdt_lt (qd_var (qv 2 rfl (Or.inl rfl))) (qd_int)) (qds_one (qds_ret (qd_callC c__law_chain hr (by decide) (qda_cons (qd_add (qd_int) (qd_callC c__law_pick hr (by decide) (qda_cons (qd_var (qv 0 rfl (Or.inl rfl))) (qda_cons (qd_add (qd_var (qv 1 rfl (Or.inl rfl))) (qd_int)) (qda_cons (qd_int) (qda_nil) se_Constant) se_BinOp) se_Name))) (qda_nil) se_BinOp)))) (qds_nil))
    (qds_cons (qds_if (qdt_lt (qd_var (qv 2 rfl (Or.inl rfl))) (qd_int)) (qds_one (qds_ret (qd_callC c__law_couples hr (by decide) (qda_cons (qd_callC c__law_chain hr (by decide) (qda_cons (qd_int) (qda_nil) se_Constant)) (qda_cons (qd_callC c__law_chain hr (by decide) (qda_cons (qd_ix (qd_lst (qda_cons (qd_int) (qda_cons (qd_int) (qda_cons (qd_int) (qda_nil) se_Constant) se_Constant) se_Constant)) (qd_callC c__law_pick hr (by decide) (qda_cons (qd_var (qv 0 rfl (Or.inl rfl))) (qda_cons (qd_add (qd_var (qv 1 rfl (Or.inl rfl))) (qd_int)) (qda_cons (qd_int) (qda_nil) se_Constant) se_BinOp) se_Name))) (qda_nil) se_Subscript)) (qda_nil) se_Call) se_Call)))) (qds_nil))
    (qds_cons (qds_if (qdt_lt (qd_var (qv 2 rfl (Or.inl rfl))) (qd_int)) (qds_one (qds_ret (qd_callC c__law_side_by_side hr (by decide) (qda_cons (qd_callC c__law_pick hr (by decide) (qda_cons (qd_var (qv 0 rfl (Or.inl rfl))) (qda_cons (qd_add (qd_var (qv 1 rfl (Or.inl rfl))) (qd_int)) (qda_cons (qd_int) (qda_nil) se_Constant) se_BinOp) se_Name)) (qda_nil) se_Call)))) (qds_nil))
    (qds_cons (qds_if (qdt_eq hr (qd_var (qv 2 rfl (Or.inl rfl))) (qd_int)) (qds_one (qds_ret (qd_callC c__law_couples hr (by decide) (qda_cons (qd_callC c__law_chain hr (by decide) (qda_cons (qd_int) (qda_nil) se_Constant)) (qda_cons (qd_callC c__law_couples hr (by decide) (qda_cons (qd_callC c__law_chain hr (by decide) (qda_cons (qd_int) (qda_nil) se_Constant)) (qda_cons (qd_callC c__law_chain hr (by decide) (qda_cons (qd_int) (qda_nil) se_Constant)) (qda_nil) se_Call) se_Call)) (qda_nil) se_Call) se_Call)))) (qds_nil))
    (qds_cons (qds_set (i := 3) sc__law_base.nd rfl (Or.inl rfl) (qd_lst (qda_cons (qd_lst (qda_cons (qd_int) (qda_cons (qd_int) (qda_cons (qd_int) (qda_cons (qd_int) (qda_cons (qd_int) (qda_nil) se_Constant) se_Constant) se_Constant) se_Constant) se_Constant)) (qda_cons (qd_lst (qda_cons (qd_int) (qda_cons (qd_int) (qda_cons (qd_int) (qda_cons (qd_int) (qda_cons (qd_int) (qda_nil) se_Constant) se_Constant) se_Constant) se_Constant) se_Constant)) (qda_cons (qd_lst (qda_cons (qd_int) (qda_cons (qd_int) (qda_cons (qd_int) (qda_cons (qd_int) (qda_cons (qd_int) (qda_nil) se_Constant) se_Constant) se_Constant) se_Constant) se_Constant)) (qda_cons (qd_lst (qda_cons (qd_int) (qda_cons (qd_int) (qda_cons (qd_int) (qda_cons (qd_int) (qda_cons (qd_int) (qda_nil) se_Constant) se_Constant) se_Constant) se_Constant) se_Constant)) (qda_cons (qd_lst (qda_cons (qd_int) (qda_cons (qd_int) (qda_cons (qd_int) (qda_cons (qd_int) (qda_cons (qd_int) (qda_nil) se_Constant) se_Constant) se_Constant) se_Constant) se_Constant)) (qda_nil) se_List) se_List) se_List) se_List) se_List)))
    (qds_one (qds_ret (qd_var (qv 3 rfl (Or.inl rfl))))))))))
noncomputable def d__law_ladder : DenS := sSeq (sSet 2 (eCall F__law_base 2 (aCons (eVar 0) (aCons (eVar 1) (aNil)))))
  (sSeq (sSet 3 (eListR (aCons (eLenV 2) (aNil))))
  (sSeq (sSet 4 (eComp 1 (iRange (aCons (eLenV 2) (aNil))) (pName 8) (tYesD) (ePop 3 (aCons (eCall F__law_pick 3 (aCons (eVar 0) (aCons (e2 dAdd (e2 dAdd (eVar 1) (eC (.int 2))) (eVar 8)) (aCons (eLenV 3) (aNil))))) (aNil))) false))
  (sSeq (sSet 5 (eComp 1 (iVal (eVar 2)) (pName 8) (tYesD) (eRepL (eLst (aCons (eC (.int 0)) (aNil))) (eLenV 2)) true))
  (sSeq (sFor (iRange (aCons (eLenV 2) (aNil))) (pName 6) (sFor (iRange (aCons (eLenV 2) (aNil))) (pName 7) (sSet2 5 (qIx 4 (qVar 6)) (qIx 4 (qVar 7)) (eIxV 4 (eIx (eIxV 2 (eVar 6)) (eVar 7))))))
  (sRet (eTupOf (aCons (eComp 1 (iVal (eVar 5)) (pName 8) (tYesD) (eTupOf (aCons (eVar 8) (aNil))) false) (aNil))))))))
noncomputable def F__law_ladder : List D → Option (D × Nat) := fnD 8 (d__law_ladder)
theorem sc__law_ladder : FnScope ["_law_script", "_law_at", "_law_base_here", "_law_left", "_law_name", "_law_made", "_law_one", "_law_other"] ["_law_script", "_law_at"] (defScope (top 20)) := ⟨rfl, rfl, rfl, by decide +kernel, rfl, by decide +kernel, by decide +kernel⟩
noncomputable abbrev n0__law_ladder : List Str := ["_law_script", "_law_at", "_law_base_here", "_law_left", "_law_name", "_law_made", "_law_one", "_law_other", "_law_k"]
theorem nd0__law_ladder : (n0__law_ladder).Nodup := by decide +kernel
noncomputable abbrev n1__law_ladder : List Str := ["_law_script", "_law_at", "_law_base_here", "_law_left", "_law_name", "_law_made", "_law_one", "_law_other", "_law_row"]
theorem nd1__law_ladder : (n1__law_ladder).Nodup := by decide +kernel
theorem C__law_ladder (B : Bt mg) (c__law_base : Cal P w K mg base 3 "_law_base" 2 F__law_base) (c__law_pick : Cal P w K mg base 2 "_law_pick" 3 F__law_pick) (a : At K mg "_law_ladder" (top 20) ["_law_script", "_law_at"]) : Cal P w K mg base 4 "_law_ladder" 2 (F__law_ladder) :=
  Cal.mkQ (k := 3) a sc__law_ladder fun f cdv A outer s H E hr =>
    qds_cons (qds_set (i := 2) sc__law_ladder.nd rfl (Or.inr rfl) (qd_callC c__law_base hr (by decide) (qda_cons (qd_var (qv 0 rfl (Or.inr (Or.inl rfl)))) (qda_cons (qd_var (qv 1 rfl (Or.inr (Or.inl rfl)))) (qda_nil) se_Name) se_Name)))
    (qds_cons (qds_set (i := 3) sc__law_ladder.nd rfl (Or.inr rfl) (qd_listR rfl B.m_list PyProof.Rows.boot_list B.m_range (qda_cons (qd_lenV B.m_len (qv 2 rfl (Or.inr (Or.inl rfl)))) (qda_nil) se_Call)))
    (qds_cons (qds_setC (i := 4) (k := 1) (N' := n0__law_ladder) false sc__law_ladder.nd rfl (Or.inl rfl) rfl rfl ⟨rfl, by decide +kernel, rfl, rfl, rfl⟩ (qdi_range1 B.m_range (qda_cons (qd_lenV B.m_len (qv 2 rfl (Or.inr (Or.inl rfl)))) (qda_nil) se_Call)) (fun _ _ _ _ => qdg_name (i := 8) (show 8 ≤ 8 by decide) nd0__law_ladder rfl (Or.inl rfl) (Or.inr rfl)) (fun _ _ _ _ => qdts_nil) (fun _ _ _ _ => qd_pop (qv 3) (qda_cons (qd_callC c__law_pick hr (by decide) (qda_cons (qd_var (qv 0)) (qda_cons (qd_add (qd_add (qd_var (qv 1)) (qd_int)) (qd_var (qv 8))) (qda_cons (qd_lenV B.m_len (qv 3)) (qda_nil) se_Call) se_BinOp) se_Name)) (qda_nil) se_Call)))
    (qds_cons (qds_setC (i := 5) (k := 1) (N' := n1__law_ladder) true sc__law_ladder.nd rfl (Or.inl rfl) rfl rfl ⟨rfl, by decide +kernel, rfl, rfl, rfl⟩ (qdi_val (qd_var (qv 2 rfl (Or.inr (Or.inl rfl))))) (fun _ _ _ _ => qdg_name (i := 8) (show 8 ≤ 8 by decide) nd1__law_ladder rfl (Or.inl rfl) (Or.inr rfl)) (fun _ _ _ _ => qdts_nil) (fun _ _ _ _ => qd_repL (qd_lst (qda_cons (qd_int) (qda_nil) se_Constant)) (qd_lenV B.m_len (qv 2))))
    (qds_cons (qds_for PassesOwn.never rfl (qdi_range1 B.m_range (qda_cons (qd_lenV B.m_len (qv 2 rfl (Or.inr (Or.inl rfl)))) (qda_nil) se_Call)) (qdg_name (i := 6) (show 0 ≤ 6 by decide) sc__law_ladder.nd rfl (Or.inl rfl)) (qds_one (qds_for PassesOwn.never rfl (qdi_range1 B.m_range (qda_cons (qd_lenV B.m_len (qv 2 rfl (Or.inr (Or.inl rfl)))) (qda_nil) se_Call)) (qdg_name (i := 7) (show 0 ≤ 7 by decide) sc__law_ladder.nd rfl (Or.inl rfl)) (qds_one (qds_set2 (qv 5 rfl (Or.inl rfl)) (qq_ix (qv 4 rfl (Or.inl rfl)) (qq_var (qv 6 rfl (Or.inl rfl)))) (qq_ix (qv 4 rfl (Or.inl rfl)) (qq_var (qv 7 rfl (Or.inl rfl)))) (qd_ixV (qv 4 rfl (Or.inl rfl)) (qd_ix (qd_ixV (qv 2 rfl (Or.inr (Or.inl rfl))) (qd_var (qv 6 rfl (Or.inl rfl)))) (qd_var (qv 7 rfl (Or.inl rfl))))))))))
    (qds_one (qds_ret (qd_tupOf B.m_tuple PyProof.Rows.boot_tuple (qda_cons (qd_comp (k := 1) (N' := n1__law_ladder) false rfl ⟨rfl, by decide +kernel, rfl, rfl, rfl⟩ (qdi_val (qd_var (qv 5 rfl (Or.inl rfl)))) (fun _ _ _ _ => qdg_name (i := 8) (show 8 ≤ 8 by decide) nd1__law_ladder rfl (Or.inl rfl) (Or.inr rfl)) (fun _ _ _ _ => qdts_nil) (fun _ _ _ _ => qd_tupOf B.m_tuple PyProof.Rows.boot_tuple (qda_cons (qd_var (qv 8)) (qda_nil) se_Name))) (qda_nil) se_ListComp))))))))
noncomputable def d_truly_below : DenS := sRet (eComp 1 (iVal (eCall F_below 2 (aCons (eVar 0) (aCons (eVar 1) (aNil))))) (pName 2) (tOfB (e2 dNe (eVar 2) (eVar 1))) (eVar 2) false)
noncomputable def F_truly_below : List D → Option (D × Nat) := fnD 2 (d_truly_below)
theorem sc_truly_below : FnScope ["ladder", "worth"] ["ladder", "worth"] (defScope (top 6)) := ⟨rfl, rfl, rfl, by decide +kernel, rfl, by decide +kernel, by decide +kernel⟩
noncomputable abbrev n0_truly_below : List Str := ["ladder", "worth", "x"]
theorem nd0_truly_below : (n0_truly_below).Nodup := by decide +kernel
theorem C_truly_below (B : Bt mg) (c_below : Cal P w K mg base 2 "below" 2 F_below) (a : At K mg "truly_below" (top 6) ["ladder", "worth"]) : Cal P w K mg base 3 "truly_below" 2 (F_truly_below) :=
  Cal.mkQ (k := 2) a sc_truly_below fun f cdv A outer s H E hr =>
    qds_one (qds_ret (qd_comp (k := 1) (N' := n0_truly_below) false rfl ⟨rfl, by decide +kernel, rfl, rfl, rfl⟩ (qdi_val (qd_callC c_below hr (by decide) (qda_cons (qd_var (qv 0 rfl (Or.inl rfl))) (qda_cons (qd_var (qv 1 rfl (Or.inr (Or.inl rfl)))) (qda_nil) se_Name) se_Name))) (fun _ _ _ _ => qdg_name (i := 2) (show 2 ≤ 2 by decide) nd0_truly_below rfl (Or.inl rfl) (Or.inr rfl)) (fun _ _ _ _ => qdts_one (qdt_ne hr (qd_var (qv 2)) (qd_var (qv 1)))) (fun _ _ _ _ => qd_var (qv 2))))
noncomputable def d_corners : DenS := sRet (eComp 1 (iRange (aCons (eLenV 0) (aNil))) (pName 1) (tOfB (e2 dNe (eCall F_joined_all 2 (aCons (eVar 0) (aCons (eCall F_truly_below 2 (aCons (eVar 0) (aCons (eVar 1) (aNil)))) (aNil)))) (eVar 1))) (eVar 1) false)
noncomputable def F_corners : List D → Option (D × Nat) := fnD 1 (d_corners)
theorem sc_corners : FnScope ["ladder"] ["ladder"] (defScope (top 12)) := ⟨rfl, rfl, rfl, by decide +kernel, rfl, by decide +kernel, by decide +kernel⟩
noncomputable abbrev n0_corners : List Str := ["ladder", "x"]
theorem nd0_corners : (n0_corners).Nodup := by decide +kernel
theorem C_corners (B : Bt mg) (c_joined_all : Cal P w K mg base 3 "joined_all" 2 F_joined_all) (c_truly_below : Cal P w K mg base 3 "truly_below" 2 F_truly_below) (a : At K mg "corners" (top 12) ["ladder"]) : Cal P w K mg base 4 "corners" 1 (F_corners) :=
  Cal.mkQ (k := 3) a sc_corners fun f cdv A outer s H E hr =>
    qds_one (qds_ret (qd_comp (k := 1) (N' := n0_corners) false rfl ⟨rfl, by decide +kernel, rfl, rfl, rfl⟩ (qdi_range1 B.m_range (qda_cons (qd_lenV B.m_len (qv 0 rfl (Or.inr (Or.inl rfl)))) (qda_nil) se_Call)) (fun _ _ _ _ => qdg_name (i := 1) (show 1 ≤ 1 by decide) nd0_corners rfl (Or.inl rfl) (Or.inr rfl)) (fun _ _ _ _ => qdts_one (qdt_ne hr (qd_callC c_joined_all hr (by decide) (qda_cons (qd_var (qv 0)) (qda_cons (qd_callC c_truly_below hr (by decide) (qda_cons (qd_var (qv 0)) (qda_cons (qd_var (qv 1)) (qda_nil) se_Name) se_Name)) (qda_nil) se_Call) se_Name)) (qd_var (qv 1)))) (fun _ _ _ _ => qd_var (qv 1))))
noncomputable def d_greatest_of : DenS := sRet (eCall F_joined_all 2 (aCons (eVar 0) (aCons (eListR (aCons (eLenV 0) (aNil))) (aNil))))
noncomputable def F_greatest_of : List D → Option (D × Nat) := fnD 1 (d_greatest_of)
theorem sc_greatest_of : FnScope ["ladder"] ["ladder"] (defScope (top 3)) := ⟨rfl, rfl, rfl, by decide +kernel, rfl, by decide +kernel, by decide +kernel⟩
theorem C_greatest_of (B : Bt mg) (c_joined_all : Cal P w K mg base 3 "joined_all" 2 F_joined_all) (a : At K mg "greatest_of" (top 3) ["ladder"]) : Cal P w K mg base 4 "greatest_of" 1 (F_greatest_of) :=
  Cal.mkQ (k := 3) a sc_greatest_of fun f cdv A outer s H E hr =>
    qds_one (qds_ret (qd_callC c_joined_all hr (by decide) (qda_cons (qd_var (qv 0 rfl (Or.inl rfl))) (qda_cons (qd_listR rfl B.m_list PyProof.Rows.boot_list B.m_range (qda_cons (qd_lenV B.m_len (qv 0 rfl (Or.inl rfl))) (qda_nil) se_Call)) (qda_nil) se_Call) se_Name)))
noncomputable def l_height_of : Den := eB bLen (aCons (eCall F_below 2 (aCons (eVar 1) (aCons (eVar 0) (aNil)))) (aNil))
noncomputable def d_height_of : DenS := dHgt l_height_of F_truly_below F_greatest_of
noncomputable def F_height_of : List D → Option (D × Nat) := fnD 3 d_height_of
theorem sc_height_of : FnScope ["ladder", "heights", "worth"] ["ladder"] (defScope (top 11)) := ⟨rfl, rfl, rfl, by decide +kernel, rfl, by decide +kernel, by decide +kernel⟩
noncomputable abbrev n0_height_of : List Str := ["ladder", "heights", "worth", "x"]
theorem nd0_height_of : (n0_height_of).Nodup := by decide +kernel
theorem C_height_of (B : Bt mg) (L : Lm K mg base) (KX : K.In base) (NG : base.Ns mainGlobals mg) (tb : ∃ c Pt, PySem.W.tabIn K "height_of" = some (c, Pt)) (e_below : ∀ base : Heap, Cal P w K mg base 2 "below" 2 F_below) (c_truly_below : Cal P w K mg base 3 "truly_below" 2 F_truly_below) (c_greatest_of : Cal P w K mg base 4 "greatest_of" 1 F_greatest_of) (a : At K mg "height_of" (top 11) ["ladder"]) : Cal P w K mg base 8 "height_of" 1 F_height_of :=
  Cal.mkL (k := 7) KX NG tb a sc_height_of fun f c Pt A outer s H E ht hr => ⟨by
    refine pds_hgt ?h1 ?h2 ?h4
    case h1 => exact ps_set sc_height_of.nd rfl (Or.inr rfl) pe_dnewK
    case h4 => exact ps_ret (pe_dget (Room.u1 hr) (pv 1 rfl (Or.inr (Or.inl rfl))) (qd_callC c_greatest_of hr (by decide) (qda_cons (qd_var (qv 0 rfl (Or.inr (Or.inl rfl)))) (qda_nil) se_Name)).o (fun _ _ => rfl))
    case h2 =>
      intro g
      refine ps_for PassesOwn.never rfl (pi_seq (pe_sortK (ps := ["x"]) (caps := ["ladder"]) (is := [0]) (kb := 4) rfl L (by decide) ht rfl ?S rfl rfl B.m_sorted hr (by decide) ?body ?bind ?cap rfl ?ha)) (pg_name sc_height_of.nd rfl (Or.inl rfl)) (pss_one (ps_dput (Room.u1 hr) (pv 1 rfl (Or.inr (Or.inl rfl))) (pv 2 rfl (Or.inl rfl)) ?hv rfl))
      case S => exact LamScope.of rfl rfl rfl (by decide +kernel) (by decide +kernel) (by decide +kernel) (by decide +kernel) (by decide +kernel)
      case cap => exact CapOk.at (zs := ["ladder"]) (is := [0]) ⟨rfl, rfl, trivial⟩
      case body => exact fun _ _ _ _ _ _ _ _ _ hr => (qd_len B.m_len (qda_cons (qd_callC (e_below _) hr (by decide) (qda_cons (qd_var (qv 1 rfl (Or.inr (Or.inr rfl)))) (qda_cons (qd_var (qv 0 rfl (Or.inl rfl))) (qda_nil) se_Name) se_Name)) (qda_nil) se_Call)).o
      case bind => exact fun _ _ _ _ us h => by obtain ⟨_, rfl⟩ := List.length_eq_one_iff.mp h; rfl
      case ha => exact pa_cons (pe_range rfl B.m_range (qda_cons (qd_lenV B.m_len (qv 0 rfl (Or.inr (Or.inl rfl)))) (qda_nil) se_Call).o rfl) pa_nil rfl
      case hv => exact pe_maxD rfl rfl B.m_max (by kernel_rfl) (pa_cons (pe_comp (k := 1) (N' := n0_height_of) rfl ⟨rfl, by decide +kernel, rfl, rfl, rfl⟩ (qdi_val (qd_callC c_truly_below hr (by decide) (qda_cons (qd_var (qv 0 rfl (Or.inr (Or.inl rfl)))) (qda_cons (qd_var (qv 2 rfl (Or.inl rfl))) (qda_nil) se_Name) se_Name))).o (fun _ _ _ _ => pg_name nd0_height_of rfl (Or.inl rfl)) (fun _ _ _ _ => pts_nil) (fun _ _ _ _ => pe_op op_add (pe_dget (Room.u1 hr) (pv 1) (pv 3) (fun _ _ => rfl)) pe_int)) pa_nil rfl) (pk_cons pe_int pk_nil)⟩
noncomputable def l__law_high : Den := eB bLen (aCons (eCall F__law_under 2 (aCons (eVar 1) (aCons (eVar 0) (aNil)))) (aNil))
noncomputable def d__law_high : DenS := dHig l__law_high F__law_under
noncomputable def F__law_high : List D → Option (D × Nat) := fnD 3 d__law_high
theorem sc__law_high : FnScope ["_law_ladder_here", "_law_size", "_law_worth"] ["_law_ladder_here"] (defScope (top 24)) := ⟨rfl, rfl, rfl, by decide +kernel, rfl, by decide +kernel, by decide +kernel⟩
noncomputable abbrev n0__law_high : List Str := ["_law_ladder_here", "_law_size", "_law_worth", "_law_one"]
theorem nd0__law_high : (n0__law_high).Nodup := by decide +kernel
noncomputable abbrev n1__law_high : List Str := ["_law_ladder_here", "_law_size", "#2", "_law_worth"]
theorem nd1__law_high : (n1__law_high).Nodup := by decide +kernel
theorem C__law_high (B : Bt mg) (L : Lm K mg base) (KX : K.In base) (NG : base.Ns mainGlobals mg) (tb : ∃ c Pt, PySem.W.tabIn K "_law_high" = some (c, Pt)) (e__law_under : ∀ base : Heap, Cal P w K mg base 1 "_law_under" 2 F__law_under) (c__law_under : Cal P w K mg base 1 "_law_under" 2 F__law_under) (a : At K mg "_law_high" (top 24) ["_law_ladder_here"]) : Cal P w K mg base 8 "_law_high" 1 F__law_high :=
  Cal.mkL (k := 7) KX NG tb a sc__law_high fun f c Pt A outer s H E ht hr => ⟨by
    refine pds_hig ?h1 ?h2 ?h4
    case h1 => exact ps_set sc__law_high.nd rfl (Or.inr rfl) pe_dnewK
    case h4 => exact ps_ret (pe_callB (call_maxL rfl) rfl B.m_max (by kernel_rfl) (pa_cons (pe_comp (k := 1) (N' := n1__law_high) rfl ⟨rfl, by decide +kernel, rfl, rfl, rfl⟩ (pi_dict (pv 1 rfl (Or.inr (Or.inl rfl)))) (fun _ _ _ _ => pg_name nd1__law_high rfl (Or.inl rfl)) (fun _ _ _ _ => pts_nil) (fun _ _ _ _ => pe_dget (Room.u1 hr) (pv 1) (pv 3) (fun _ _ => rfl))) pa_nil rfl) (by decide) (by decide) rfl rfl)
    case h2 =>
      intro g
      refine ps_for PassesOwn.never rfl (pi_seq (pe_sortK (ps := ["_law_one"]) (caps := ["_law_ladder_here"]) (is := [0]) (kb := 4) rfl L (by decide) ht rfl ?S rfl rfl B.m_sorted hr (by decide) ?body ?bind ?cap rfl ?ha)) (pg_name sc__law_high.nd rfl (Or.inr rfl)) (pss_one (ps_dput (Room.u1 hr) (pv 1 rfl (Or.inr (Or.inl rfl))) (pv 2 rfl (Or.inr (Or.inl rfl))) ?hv rfl))
      case S => exact LamScope.of rfl rfl rfl (by decide +kernel) (by decide +kernel) (by decide +kernel) (by decide +kernel) (by decide +kernel)
      case cap => exact CapOk.at (zs := ["_law_ladder_here"]) (is := [0]) ⟨rfl, rfl, trivial⟩
      case body => exact fun _ _ _ _ _ _ _ _ _ hr => (qd_len B.m_len (qda_cons (qd_callC (e__law_under _) hr (by decide) (qda_cons (qd_var (qv 1 rfl (Or.inr (Or.inr rfl)))) (qda_cons (qd_var (qv 0 rfl (Or.inl rfl))) (qda_nil) se_Name) se_Name)) (qda_nil) se_Call)).o
      case bind => exact fun _ _ _ _ us h => by obtain ⟨_, rfl⟩ := List.length_eq_one_iff.mp h; rfl
      case ha => exact pa_cons (qd_listR rfl B.m_list PyProof.Rows.boot_list B.m_range (qda_cons (qd_lenV B.m_len (qv 0 rfl (Or.inr (Or.inl rfl)))) (qda_nil) se_Call)).o pa_nil rfl
      case hv => exact pe_callB (call_maxL rfl) rfl B.m_max (by kernel_rfl) (pa_cons (pe_op op_catL (pe_lst (pa_cons pe_int pa_nil rfl)) (pe_comp (k := 1) (N' := n0__law_high) rfl ⟨rfl, by decide +kernel, rfl, rfl, rfl⟩ (qdi_val (qd_callC c__law_under hr (by decide) (qda_cons (qd_var (qv 0 rfl (Or.inr (Or.inl rfl)))) (qda_cons (qd_var (qv 2 rfl (Or.inr (Or.inl rfl)))) (qda_nil) se_Name) se_Name))).o (fun _ _ _ _ => pg_name nd0__law_high rfl (Or.inl rfl)) (fun _ _ _ _ => pts_one (pt_cmpR op_ne (pv 3) (pv 2) (nomark _))) (fun _ _ _ _ => pe_op op_add pe_int (pe_dget (Room.u1 hr) (pv 1) (pv 3) (fun _ _ => rfl))))) pa_nil rfl) (by decide) (by decide) rfl rfl⟩
noncomputable def d__law_low : DenS := sRet (eIx (eComp 1 (iRange (aCons (eLenV 0) (aNil))) (pName 1) (tOfB (e2 dEq (eListOf (aCons (eIxV 0 (eVar 1)) (aNil))) (eListR (aCons (eLenV 0) (aNil))))) (eVar 1) false) (eC (.int 0)))
noncomputable def F__law_low : List D → Option (D × Nat) := fnD 1 (d__law_low)
theorem sc__law_low : FnScope ["_law_ladder_here"] ["_law_ladder_here"] (defScope (top 21)) := ⟨rfl, rfl, rfl, by decide +kernel, rfl, by decide +kernel, by decide +kernel⟩
noncomputable abbrev n0__law_low : List Str := ["_law_ladder_here", "_law_worth"]
theorem nd0__law_low : (n0__law_low).Nodup := by decide +kernel
theorem C__law_low (B : Bt mg)  (a : At K mg "_law_low" (top 21) ["_law_ladder_here"]) : Cal P w K mg base 1 "_law_low" 1 (F__law_low) :=
  Cal.mkQ (k := 0) a sc__law_low fun f cdv A outer s H E hr =>
    qds_one (qds_ret (qd_ix (qd_comp (k := 1) (N' := n0__law_low) false rfl ⟨rfl, by decide +kernel, rfl, rfl, rfl⟩ (qdi_range1 B.m_range (qda_cons (qd_lenV B.m_len (qv 0 rfl (Or.inr (Or.inl rfl)))) (qda_nil) se_Call)) (fun _ _ _ _ => qdg_name (i := 1) (show 1 ≤ 1 by decide) nd0__law_low rfl (Or.inl rfl) (Or.inr rfl)) (fun _ _ _ _ => qdts_one (qdt_eq hr (qd_listOf B.m_list PyProof.Rows.boot_list (qda_cons (qd_ixV (qv 0) (qd_var (qv 1))) (qda_nil) se_Subscript)) (qd_listR rfl B.m_list PyProof.Rows.boot_list B.m_range (qda_cons (qd_lenV B.m_len (qv 0)) (qda_nil) se_Call)))) (fun _ _ _ _ => qd_var (qv 1))) (qd_int)))
noncomputable def d__law_join : DenS := sSeq (sSet 2 (eCall F__law_low 1 (aCons (eVar 0) (aNil))))
  (sSeq (sFor (iVal (eVar 1)) (pName 3) (sSet 2 (eIx (eIxV 0 (eVar 2)) (eVar 3))))
  (sRet (eVar 2)))
noncomputable def F__law_join : List D → Option (D × Nat) := fnD 4 (d__law_join)
theorem sc__law_join : FnScope ["_law_ladder_here", "_law_worths", "_law_here", "_law_worth"] ["_law_ladder_here", "_law_worths"] (defScope (top 22)) := ⟨rfl, rfl, rfl, by decide +kernel, rfl, by decide +kernel, by decide +kernel⟩
theorem C__law_join (B : Bt mg) (c__law_low : Cal P w K mg base 1 "_law_low" 1 F__law_low) (a : At K mg "_law_join" (top 22) ["_law_ladder_here", "_law_worths"]) : Cal P w K mg base 2 "_law_join" 2 (F__law_join) :=
  Cal.mkQ (k := 1) a sc__law_join fun f cdv A outer s H E hr =>
    qds_cons (qds_set (i := 2) sc__law_join.nd rfl (Or.inl rfl) (qd_callC c__law_low hr (by decide) (qda_cons (qd_var (qv 0 rfl (Or.inl rfl))) (qda_nil) se_Name)))
    (qds_cons (qds_for PassesOwn.never rfl (qdi_val (qd_var (qv 1 rfl (Or.inl rfl)))) (qdg_name (i := 3) (show 0 ≤ 3 by decide) sc__law_join.nd rfl (Or.inl rfl)) (qds_one (qds_set (i := 2) sc__law_join.nd rfl (Or.inl rfl) (qd_ix (qd_ixV (qv 0 rfl (Or.inl rfl)) (qd_var (qv 2 rfl (Or.inl rfl)))) (qd_var (qv 3 rfl (Or.inl rfl)))))))
    (qds_one (qds_ret (qd_var (qv 2 rfl (Or.inl rfl))))))
noncomputable abbrev b1_table_of (ob : D) (G : List D → Option (D × Nat)) : DenS := sDrop (eApp 2 (aCons (eTupOf (aCons (eComp 1 (iRange (aCons (eVar 0) (aNil))) (pName 4) (tYesD) (eCallO ob G 1 2 (aCons (eVar 3) (aCons (eVar 4) (aNil)))) false) (aNil))) (aNil)))
noncomputable def d_table_of (ob : D) (G : List D → Option (D × Nat)) : DenS := sSeq (sSet 2 (eLst (aNil)))
  (sSeq (sFor (iRange (aCons (eVar 0) (aNil))) (pName 3) (sDrop (eApp 2 (aCons (eTupOf (aCons (eComp 1 (iRange (aCons (eVar 0) (aNil))) (pName 4) (tYesD) (eCallO ob G 1 2 (aCons (eVar 3) (aCons (eVar 4) (aNil)))) false) (aNil))) (aNil)))))
  (sRet (eTupOf (aCons (eVar 2) (aNil)))))
noncomputable def F_table_of (ob : D) (G : List D → Option (D × Nat)) : List D → Option (D × Nat) := fnD 4 (d_table_of ob G)
theorem sc_table_of : FnScope ["many", "entry", "rows", "x"] ["many", "entry"] (defScope (top 9)) := ⟨rfl, rfl, rfl, by decide +kernel, rfl, by decide +kernel, by decide +kernel⟩
noncomputable abbrev n0_table_of : List Str := ["many", "entry", "rows", "x", "y"]
theorem nd0_table_of : (n0_table_of).Nodup := by decide +kernel
theorem C_table_of (B : Bt mg) {ob : D} {G : List D → Option (D × Nat)} (co : CalO P w K mg base 5 ob 2 G)  (a : At K mg "table_of" (top 9) ["many", "entry"]) : Cal P w K mg base 6 "table_of" 2 (F_table_of ob G) :=
  Cal.mkQ (k := 5) a sc_table_of fun f cdv A outer s H E hr =>
    qds_cons (qds_set (i := 2) sc_table_of.nd rfl (Or.inl rfl) (qd_lst (qda_nil)))
    (qds_cons (qds_for PassesOwn.never rfl (qdi_range1 B.m_range (qda_cons (qd_var (qv 0 rfl (Or.inl rfl))) (qda_nil) se_Name)) (qdg_name (i := 3) (show 0 ≤ 3 by decide) sc_table_of.nd rfl (Or.inr rfl)) (qds_one (qds_expr (qd_append (qv 2 rfl (Or.inl rfl)) (qda_cons (qd_tupOf B.m_tuple PyProof.Rows.boot_tuple (qda_cons (qd_comp (k := 1) (N' := n0_table_of) false rfl ⟨rfl, by decide +kernel, rfl, rfl, rfl⟩ (qdi_range1 B.m_range (qda_cons (qd_var (qv 0 rfl (Or.inl rfl))) (qda_nil) se_Name)) (fun _ _ _ _ => qdg_name (i := 4) (show 4 ≤ 4 by decide) nd0_table_of rfl (Or.inl rfl) (Or.inr rfl)) (fun _ _ _ _ => qdts_nil) (fun _ _ _ _ => qd_callO (qv 1) co hr (by decide) (qda_cons (qd_var (qv 3)) (qda_cons (qd_var (qv 4)) (qda_nil) se_Name) se_Name))) (qda_nil) se_ListComp)) (qda_nil) se_Call)))))
    (qds_one (qds_ret (qd_tupOf B.m_tuple PyProof.Rows.boot_tuple (qda_cons (qd_var (qv 2 rfl (Or.inl rfl))) (qda_nil) se_Name)))))
noncomputable def l_turned : Den := eCall F_met 3 (aCons (eVar 2) (aCons (eVar 0) (aCons (eVar 1) (aNil))))
noncomputable def d_turned : DenS := sRet (eTab F_table_of l_turned [0] (eLenV 0))
noncomputable def F_turned : List D → Option (D × Nat) := fnD 1 (d_turned)
theorem sc_turned : FnScope ["ladder"] ["ladder"] (defScope (top 10)) := ⟨rfl, rfl, rfl, by decide +kernel, rfl, by decide +kernel, by decide +kernel⟩
theorem C_turned (B : Bt mg) (L : Lm K mg base) (KX : K.In base) (NG : base.Ns mainGlobals mg) (tb : ∃ c Pt, PySem.W.tabIn K "turned" = some (c, Pt)) (hT : ∀ (base : Heap) (ob : D) (G : List D → Option (D × Nat)), CalO P w K mg base 5 ob 2 G → Cal P w K mg base 6 "table_of" 2 (F_table_of ob G)) (hy : ∃ fn, mg "table_of" = some (.ref fn) ∧ PySem.W.keepIn K (.ref fn) = true) (e_met : ∀ base : Heap, Cal P w K mg base 4 "met" 3 F_met)  (a : At K mg "turned" (top 10) ["ladder"]) : Cal P w K mg base 7 "turned" 1 F_turned :=
  Cal.mkL (k := 6) KX NG tb a sc_turned fun f c Pt A outer s H E ht hr =>
    qds_one (qds_ret (qd_tab (ps := ["x", "y"]) (caps := ["ladder"]) (is := [0]) (kb := 4) L (by decide) ht (by exact LamScope.of rfl rfl rfl (by decide +kernel) (by decide +kernel) (by decide +kernel) (by decide +kernel) (by decide +kernel)) hy hr (by decide) hT (fun _ _ _ _ _ _ _ _ _ hr => qd_callC (e_met _) hr (by decide) (qda_cons (qd_var (qv 2 rfl (Or.inr (Or.inr rfl)))) (qda_cons (qd_var (qv 0 rfl (Or.inl rfl))) (qda_cons (qd_var (qv 1 rfl (Or.inl rfl))) (qda_nil) se_Name) se_Name) se_Name)) (fun _ _ _ _ _ _ h => by obtain ⟨_, _, rfl⟩ := L3.pairOf h; rfl) ⟨rfl, rfl, trivial⟩ (qd_lenV B.m_len (qv 0 rfl (Or.inr (Or.inl rfl)))) (fun _ => se_Call)))
noncomputable abbrev b1_law : DenS := sIf (tOfB (e2 dNe (eCall F__law_join 2 (aCons (eVar 1) (aCons (eComp 1 (iVal (eCall F__law_under 2 (aCons (eVar 1) (aCons (eVar 3) (aNil))))) (pName 7) (tOfB (e2 dNe (eVar 7) (eVar 3))) (eVar 7) false) (aNil)))) (eVar 3))) (sDrop (eApp 2 (aCons (eVar 3) (aNil)))) (sNil)
noncomputable abbrev b2_law : DenS := sSeq (sSet 5 (eComp 1 (iVal (eVar 4)) (pName 7) (tOfB (e2 dIn (eVar 7) (eCall F__law_under 2 (aCons (eVar 1) (aCons (eVar 3) (aNil)))))) (eVar 7) false))
  (sIf (tOfB (e2 dNe (eCall F__law_join 2 (aCons (eVar 1) (aCons (eVar 5) (aNil)))) (eVar 3))) (sRet (eC (.bl false))) (sNil))
noncomputable abbrev b3_law : DenS := sIf (tOfB (e2 dEq (eCall F__law_join 2 (aCons (eVar 1) (aCons (eComp 1 (iVal (eVar 4)) (pName 7) (tAndD (tOfB (e2 dNe (eVar 7) (eVar 6))) (tOfB (e2 dIn (eVar 7) (eCall F__law_under 2 (aCons (eVar 1) (aCons (eVar 6) (aNil))))))) (eVar 7) false) (aNil)))) (eVar 6))) (sRet (eC (.bl false))) (sNil)
noncomputable def d_law : DenS := sSeq (sSet 1 (eCall F__law_ladder 2 (aCons (eVar 0) (aCons (eC (.int 0)) (aNil)))))
  (sSeq (sIf (tOrD (tOfB (e2 dNe (eCall F_height_of 1 (aCons (eVar 1) (aNil))) (eCall F__law_high 1 (aCons (eVar 1) (aNil))))) (tOfB (e2 dNe (eCall F_height_of 1 (aCons (eCall F_turned 1 (aCons (eVar 1) (aNil))) (aNil))) (eCall F__law_high 1 (aCons (eVar 1) (aNil)))))) (sRet (eC (.bl false))) (sNil))
  (sSeq (sSet 2 (eLst (aNil)))
  (sSeq (sFor (iRange (aCons (eLenV 1) (aNil))) (pName 3) (sIf (tOfB (e2 dNe (eCall F__law_join 2 (aCons (eVar 1) (aCons (eComp 1 (iVal (eCall F__law_under 2 (aCons (eVar 1) (aCons (eVar 3) (aNil))))) (pName 7) (tOfB (e2 dNe (eVar 7) (eVar 3))) (eVar 7) false) (aNil)))) (eVar 3))) (sDrop (eApp 2 (aCons (eVar 3) (aNil)))) (sNil)))
  (sSeq (sSet 4 (eCall F_corners 1 (aCons (eVar 1) (aNil))))
  (sSeq (sIf (tOfB (e2 dNe (eVar 4) (eVar 2))) (sRet (eC (.bl false))) (sNil))
  (sSeq (sFor (iRange (aCons (eLenV 1) (aNil))) (pName 3) (sSeq (sSet 5 (eComp 1 (iVal (eVar 4)) (pName 7) (tOfB (e2 dIn (eVar 7) (eCall F__law_under 2 (aCons (eVar 1) (aCons (eVar 3) (aNil)))))) (eVar 7) false))
  (sIf (tOfB (e2 dNe (eCall F__law_join 2 (aCons (eVar 1) (aCons (eVar 5) (aNil)))) (eVar 3))) (sRet (eC (.bl false))) (sNil))))
  (sSeq (sFor (iVal (eVar 4)) (pName 6) (sIf (tOfB (e2 dEq (eCall F__law_join 2 (aCons (eVar 1) (aCons (eComp 1 (iVal (eVar 4)) (pName 7) (tAndD (tOfB (e2 dNe (eVar 7) (eVar 6))) (tOfB (e2 dIn (eVar 7) (eCall F__law_under 2 (aCons (eVar 1) (aCons (eVar 6) (aNil))))))) (eVar 7) false) (aNil)))) (eVar 6))) (sRet (eC (.bl false))) (sNil)))
  (sRet (eC (.bl true))))))))))
noncomputable def F_law : List D → Option (D × Nat) := fnD 7 (d_law)
theorem sc_law : FnScope ["_law_script", "_law_ladder_here", "_law_due", "_law_worth", "_law_told", "_law_some", "_law_corner"] ["_law_script"] (defScope (top 25)) := ⟨rfl, rfl, rfl, by decide +kernel, rfl, by decide +kernel, by decide +kernel⟩
noncomputable abbrev n0_law : List Str := ["_law_script", "_law_ladder_here", "_law_due", "_law_worth", "_law_told", "_law_some", "_law_corner", "_law_one"]
theorem nd0_law : (n0_law).Nodup := by decide +kernel
theorem law_ok' (B : Bt mg) (c__law_ladder : Cal P w K mg base 4 "_law_ladder" 2 F__law_ladder) (c_height_of : Cal P w K mg base 8 "height_of" 1 F_height_of) (c__law_high : Cal P w K mg base 8 "_law_high" 1 F__law_high) (c_turned : Cal P w K mg base 7 "turned" 1 F_turned) (c__law_join : Cal P w K mg base 2 "_law_join" 2 F__law_join) (c__law_under : Cal P w K mg base 1 "_law_under" 2 F__law_under) (c_corners : Cal P w K mg base 4 "corners" 1 F_corners) {f : Addr} {fd : FuncData} (F : Fun K "law" "law" (top 25) f fd) : FnOk P w K mg base CX0 9 f fd ["_law_script"] (spD K 1 F_law) :=
  law_okQ (k := 8) F sc_law fun f cdv A outer s H E hr =>
    qds_cons (qds_set (i := 1) sc_law.nd rfl (Or.inr rfl) (qd_callC c__law_ladder hr (by decide) (qda_cons (qd_var (qv 0 rfl (Or.inl rfl))) (qda_cons (qd_int) (qda_nil) se_Constant) se_Name)))
    (qds_cons (qds_if (qw_pt (qdw_or (qdt_ne hr (qd_callC c_height_of hr (by decide) (qda_cons (qd_var (qv 1 rfl (Or.inr (Or.inl rfl)))) (qda_nil) se_Name)) (qd_callC c__law_high hr (by decide) (qda_cons (qd_var (qv 1 rfl (Or.inr (Or.inl rfl)))) (qda_nil) se_Name))) (qdw_or1 (qdt_ne hr (qd_callC c_height_of hr (by decide) (qda_cons (qd_callC c_turned hr (by decide) (qda_cons (qd_var (qv 1 rfl (Or.inr (Or.inl rfl)))) (qda_nil) se_Name)) (qda_nil) se_Call)) (qd_callC c__law_high hr (by decide) (qda_cons (qd_var (qv 1 rfl (Or.inr (Or.inl rfl)))) (qda_nil) se_Name)))))) (qds_one (qds_ret (qd_bl))) (qds_nil))
    (qds_cons (qds_set (i := 2) sc_law.nd rfl (Or.inl rfl) (qd_lst (qda_nil)))
    (qds_cons (qds_for PassesOwn.never rfl (qdi_range1 B.m_range (qda_cons (qd_lenV B.m_len (qv 1 rfl (Or.inr (Or.inl rfl)))) (qda_nil) se_Call)) (qdg_name (i := 3) (show 0 ≤ 3 by decide) sc_law.nd rfl (Or.inr rfl)) (qds_one (qds_if (qdt_ne hr (qd_callC c__law_join hr (by decide) (qda_cons (qd_var (qv 1 rfl (Or.inr (Or.inl rfl)))) (qda_cons (qd_comp (k := 1) (N' := n0_law) false rfl ⟨rfl, by decide +kernel, rfl, rfl, rfl⟩ (qdi_val (qd_callC c__law_under hr (by decide) (qda_cons (qd_var (qv 1 rfl (Or.inr (Or.inl rfl)))) (qda_cons (qd_var (qv 3 rfl (Or.inr (Or.inl rfl)))) (qda_nil) se_Name) se_Name))) (fun _ _ _ _ => qdg_name (i := 7) (show 7 ≤ 7 by decide) nd0_law rfl (Or.inl rfl) (Or.inr rfl)) (fun _ _ _ _ => qdts_one (qdt_ne hr (qd_var (qv 7)) (qd_var (qv 3)))) (fun _ _ _ _ => qd_var (qv 7))) (qda_nil) se_ListComp) se_Name)) (qd_var (qv 3 rfl (Or.inr (Or.inl rfl))))) (qds_one (qds_expr (qd_append (qv 2 rfl (Or.inl rfl)) (qda_cons (qd_var (qv 3 rfl (Or.inr (Or.inl rfl)))) (qda_nil) se_Name)))) (qds_nil))))
    (qds_cons (qds_set (i := 4) sc_law.nd rfl (Or.inl rfl) (qd_callC c_corners hr (by decide) (qda_cons (qd_var (qv 1 rfl (Or.inr (Or.inl rfl)))) (qda_nil) se_Name)))
    (qds_cons (qds_if (qdt_ne hr (qd_var (qv 4 rfl (Or.inl rfl))) (qd_var (qv 2 rfl (Or.inl rfl)))) (qds_one (qds_ret (qd_bl))) (qds_nil))
    (qds_cons (qds_for PassesOwn.never rfl (qdi_range1 B.m_range (qda_cons (qd_lenV B.m_len (qv 1 rfl (Or.inr (Or.inl rfl)))) (qda_nil) se_Call)) (qdg_name (i := 3) (show 0 ≤ 3 by decide) sc_law.nd rfl (Or.inr rfl)) (qds_cons (qds_setC (i := 5) (k := 1) (N' := n0_law) false sc_law.nd rfl (Or.inl rfl) rfl rfl ⟨rfl, by decide +kernel, rfl, rfl, rfl⟩ (qdi_val (qd_var (qv 4 rfl (Or.inl rfl)))) (fun _ _ _ _ => qdg_name (i := 7) (show 7 ≤ 7 by decide) nd0_law rfl (Or.inl rfl) (Or.inr rfl)) (fun _ _ _ _ => qdts_one (qdt_in hr (qd_var (qv 7)) (qd_callC c__law_under hr (by decide) (qda_cons (qd_var (qv 1)) (qda_cons (qd_var (qv 3)) (qda_nil) se_Name) se_Name)))) (fun _ _ _ _ => qd_var (qv 7)))
    (qds_one (qds_if (qdt_ne hr (qd_callC c__law_join hr (by decide) (qda_cons (qd_var (qv 1 rfl (Or.inr (Or.inl rfl)))) (qda_cons (qd_var (qv 5 rfl (Or.inl rfl))) (qda_nil) se_Name) se_Name)) (qd_var (qv 3 rfl (Or.inr (Or.inl rfl))))) (qds_one (qds_ret (qd_bl))) (qds_nil)))))
    (qds_cons (qds_for PassesOwn.never rfl (qdi_val (qd_var (qv 4 rfl (Or.inl rfl)))) (qdg_name (i := 6) (show 0 ≤ 6 by decide) sc_law.nd rfl (Or.inr rfl)) (qds_one (qds_if (qdt_eq hr (qd_callC c__law_join hr (by decide) (qda_cons (qd_var (qv 1 rfl (Or.inr (Or.inl rfl)))) (qda_cons (qd_comp (k := 1) (N' := n0_law) false rfl ⟨rfl, by decide +kernel, rfl, rfl, rfl⟩ (qdi_val (qd_var (qv 4 rfl (Or.inl rfl)))) (fun _ _ _ _ => qdg_name (i := 7) (show 7 ≤ 7 by decide) nd0_law rfl (Or.inl rfl) (Or.inr rfl)) (fun _ _ _ _ => qdts_one (qw_pt (qdw_and (qdt_ne hr (qd_var (qv 7)) (qd_var (qv 6))) (qdw_and1 (qdt_in hr (qd_var (qv 7)) (qd_callC c__law_under hr (by decide) (qda_cons (qd_var (qv 1)) (qda_cons (qd_var (qv 6)) (qda_nil) se_Name) se_Name))))))) (fun _ _ _ _ => qd_var (qv 7))) (qda_nil) se_ListComp) se_Name)) (qd_var (qv 6 rfl (Or.inr (Or.inl rfl))))) (qds_one (qds_ret (qd_bl))) (qds_nil))))
    (qds_one (qds_ret (qd_bl))))))))))
end
end My
set_option Elab.async false
set_option linter.all false
set_option maxRecDepth 100000
set_option maxHeartbeats 1000000
namespace My
open PySem PySem.Spec PyProof.Rows L2 L3
noncomputable abbrev scr (ns : List Int) : D := .lst (ns.map D.int)
noncomputable def cellI (ns : List Int) (k : Int) : Int := if k < ns.length then ns.getD k.toNat 0 else if ns = [] then 0 else ns.getD (k % ns.length).toNat 0 * 31 + k
theorem scr_at {ns : List Int} {k : Int} (h0 : 0 ≤ k) (h : k < ns.length) : L2.atI (ns.map D.int) k = some (.int (ns.getD k.toNat 0)) := by
  obtain ⟨m, rfl⟩ : ∃ m : Nat, k = Int.ofNat m := ⟨k.toNat, by show k = (k.toNat : Int); omega⟩
  have hk : m < ns.length := by have : (m : Int) < ns.length := h; omega
  apply atI_of
  rw [List.getElem?_map, List.getElem?_eq_getElem hk]
  simp [hk]
theorem sh_scr (ns : List Int) : Sh 1 (scr ns) := .lst fun d m => by
  obtain ⟨x, _, rfl⟩ := List.mem_map.mp m
  exact .int _
theorem eq_scr (ns : List Int) : dEq (scr ns) (.lst []) = some (.bl (decide (ns = []))) := by
  unfold dEq
  rw [if_pos ⟨(sh_scr ns).ok, (sh_L []).ok⟩]
  cases ns <;> rfl
theorem cell_ok (ns : List Int) (k : Int) (h0 : 0 ≤ k) : F__law_cell [scr ns, .int k] = some (.int (cellI ns k), 9) := by
  unfold F__law_cell d__law_cell cellI
  by_cases h : k < ns.length
  · simp [h, scr_at h0 h, lenD, atD]
  · by_cases hn : ns = []
    · subst hn
      have h' : ¬ k < 0 := by omega
      simp [h', lenD, eq_scr]
    · have hp : (0 : Int) < ns.length := by have := List.length_pos_iff.mpr hn; omega
      have h1 := Int.emod_nonneg k (Int.ne_of_gt hp)
      have h2 := Int.emod_lt_of_pos k hp
      have h3 := scr_at h1 h2
      have hp' := List.length_pos_iff.mpr hn
      simp [h, lenD, atD, eq_scr, hn, hp', h3]
noncomputable def drawnI (ns : List Int) (k : Int) : Int := (cellI ns k + 6151 * (k + 1)) * 40692 % 2147483399
noncomputable def pickI (ns : List Int) (k m : Int) : Int := (drawnI ns k * drawnI ns k + drawnI ns k / 31) % 2147483629 % m
theorem pick_ok (ns : List Int) (k m : Int) (h0 : 0 ≤ k) (hm : 0 < m) : F__law_pick [scr ns, .int k, .int m] = some (.int (pickI ns k m), 9) := by
  have d0 : 0 ≤ drawnI ns k := Int.emod_nonneg _ (by decide)
  have d1 : drawnI ns k < 2147483399 := Int.emod_lt_of_pos _ (by decide)
  have g1 : -18446744073709551616 < drawnI ns k := by omega
  have g2 : drawnI ns k < 18446744073709551616 := by omega
  have hd : (cellI ns k + 6151 * (k + 1)) * 40692 % 2147483399 = drawnI ns k := rfl
  unfold F__law_pick d__law_pick pickI
  simp [cell_ok ns k h0, hm, hd, g1, g2]
theorem pick_lo (ns : List Int) (k : Int) {m : Int} (hm : 0 < m) : 0 ≤ pickI ns k m := Int.emod_nonneg _ (Int.ne_of_gt hm)
theorem pick_hi (ns : List Int) (k : Int) {m : Int} (hm : 0 < m) : pickI ns k m < m := Int.emod_lt_of_pos _ hm
noncomputable def tf (rows : List (List Nat)) (i j : Nat) : Nat := (rows.getD i []).getD j 0
noncomputable def baseT (rows : List (List Nat)) : D := tabL rows.length (tf rows)
noncomputable def ch (n : Nat) : List (List Nat) := (List.range n).map fun i => (List.range n).map fun j => max i j
noncomputable def cp (a b : List (List Nat)) : List (List Nat) := (List.range (a.length * b.length)).map fun i => (List.range (a.length * b.length)).map fun j => tf a (i / b.length) (j / b.length) * b.length + tf b (i % b.length) (j % b.length)
noncomputable def sb (n : Nat) : List (List Nat) := (List.range (n + 2)).map fun i => (List.range (n + 2)).map fun j => if i = 0 ∨ j = 0 ∨ i = j then max i j else n + 1
noncomputable def n5 : List (List Nat) := [[0, 1, 2, 3, 4], [1, 1, 2, 4, 4], [2, 2, 2, 4, 4], [3, 4, 4, 3, 4], [4, 4, 4, 4, 4]]
noncomputable def bases : List (List (List Nat)) := [ch 1, ch 2, ch 3, ch 4, ch 5, cp (ch 2) (ch 2), cp (ch 2) (ch 3), cp (ch 2) (ch 4), sb 0, sb 1, sb 2, sb 3, sb 4, cp (ch 2) (cp (ch 2) (ch 2)), n5]
theorem ch1 : F__law_chain [.int 1] = some (baseT (ch 1), 1) := by rfl
theorem ch2 : F__law_chain [.int 2] = some (baseT (ch 2), 1) := by rfl
theorem ch3 : F__law_chain [.int 3] = some (baseT (ch 3), 1) := by rfl
theorem ch4 : F__law_chain [.int 4] = some (baseT (ch 4), 1) := by rfl
theorem ch5 : F__law_chain [.int 5] = some (baseT (ch 5), 1) := by rfl
theorem sb0 : F__law_side_by_side [.int 0] = some (baseT (sb 0), 0) := by rfl
theorem sb1 : F__law_side_by_side [.int 1] = some (baseT (sb 1), 0) := by rfl
theorem sb2 : F__law_side_by_side [.int 2] = some (baseT (sb 2), 0) := by rfl
theorem sb3 : F__law_side_by_side [.int 3] = some (baseT (sb 3), 0) := by rfl
theorem sb4 : F__law_side_by_side [.int 4] = some (baseT (sb 4), 0) := by rfl
theorem cp22 : F__law_couples [baseT (ch 2), baseT (ch 2)] = some (baseT (cp (ch 2) (ch 2)), 0) := by rfl
theorem cp23 : F__law_couples [baseT (ch 2), baseT (ch 3)] = some (baseT (cp (ch 2) (ch 3)), 0) := by rfl
theorem cp24 : F__law_couples [baseT (ch 2), baseT (ch 4)] = some (baseT (cp (ch 2) (ch 4)), 0) := by rfl
theorem cp222 : F__law_couples [baseT (ch 2), baseT (cp (ch 2) (ch 2))] = some (baseT (cp (ch 2) (cp (ch 2) (ch 2))), 0) := by rfl
theorem base_ok (ns : List Int) (t : Int) (h0 : 0 ≤ t) : ∃ rows ∈ bases, ∃ q, F__law_base [scr ns, .int t] = some (baseT rows, q) := by
  have k0 := pick_lo ns t (m := 9) (by decide)
  have k1 := pick_hi ns t (m := 9) (by decide)
  have p0 := pick_lo ns (t + 1) (m := 5) (by decide)
  have p1 := pick_hi ns (t + 1) (m := 5) (by decide)
  have r0 := pick_lo ns (t + 1) (m := 3) (by decide)
  have r1 := pick_hi ns (t + 1) (m := 3) (by decide)
  have e9 := pick_ok ns t 9 h0 (by decide)
  have e5 := pick_ok ns (t + 1) 5 (by omega) (by decide)
  have e3 := pick_ok ns (t + 1) 3 (by omega) (by decide)
  have mem : ∀ i : Nat, i < 15 → bases.getD i [] ∈ bases := fun i hi => by
    rw [List.getD_eq_getElem?_getD, List.getElem?_eq_getElem (show i < bases.length from hi)]
    exact List.getElem_mem _
  have hc : ∀ p : Int, 0 ≤ p → p < 5 → ∃ rows ∈ bases, F__law_chain [.int (1 + p)] = some (baseT rows, 1) := fun p a b => by
    have : p = 0 ∨ p = 1 ∨ p = 2 ∨ p = 3 ∨ p = 4 := by omega
    rcases this with rfl | rfl | rfl | rfl | rfl
    · exact ⟨_, mem 0 (by decide), ch1⟩
    · exact ⟨_, mem 1 (by decide), ch2⟩
    · exact ⟨_, mem 2 (by decide), ch3⟩
    · exact ⟨_, mem 3 (by decide), ch4⟩
    · exact ⟨_, mem 4 (by decide), ch5⟩
  have hs : ∀ p : Int, 0 ≤ p → p < 5 → ∃ rows ∈ bases, F__law_side_by_side [.int p] = some (baseT rows, 0) := fun p a b => by
    have : p = 0 ∨ p = 1 ∨ p = 2 ∨ p = 3 ∨ p = 4 := by omega
    rcases this with rfl | rfl | rfl | rfl | rfl
    · exact ⟨_, mem 8 (by decide), sb0⟩
    · exact ⟨_, mem 9 (by decide), sb1⟩
    · exact ⟨_, mem 10 (by decide), sb2⟩
    · exact ⟨_, mem 11 (by decide), sb3⟩
    · exact ⟨_, mem 12 (by decide), sb4⟩
  have hp : ∀ r : Int, 0 ≤ r → r < 3 → ∃ x rows1 rows, atD (.lst [.int 2, .int 3, .int 4]) r = some (.int x) ∧ F__law_chain [.int x] = some (baseT rows1, 1) ∧ rows ∈ bases ∧ F__law_couples [baseT (ch 2), baseT rows1] = some (baseT rows, 0) := fun r a b => by
    have : r = 0 ∨ r = 1 ∨ r = 2 := by omega
    rcases this with rfl | rfl | rfl
    · exact ⟨2, _, _, rfl, ch2, mem 5 (by decide), cp22⟩
    · exact ⟨3, _, _, rfl, ch3, mem 6 (by decide), cp23⟩
    · exact ⟨4, _, _, rfl, ch4, mem 7 (by decide), cp24⟩
  unfold F__law_base d__law_base
  generalize pickI ns t 9 = k at *
  generalize pickI ns (t + 1) 5 = p at *
  generalize pickI ns (t + 1) 3 = r at *
  by_cases h3 : k < 3
  · obtain ⟨rows, hm, e⟩ := hc p p0 p1
    exact ⟨rows, hm, 1, by simp [e9, e5, h3, e]⟩
  by_cases h5 : k < 5
  · obtain ⟨x, rows1, rows, ea, e1, hm, e2'⟩ := hp r r0 r1
    exact ⟨rows, hm, 0, by simp [e9, e3, h3, h5, ch2, ea, e1, e2']⟩
  by_cases h7 : k < 7
  · obtain ⟨rows, hm, e⟩ := hs p p0 p1
    exact ⟨rows, hm, 0, by simp [e9, e5, h3, h5, h7, e]⟩
  have : k = 7 ∨ k = 8 := by omega
  rcases this with rfl | rfl
  · exact ⟨_, mem 13 (by decide), 0, by simp [e9, dEq_int, ch2, cp22]; exact cp222⟩
  · refine ⟨_, mem 14 (by decide), 0, ?_⟩
    simp [e9, dEq_int]
    rfl
theorem bases_ok : ∀ rows ∈ bases, ladB rows.length (tf rows) = true := by decide +kernel
noncomputable def pk (ns : List Int) (t : Int) (k m : Nat) : Nat := (pickI ns (t + 2 + Int.ofNat k) (Int.ofNat m)).toNat
theorem pk_lt (ns : List Int) (t : Int) (k m : Nat) (h : 0 < m) : pk ns t k m < m := by
  have h1 := pick_lo ns (t + 2 + Int.ofNat k) (m := Int.ofNat m) (by show (0 : Int) < m; omega)
  have h2 := pick_hi ns (t + 2 + Int.ofNat k) (m := Int.ofNat m) (by show (0 : Int) < m; omega)
  have h3 : (Int.ofNat m) = (m : Int) := rfl
  unfold pk
  omega
theorem pk_eq (ns : List Int) (t : Int) (k m : Nat) (h : 0 < m) : pickI ns (t + 2 + Int.ofNat k) (Int.ofNat m) = Int.ofNat (pk ns t k m) := by
  have h1 := pick_lo ns (t + 2 + Int.ofNat k) (m := Int.ofNat m) (by show (0 : Int) < m; omega)
  unfold pk
  show _ = ((pickI ns (t + 2 + Int.ofNat k) (Int.ofNat m)).toNat : Int)
  omega
section
variable (ns : List Int) (t : Int) (n : Nat) (B : Nat → Nat → Nat) (q : Nat)
theorem names_ok (h0 : 0 ≤ t) (hn : n ≤ 16) : compD 1 (pName 8) tYesD (ePop 3 (aCons (eCall F__law_pick 3 (aCons (eVar 0) (aCons (e2 dAdd (e2 dAdd (eVar 1) (eC (.int 2))) (eVar 8)) (aCons (eLenV 3) (aNil))))) (aNil))) false (rangeD n)
    [some (scr ns, 0), some (.int t, 9), some (tabL n B, q), some (.lst (rangeD n), 1), none, none, none, none] =
    some (nums ((List.range n).map (drawn (pk ns t) n)), [some (scr ns, 0), some (.int t, 9), some (tabL n B, q), some (.lst [], 1), none, none, none, none]) := by
  have hp := pk_lt ns t
  have h := compD_fn (k := 1) (pt := pName 8) (tt := tYesD) (te := ePop 3 (aCons (eCall F__law_pick 3 (aCons (eVar 0) (aCons (e2 dAdd (e2 dAdd (eVar 1) (eC (.int 2))) (eVar 8)) (aCons (eLenV 3) (aNil))))) (aNil))) (deep := false) (rangeD n)
    (fun k => [some (scr ns, 0), some (.int t, 9), some (tabL n B, q), some (.lst (nums (left (pk ns t) n k)), 1), none, none, none, none]) (fun _ => true) (fun k => .int (Int.ofNat (drawn (pk ns t) n k))) (fun k hk => ?_)
  · rw [rangeD_len] at h
    have hl : left (pk ns t) n n = [] := List.length_eq_zero_iff.mp (by rw [left_len hp n (Nat.le_refl n)]; omega)
    rw [hl] at h
    have e1 : (List.range n).filter (fun _ => true) = List.range n := by simp
    rw [e1] at h
    simp only [nums, List.map_map, Function.comp_def]
    exact h
  · rw [rangeD_len] at hk
    have hl := left_len hp k (Nat.le_of_lt hk)
    have hlp : 0 < (left (pk ns t) n k).length := by rw [hl]; omega
    have e := pk_eq ns t k _ hlp
    have hj := pk_lt ns t k _ hlp
    have hpk := pick_ok ns (t + 2 + Int.ofNat k) (Int.ofNat (left (pk ns t) n k).length) (by show 0 ≤ t + 2 + (k : Int); omega) (by show (0 : Int) < ((left (pk ns t) n k).length : Int); omega)
    have hs : seqIndex? (Int.ofNat (pk ns t k (left (pk ns t) n k).length)) (nums (left (pk ns t) n k)).length = some (pk ns t k (left (pk ns t) n k).length) := (ixN_seq (ixN_nat (by rw [nums_len]; exact hj))).1
    have hg : (nums (left (pk ns t) n k))[pk ns t k (left (pk ns t) n k).length]? = some (.int (Int.ofNat (drawn (pk ns t) n k))) := by
      rw [nums_get]
      unfold drawn
      rw [List.getD_eq_getElem?_getD, List.getElem?_eq_getElem hj]
      rfl
    have hb : pk ns t k (left (pk ns t) n k).length ≤ 16 := by omega
    have he : (nums (left (pk ns t) n k)).eraseIdx (pk ns t k (left (pk ns t) n k).length) = nums (left (pk ns t) n (k + 1)) := by rw [left, nums_erase]
    refine ⟨[some (scr ns, 0), some (.int t, 9), some (tabL n B, q), some (.lst (nums (left (pk ns t) n k)), 1), none, none, none, none, some (.int (Int.ofNat k), 9)], _, by simp [rangeD], rfl, ?_⟩
    rw [if_pos rfl]
    refine ⟨9, [some (scr ns, 0), some (.int t, 9), some (tabL n B, q), some (.lst (nums (left (pk ns t) n (k + 1))), 1), none, none, none, none, some (.int (Int.ofNat k), 9)], ?_, by simp, by simp⟩
    have b1 : (-1000 : Int) ≤ Int.ofNat (pk ns t k (left (pk ns t) n k).length) := by show (-1000 : Int) ≤ (pk ns t k (left (pk ns t) n k).length : Int); omega
    have b2 : Int.ofNat (pk ns t k (left (pk ns t) n k).length) ≤ 1000 := by show (pk ns t k (left (pk ns t) n k).length : Int) ≤ 1000; omega
    have hl' : lenD (.lst (nums (left (pk ns t) n k))) = some (left (pk ns t) n k).length := by simp [lenD, nums_len]
    rw [e] at hpk
    simp [-Int.ofNat_eq_natCast, hl', hpk, hs, hg, he, b1, b2]
theorem made_ok (hn : n ≤ 16) (x : Option (D × Nat)) : compD 1 (pName 8) tYesD (eRepL (eLst (aCons (eC (.int 0)) (aNil))) (eLenV 2)) true ((List.range n).map fun i => rowL n B i)
    [some (scr ns, 0), some (.int t, 9), some (tabL n B, 0), some (.lst [], 1), x, none, none, none] =
    some ((List.range n).map fun i => rowL n (fun _ _ => 0) i, [some (scr ns, 0), some (.int t, 9), some (tabL n B, 0), some (.lst [], 1), x, none, none, none]) := by
  have h := compD_fn (k := 1) (pt := pName 8) (tt := tYesD) (te := eRepL (eLst (aCons (eC (.int 0)) (aNil))) (eLenV 2)) (deep := true) ((List.range n).map fun i => rowL n B i)
    (fun _ => [some (scr ns, 0), some (.int t, 9), some (tabL n B, 0), some (.lst [], 1), x, none, none, none]) (fun _ => true) (fun i => rowL n (fun _ _ => 0) i) (fun k hk => ?_)
  · rw [List.length_map, List.length_range, show (List.range n).filter (fun _ => true) = List.range n by simp] at h
    exact h
  · refine ⟨[some (scr ns, 0), some (.int t, 9), some (tabL n B, 0), some (.lst [], 1), x, none, none, none, some (rowL n B k, 0)], _, by simp [rowL], rfl, ?_⟩
    rw [if_pos rfl]
    refine ⟨1, [some (scr ns, 0), some (.int t, 9), some (tabL n B, 0), some (.lst [], 1), x, none, none, none, some (rowL n B k, 0)], ?_, by simp, by simp⟩
    have z : rowL n (fun _ _ => 0) k = D.lst (List.replicate n [D.int 0]).flatten := (zeros n).symm
    have b1 : (-1000 : Int) ≤ n := by omega
    have b2 : (n : Int) ≤ 1000 := by omega
    have b3 : n ≤ 1000 := by omega
    rw [z]
    simp [len_tabL, b1, b2, b3]
noncomputable def gst (π ι : Nat → Nat) (i j a b : Nat) : Nat := if ι a < i ∨ (ι a = i ∧ ι b < j) then π (B (ι a) (ι b)) else 0
noncomputable abbrev fillS : DenS := sSet2 5 (qIx 4 (qVar 6)) (qIx 4 (qVar 7)) (eIxV 4 (eIx (eIxV 2 (eVar 6)) (eVar 7)))
section
variable {n B} {π ι : Nat → Nat} (cl : ∀ i j, i < n → j < n → B i j < n) (h1 : ∀ i, i < n → π i < n) (h2 : ∀ i, i < n → ι i < n) (h3 : ∀ i, i < n → ι (π i) = i) (h4 : ∀ i, i < n → π (ι i) = i)
include cl h1 h2 h3 h4
theorem fill_step {f : Nat → Nat → Nat} {i j : Nat} (hi : i < n) (hj : j < n) {y : Option (D × Nat)} :
    fillS [some (scr ns, 0), some (.int t, 9), some (tabL n B, 0), some (.lst [], 1), some (.lst (nums ((List.range n).map π)), 1), some (tabL n f, 2), some (.int (Int.ofNat i), 9), some (.int (Int.ofNat j), 9)] =
    some (.nx [some (scr ns, 0), some (.int t, 9), some (tabL n B, 0), some (.lst [], 1), some (.lst (nums ((List.range n).map π)), 1), some (tabL n (fun a b => if a = π i ∧ b = π j then π (B i j) else f a b), 2), some (.int (Int.ofNat i), 9), some (.int (Int.ofNat j), 9)]) := by
  have a1 := at_tabL (f := B) hi
  have a2 := at_rowL (f := B) (i := i) hj
  have a3 : atD (.lst (nums ((List.range n).map π))) (Int.ofNat (B i j)) = some (.int (Int.ofNat (π (B i j)))) := at_nums_range (cl i j hi hj)
  have a4 : atD (.lst (nums ((List.range n).map π))) (Int.ofNat i) = some (.int (Int.ofNat (π i))) := at_nums_range hi
  have a5 : atD (.lst (nums ((List.range n).map π))) (Int.ofNat j) = some (.int (Int.ofNat (π j))) := at_nums_range hj
  have a6 : ixN ((List.range n).map fun a => rowL n f a).length (Int.ofNat (π i)) = some (π i) := ixN_nat (by simpa using h1 i hi)
  have a7 : ((List.range n).map fun a => rowL n f a)[π i]? = some (.lst (nums ((List.range n).map fun b => f (π i) b))) := by rw [List.getElem?_map, List.getElem?_range (h1 i hi)]; rfl
  have a8 : ixN (nums ((List.range n).map fun b => f (π i) b)).length (Int.ofNat (π j)) = some (π j) := ixN_nat (by simpa [nums_len] using h1 j hj)
  have a9 := tabL_set (n := n) (f := f) (a := π i) (b := π j) (v := π (B i j))
  rw [← a9]
  show fillS [some (scr ns, 0), some (.int t, 9), some (tabL n B, 0), some (.lst [], 1), some (.lst (nums ((List.range n).map π)), 1), some (.lst ((List.range n).map fun a => rowL n f a), 2), some (.int (Int.ofNat i), 9), some (.int (Int.ofNat j), 9)] = _
  unfold fillS
  simp only [sSet2, eIxV, eIx, eVar, qIx, qVar, List.getElem?_cons_succ, List.getElem?_cons_zero, D.isL, if_true, a1, a2, a3, a4, a5, a6, a7, a8, ne_eq, not_true_eq_false, false_and, and_false, if_false, Bool.false_eq_true, reduceCtorEq, Nat.not_lt_zero, Nat.lt_irrefl, dep0, List.set_cons_succ, List.set_cons_zero]
noncomputable abbrev rho5 (f : Nat → Nat → Nat) (x y : Option (D × Nat)) : Rho := [some (scr ns, 0), some (.int t, 9), some (tabL n B, 0), some (.lst [], 1), some (.lst (nums ((List.range n).map π)), 1), some (tabL n f, 2), x, y]
omit cl h1 h2 h3 h4
theorem rangeD_get {i : Nat} (h : i < (rangeD n).length) : (rangeD n)[i] = .int (Int.ofNat i) := by simp [rangeD]
include cl h1 h2 h3 h4
theorem gst_next {i j : Nat} (hi : i < n) (hj : j < n) : tabL n (fun a b => if a = π i ∧ b = π j then π (B i j) else gst B π ι i j a b) = tabL n (gst B π ι i (j + 1)) := by
  refine tabL_congr fun a b ha hb => ?_
  unfold gst
  by_cases h : a = π i ∧ b = π j
  · obtain ⟨rfl, rfl⟩ := h
    rw [if_pos ⟨rfl, rfl⟩, h3 i hi, h3 j hj, if_pos (.inr ⟨rfl, Nat.lt_succ_self _⟩)]
  · rw [if_neg h]
    have : ¬ (ι a = i ∧ ι b = j) := fun ⟨e1, e2⟩ => h ⟨by rw [← e1, h4 a ha], by rw [← e2, h4 b hb]⟩
    by_cases c : ι a < i ∨ ι a = i ∧ ι b < j
    · rw [if_pos c, if_pos (by omega)]
    · rw [if_neg c, if_neg (by omega)]
theorem gst_row {i : Nat} : tabL n (gst B π ι i n) = tabL n (gst B π ι (i + 1) 0) := by
  refine tabL_congr fun a b ha hb => ?_
  have := h2 b hb
  unfold gst
  by_cases c : ι a < i ∨ ι a = i ∧ ι b < n
  · rw [if_pos c, if_pos (by omega)]
  · rw [if_neg c, if_neg (by omega)]
theorem fill_row (hn : n ≤ 16) {i : Nat} (hi : i < n) (y : Option (D × Nat)) : ∃ y', forD (pName 7) fillS (rangeD n) (rho5 ns t (n := n) (B := B) (π := π) (gst B π ι i 0) (some (.int (Int.ofNat i), 9)) y) =
    some (.nx (rho5 ns t (n := n) (B := B) (π := π) (gst B π ι (i + 1) 0) (some (.int (Int.ofNat i), 9)) y')) := by
  obtain ⟨ρ', e, y', rfl⟩ := forD_rel (pt := pName 7) (body := fillS) (rangeD n) (fun j ρ => ∃ y, ρ = rho5 ns t (n := n) (B := B) (π := π) (gst B π ι i j) (some (.int (Int.ofNat i), 9)) y) (rho5 ns t (n := n) (B := B) (π := π) (gst B π ι i 0) (some (.int (Int.ofNat i), 9)) y) (fun j hj ρ hh0 => by
    obtain ⟨y, hy⟩ := hh0
    subst hy
    rw [rangeD_len] at hj
    refine ⟨rho5 ns t (n := n) (B := B) (π := π) (gst B π ι i j) (some (.int (Int.ofNat i), 9)) (some (.int (Int.ofNat j), 9)), _, by rw [rangeD_get]; simp, .inl (fill_step ns t cl h1 h2 h3 h4 hi hj (y := none)), ?_⟩
    rw [gst_next cl h1 h2 h3 h4 hi hj]
    exact ⟨_, rfl⟩) ⟨y, rfl⟩
  refine ⟨y', ?_⟩
  rw [e, rangeD_len]
  show some (Out.nx [_, _, _, _, _, some (tabL n (gst B π ι i n), 2), _, _]) = _
  rw [gst_row cl h1 h2 h3 h4]
theorem fill_all (hn : n ≤ 16) (x y : Option (D × Nat)) : ∃ x' y', forD (pName 6) (sFor (iRange (aCons (eLenV 2) aNil)) (pName 7) fillS) (rangeD n) (rho5 ns t (n := n) (B := B) (π := π) (fun _ _ => 0) x y) =
    some (.nx (rho5 ns t (n := n) (B := B) (π := π) (fun a b => π (B (ι a) (ι b))) x' y')) := by
  have z : tabL n (fun _ _ => 0) = tabL n (gst B π ι 0 0) := tabL_congr fun a b _ _ => by unfold gst; rw [if_neg (by omega)]
  have z' : tabL n (gst B π ι n 0) = tabL n (fun a b => π (B (ι a) (ι b))) := tabL_congr fun a b ha _ => by unfold gst; rw [if_pos (.inl (h2 a ha))]
  obtain ⟨ρ', e, x', y', rfl⟩ := forD_rel (pt := pName 6) (body := sFor (iRange (aCons (eLenV 2) aNil)) (pName 7) fillS) (rangeD n) (fun i ρ => ∃ x y, ρ = rho5 ns t (n := n) (B := B) (π := π) (gst B π ι i 0) x y) (rho5 ns t (n := n) (B := B) (π := π) (gst B π ι 0 0) x y) (fun i hi ρ hh0 => by
    obtain ⟨x, y, hy⟩ := hh0
    subst hy
    rw [rangeD_len] at hi
    obtain ⟨y', hy'⟩ := fill_row ns t cl h1 h2 h3 h4 hn hi y
    refine ⟨rho5 ns t (n := n) (B := B) (π := π) (gst B π ι i 0) (some (.int (Int.ofNat i), 9)) y, _, by rw [rangeD_get]; simp, .inl (show _ = some (Out.nx (rho5 ns t (n := n) (B := B) (π := π) (gst B π ι (i + 1) 0) (some (.int (Int.ofNat i), 9)) y')) from ?_), ⟨_, _, rfl⟩⟩
    have b1 : (-1000 : Int) ≤ Int.ofNat n := by show (-1000 : Int) ≤ n; omega
    have b2 : Int.ofNat n ≤ 1000 := by show (n : Int) ≤ 1000; omega
    have e : iRange (aCons (eLenV 2) aNil) (rho5 ns t (n := n) (B := B) (π := π) (gst B π ι i 0) (some (.int (Int.ofNat i), 9)) y) = some (rangeD n, rho5 ns t (n := n) (B := B) (π := π) (gst B π ι i 0) (some (.int (Int.ofNat i), 9)) y) := by
      simp [-Int.ofNat_eq_natCast, len_tabL, b1, b2]
      rfl
    unfold sFor
    rw [e]
    exact hy') ⟨x, y, rfl⟩
  refine ⟨x', y', ?_⟩
  show forD _ _ _ [_, _, _, _, _, some (tabL n (fun _ _ => 0), 2), _, _] = some (.nx [_, _, _, _, _, some (tabL n (fun a b => π (B (ι a) (ι b))), 2), _, _])
  rw [z, ← z']
  rw [rangeD_len] at e
  exact e
end
end
theorem rows_tup {n : Nat} {f : Nat → Nat → Nat} {a b c d e : Option (D × Nat)} {x y : Option (D × Nat)} : compD 1 (pName 8) tYesD (eTupOf (aCons (eVar 8) aNil)) false ((List.range n).map fun i => rowL n f i) [a, b, c, d, e, some (tabL n f, 0), x, y] =
    some ((List.range n).map fun i => rowT n f i, [a, b, c, d, e, some (tabL n f, 0), x, y]) := by
  have h := compD_fn (k := 1) (pt := pName 8) (tt := tYesD) (te := eTupOf (aCons (eVar 8) aNil)) (deep := false) ((List.range n).map fun i => rowL n f i)
    (fun _ => [a, b, c, d, e, some (tabL n f, 0), x, y]) (fun _ => true) (fun i => rowT n f i) (fun k hk => ?_)
  · rw [List.length_map, List.length_range, show (List.range n).filter (fun _ => true) = List.range n by simp] at h
    exact h
  · refine ⟨[a, b, c, d, e, some (tabL n f, 0), x, y, some (rowL n f k, 0)], _, by simp [rowL], rfl, ?_⟩
    rw [if_pos rfl]
    exact ⟨9, [a, b, c, d, e, some (tabL n f, 0), x, y, some (rowL n f k, 0)], by simp [rowL, rowT], by simp, by simp⟩
theorem rng_len {n : Nat} (hn : n ≤ 1000) {i : Nat} {ρ : Rho} {d : D} {q : Nat} (h : ρ[i]? = some (some (d, q))) (hl : lenD d = some n) : iRange (aCons (eLenV i) aNil) ρ = some (rangeD n, ρ) := by
  have b1 : (-1000 : Int) ≤ Int.ofNat n := by show (-1000 : Int) ≤ n; omega
  have b2 : Int.ofNat n ≤ 1000 := by show (n : Int) ≤ 1000; omega
  simp only [iRange, aCons, eLenV, aNil, h, hl]
  rw [if_pos ⟨b1, b2⟩]
  rfl
theorem lad_ok (ns : List Int) (t : Int) (h0 : 0 ≤ t) : ∃ n f, Lad n f ∧ F__law_ladder [scr ns, .int t] = some (tabT n f, 9) := by
  obtain ⟨rows, hm, q, hb⟩ := base_ok ns t h0
  have L := ladB_ok (bases_ok rows hm)
  unfold baseT at hb
  revert hb L
  generalize rows.length = n
  generalize tf rows = B
  intro hb L
  have hp := pk_lt ns t
  have hn : n ≤ 1000 := Nat.le_trans L.hi (by decide)
  refine ⟨n, fun a b => drawn (pk ns t) n (B (undrawn (pk ns t) n a) (undrawn (pk ns t) n b)), L.ren (fun i hi => drawn_lt hp hi) (fun i hi => undrawn_lt hp hi) (fun i hi => undrawn_drawn hp hi) (fun i hi => drawn_undrawn hp hi), ?_⟩
  unfold F__law_ladder d__law_ladder
  refine fnD_rt ?_
  have s0 : startD 8 [scr ns, .int t] = [some (scr ns, 0), some (.int t, 9), none, none, none, none, none, none] := rfl
  rw [s0]
  refine (sSeq_nx (ρ1 := [some (scr ns, 0), some (.int t, 9), some (tabL n B, q), none, none, none, none, none]) ?_).trans ?_
  · simp [hb]
  refine (sSeq_nx (ρ1 := [some (scr ns, 0), some (.int t, 9), some (tabL n B, q), some (.lst (rangeD n), 1), none, none, none, none]) ?_).trans ?_
  · exact sSet_to (eListR_eq (rng_len hn rfl len_tabL)) rfl
  refine (sSeq_nx (ρ1 := [some (scr ns, 0), some (.int t, 9), some (tabL n B, q), some (.lst [], 1), some (.lst (nums ((List.range n).map (drawn (pk ns t) n))), 1), none, none, none]) ?_).trans ?_
  · exact sSet_to (eComp_eq (rng_len hn rfl len_tabL) (names_ok ns t n B q h0 L.hi)) rfl
  refine (sSeq_nx (ρ1 := [some (scr ns, 0), some (.int t, 9), some (tabL n B, 0), some (.lst [], 1), some (.lst (nums ((List.range n).map (drawn (pk ns t) n))), 1), some (tabL n (fun _ _ => 0), 2), none, none]) ?_).trans ?_
  · have e : iVal (eVar 2) [some (scr ns, 0), some (.int t, 9), some (tabL n B, q), some (.lst [], 1), some (.lst (nums ((List.range n).map (drawn (pk ns t) n))), 1), none, none, none] = some ((List.range n).map fun i => rowL n B i, [some (scr ns, 0), some (.int t, 9), some (tabL n B, 0), some (.lst [], 1), some (.lst (nums ((List.range n).map (drawn (pk ns t) n))), 1), none, none, none]) := by
      by_cases hq : q = 0
      · subst hq; simp [tabL, hn]
      · simp [tabL, hn, hq]
    exact sSet_to (eComp_eq e (made_ok ns t n B L.hi _)) rfl
  obtain ⟨x', y', hf⟩ := fill_all ns t (n := n) (B := B) (π := drawn (pk ns t) n) (ι := undrawn (pk ns t) n) L.cl (fun i hi => drawn_lt hp hi) (fun i hi => undrawn_lt hp hi) (fun i hi => undrawn_drawn hp hi) (fun i hi => drawn_undrawn hp hi) L.hi none none
  refine (sSeq_nx ((sFor_eq (rng_len hn rfl len_tabL)).trans hf)).trans ?_
  refine sRet_eq (ρ1 := [some (scr ns, 0), some (.int t, 9), some (tabL n B, 0), some (.lst [], 1), some (.lst (nums ((List.range n).map (drawn (pk ns t) n))), 1), some (tabL n (fun a b => drawn (pk ns t) n (B (undrawn (pk ns t) n a) (undrawn (pk ns t) n b))), 0), x', y']) ?_
  have e : iVal (eVar 5) (rho5 ns t (n := n) (B := B) (π := drawn (pk ns t) n) (fun a b => drawn (pk ns t) n (B (undrawn (pk ns t) n a) (undrawn (pk ns t) n b))) x' y') = some ((List.range n).map fun i => rowL n (fun a b => drawn (pk ns t) n (B (undrawn (pk ns t) n a) (undrawn (pk ns t) n b))) i, [some (scr ns, 0), some (.int t, 9), some (tabL n B, 0), some (.lst [], 1), some (.lst (nums ((List.range n).map (drawn (pk ns t) n))), 1), some (tabL n (fun a b => drawn (pk ns t) n (B (undrawn (pk ns t) n a) (undrawn (pk ns t) n b))), 0), x', y']) := by
    simp [tabL, hn]
  have e2 := eComp_eq (k := 1) (pt := pName 8) (tt := tYesD) (te := eTupOf (aCons (eVar 8) aNil)) (deep := false) e rows_tup
  exact eTupOf_lst (aCons_1 e2)
end My
set_option Elab.async false
set_option linter.all false
set_option maxRecDepth 100000
set_option maxHeartbeats 1000000
namespace My
open PySem PySem.Spec PyProof.Rows L2 L3
section
variable {n : Nat} {f : Nat → Nat → Nat}
theorem is_below_ok {x w : Nat} (hx : x < n) (hw : w < n) : F_is_below [tabT n f, .int (Int.ofNat x), .int (Int.ofNat w)] = some (.bl (decide (f x w = w)), 9) := by
  unfold F_is_below d_is_below
  simp [-Int.ofNat_eq_natCast, at_tabT hx, at_rowT hw, dEq_nat]
theorem below_ok (hn : n ≤ 1000) {w : Nat} (hw : w < n) : F_below [tabT n f, .int (Int.ofNat w)] = some (.lst (nums ((List.range n).filter fun x => decide (f x w = w))), 1) := by
  unfold F_below d_below
  refine fnD_rt (sRet_eq (eComp_eq (deep := false) (ρ2 := [some (tabT n f, 9), some (.int (Int.ofNat w), 9)]) (rng_len hn rfl len_tabT) ?_))
  refine comp1 (i := 2) (ρ := [some (tabT n f, 9), some (.int (Int.ofNat w), 9)]) (deep := false) rfl (fun x => decide (f x w = w)) (fun x => .int (Int.ofNat x)) (fun _ => 9) (fun j hj => ?_) (fun j hj _ => ?_)
  · simp [-Int.ofNat_eq_natCast, is_below_ok hj hw]
  · simp [-Int.ofNat_eq_natCast]
end
end My
set_option Elab.async false
set_option linter.all false
set_option maxRecDepth 100000
set_option maxHeartbeats 1000000
namespace My
open PySem PySem.Spec PyProof.Rows L2 L3
section
variable {n : Nat} {f : Nat → Nat → Nat}
theorem under_ok (hn : n ≤ 1000) {w : Nat} (hw : w < n) : F__law_under [tabT n f, .int (Int.ofNat w)] = some (.lst (nums ((List.range n).filter fun x => decide (f x w = w))), 1) := by
  unfold F__law_under d__law_under
  refine fnD_rt (sRet_eq (eComp_eq (deep := false) (ρ2 := [some (tabT n f, 9), some (.int (Int.ofNat w), 9)]) (rng_len hn rfl len_tabT) ?_))
  refine comp1 (i := 2) (ρ := [some (tabT n f, 9), some (.int (Int.ofNat w), 9)]) (deep := false) rfl (fun x => decide (f x w = w)) (fun x => .int (Int.ofNat x)) (fun _ => 9) (fun j hj => ?_) (fun j hj _ => ?_)
  · simp [-Int.ofNat_eq_natCast, at_tabT hj, at_rowT hw, dEq_nat]
  · simp [-Int.ofNat_eq_natCast]
variable (L : Lad n f) {z : Nat} (hz : z < n) (bz : ∀ j, j < n → f z j = j)
include L hz bz
theorem row_z {w : Nat} (hw : w < n) : decide ((List.range n).map (fun j => f w j) = List.range n) = decide (w = z) := by
  rw [decide_eq_decide, map_range_id]
  exact ⟨fun h => L.bot_uniq hz bz hw h, fun h => by subst h; exact bz⟩
theorem low_ok (hn : n ≤ 1000) : F__law_low [tabT n f] = some (.int (Int.ofNat z), 9) := by
  unfold F__law_low d__law_low
  refine fnD_rt (sRet_eq (ρ1 := [some (tabT n f, 9)]) ?_)
  have hc : eComp 1 (iRange (aCons (eLenV 0) (aNil))) (pName 1) (tOfB (e2 dEq (eListOf (aCons (eIxV 0 (eVar 1)) (aNil))) (eListR (aCons (eLenV 0) (aNil))))) (eVar 1) false (startD 1 [tabT n f]) = some (.lst (nums [z]), 1, [some (tabT n f, 9)]) := by
    refine (eComp_eq (deep := false) (ρ2 := [some (tabT n f, 9)]) (rng_len hn rfl len_tabT) (comp1 rfl (fun x => decide (x = z)) (fun x => .int (Int.ofNat x)) (fun _ => 9) (fun j hj => ?_) (fun j hj _ => ?_))).trans ?_
    · have e1 : eListOf (aCons (eIxV 0 (eVar 1)) aNil) ([some (tabT n f, 9)] ++ [some (.int (Int.ofNat j), 9)]) = some (.lst (nums ((List.range n).map fun k => f j k)), 1, [some (tabT n f, 9), some (.int (Int.ofNat j), 9)]) := by
        simp [-Int.ofNat_eq_natCast, at_tabT hj, rowT]
      have e2' : eListR (aCons (eLenV 0) aNil) [some (tabT n f, 9), some (.int (Int.ofNat j), 9)] = some (.lst (nums (List.range n)), 1, [some (tabT n f, 9), some (.int (Int.ofNat j), 9)]) := eListR_eq (rng_len hn rfl len_tabT)
      unfold tOfB e2
      rw [e1]
      simp only [e2', dEq_L, row_z L hz bz hj]
      rfl
    · simp [-Int.ofNat_eq_natCast]
    · rw [filter_one, if_pos hz]
      rfl
  unfold eIx
  rw [hc]
  simp [-Int.ofNat_eq_natCast, atD, nums, L2.atI, ixN]
theorem join_ok (hn : n ≤ 1000) {l : List Nat} (hl : l.length ≤ 1000) (hm : ∀ x ∈ l, x < n) : F__law_join [tabT n f, .lst (nums l)] = some (.int (Int.ofNat (l.foldl f z)), 9) := by
  unfold F__law_join d__law_join
  refine fnD_rt ?_
  refine (sSeq_nx (ρ1 := [some (tabT n f, 9), some (.lst (nums l), 0), some (.int (Int.ofNat z), 9), none]) ?_).trans ?_
  · simp [-Int.ofNat_eq_natCast, low_ok L hz bz hn]
  obtain ⟨ρ', e, y, rfl⟩ := forD_rel (pt := pName 3) (body := sSet 2 (eIx (eIxV 0 (eVar 2)) (eVar 3))) (nums l) (fun i ρ => ∃ y, ρ = [some (tabT n f, 9), some (.lst (nums l), 0), some (.int (Int.ofNat ((l.take i).foldl f z)), 9), y]) [some (tabT n f, 9), some (.lst (nums l), 0), some (.int (Int.ofNat z), 9), none] (fun i hi ρ hh0 => by
    obtain ⟨y, hy⟩ := hh0
    subst hy
    have hi' : i < l.length := by rw [nums_len] at hi; exact hi
    have hg : (nums l)[i] = .int (Int.ofNat l[i]) := by simp [nums]
    have hx : l[i] < n := hm _ (List.getElem_mem hi')
    have ha : (l.take i).foldl f z < n := L.fold_lt hz fun x m => hm x (List.mem_of_mem_take m)
    refine ⟨[some (tabT n f, 9), some (.lst (nums l), 0), some (.int (Int.ofNat ((l.take i).foldl f z)), 9), some (.int (Int.ofNat l[i]), 9)], [some (tabT n f, 9), some (.lst (nums l), 0), some (.int (Int.ofNat ((l.take (i + 1)).foldl f z)), 9), some (.int (Int.ofNat l[i]), 9)], ?_, .inl ?_, ⟨_, rfl⟩⟩
    · rw [hg]; simp
    · rw [List.take_succ_eq_append_getElem hi', List.foldl_append]
      simp [-Int.ofNat_eq_natCast, at_tabT ha, at_rowT hx]) ⟨none, rfl⟩
  rw [nums_len, List.take_length] at e
  refine (sSeq_nx ((sFor_eq (ds := nums l) (ρ1 := [some (tabT n f, 9), some (.lst (nums l), 0), some (.int (Int.ofNat z), 9), none]) ?_).trans e)).trans ?_
  · simp [nums_len, hl]
  · simp [-Int.ofNat_eq_natCast]
end
end My
set_option Elab.async false
set_option linter.all false
set_option maxRecDepth 100000
set_option maxHeartbeats 1000000
namespace My
open PySem PySem.Spec PyProof.Rows L2 L3
section
variable {n : Nat} {f : Nat → Nat → Nat}
variable (L : Lad n f) {z : Nat} (hz : z < n) (bz : ∀ j, j < n → f z j = j)
include L hz bz
theorem least_ok (hn : n ≤ 1000) : F_least_of [tabT n f] = some (.int (Int.ofNat z), 9) := by
  have b1 : (-1000 : Int) ≤ Int.ofNat n := by show (-1000 : Int) ≤ n; omega
  have b2 : Int.ofNat n ≤ 1000 := by show (n : Int) ≤ 1000; omega
  have hr : F_row_of_least [.int (Int.ofNat n)] = some (.tup (nums (List.range n)), 9) := by
    unfold F_row_of_least d_row_of_least
    simp [-Int.ofNat_eq_natCast, b1, b2]
    rfl
  have hi : ixOf (.tup (nums (List.range n))) ((List.range n).map fun i => rowT n f i) = some z := by
    unfold ixOf
    rw [toPs_map, List.map_map]
    have ev : ∀ i, i < n → PyData.eqv (toP (rowT n f i)) (toP (.tup (nums (List.range n)))) = decide (i = z) := fun i hi => (eqD_T _ _).trans (row_z L hz bz hi)
    refine findIdx_first (x := toP (rowT n f z)) ?_ ?_ ?_
    · rw [List.getElem?_map, List.getElem?_range hz]; rfl
    · rw [ev z hz]; simp
    · intro i y hi hy
      have hi' : i < n := Nat.lt_trans hi hz
      rw [List.getElem?_map, List.getElem?_range hi'] at hy
      cases hy
      refine (ev i hi').trans ?_
      simp; omega
  have h1 : okD (.tup ((List.range n).map fun i => rowT n f i)) = true := (sh_tabT n f).ok
  have h2 : okD (.tup (nums (List.range n))) = true := (sh_T _).ok
  have hl : lenD (.tup ((List.range n).map fun i => rowT n f i)) = some n := len_tabT (f := f)
  unfold F_least_of d_least_of tabT
  simp [-Int.ofNat_eq_natCast, hr, hl, h1, h2, hi]
theorem joined_ok (hn : n ≤ 1000) {l : List Nat} (hl : l.length ≤ 1000) (hm : ∀ x ∈ l, x < n) : F_joined_all [tabT n f, .lst (nums l)] = some (.int (Int.ofNat (l.foldl f z)), 9) := by
  unfold F_joined_all d_joined_all
  refine fnD_rt ?_
  refine (sSeq_nx (ρ1 := [some (tabT n f, 9), some (.lst (nums l), 0), some (.int (Int.ofNat z), 9), none]) ?_).trans ?_
  · simp [-Int.ofNat_eq_natCast, least_ok L hz bz hn]
  obtain ⟨ρ', e, y, rfl⟩ := forD_rel (pt := pName 3) (body := sSet 2 (eIx (eIxV 0 (eVar 2)) (eVar 3))) (nums l) (fun i ρ => ∃ y, ρ = [some (tabT n f, 9), some (.lst (nums l), 0), some (.int (Int.ofNat ((l.take i).foldl f z)), 9), y]) [some (tabT n f, 9), some (.lst (nums l), 0), some (.int (Int.ofNat z), 9), none] (fun i hi ρ hh0 => by
    obtain ⟨y, hy⟩ := hh0
    subst hy
    have hi' : i < l.length := by rw [nums_len] at hi; exact hi
    have hg : (nums l)[i] = .int (Int.ofNat l[i]) := by simp [nums]
    have hx : l[i] < n := hm _ (List.getElem_mem hi')
    have ha : (l.take i).foldl f z < n := L.fold_lt hz fun x m => hm x (List.mem_of_mem_take m)
    refine ⟨[some (tabT n f, 9), some (.lst (nums l), 0), some (.int (Int.ofNat ((l.take i).foldl f z)), 9), some (.int (Int.ofNat l[i]), 9)], [some (tabT n f, 9), some (.lst (nums l), 0), some (.int (Int.ofNat ((l.take (i + 1)).foldl f z)), 9), some (.int (Int.ofNat l[i]), 9)], ?_, .inl ?_, ⟨_, rfl⟩⟩
    · rw [hg]; simp
    · rw [List.take_succ_eq_append_getElem hi', List.foldl_append]
      simp [-Int.ofNat_eq_natCast, at_tabT ha, at_rowT hx]) ⟨none, rfl⟩
  rw [nums_len, List.take_length] at e
  refine (sSeq_nx ((sFor_eq (ds := nums l) (ρ1 := [some (tabT n f, 9), some (.lst (nums l), 0), some (.int (Int.ofNat z), 9), none]) ?_).trans e)).trans ?_
  · simp [nums_len, hl]
  · simp [-Int.ofNat_eq_natCast]
end
end My
set_option Elab.async false
set_option linter.all false
set_option maxRecDepth 100000
set_option maxHeartbeats 1000000
namespace My
open PySem PySem.Spec PyProof.Rows L2 L3
section
variable {n : Nat} {f : Nat → Nat → Nat}
variable (L : Lad n f) {z : Nat} (hz : z < n) (bz : ∀ j, j < n → f z j = j)
include L hz bz
theorem greatest_ok (hn : n ≤ 1000) : F_greatest_of [tabT n f] = some (.int (Int.ofNat ((List.range n).foldl f z)), 9) := by
  unfold F_greatest_of d_greatest_of
  refine fnD_rt (sRet_eq (ρ1 := [some (tabT n f, 9)]) (eCall_eq (ds := [tabT n f, .lst (nums (List.range n))]) (aCons_eq (q := 9) (ρ1 := [some (tabT n f, 9)]) rfl (aCons_1 (eListR_eq (rng_len hn rfl len_tabT)))) rfl (joined_ok L hz bz hn (by simpa using hn) fun x m => List.mem_range.mp m)))
end
end My
set_option Elab.async false
set_option linter.all false
set_option maxRecDepth 100000
set_option maxHeartbeats 1000000
namespace My
open PySem PySem.Spec PyProof.Rows L2 L3
theorem inD_nums (v : Nat) (l : List Nat) : inD (.int (Int.ofNat v)) (.lst (nums l)) = some (decide (v ∈ l)) := by
  show some ((toPs (nums l)).any fun y => PyData.eqv y (toP (.int (Int.ofNat v)))) = _
  congr 1
  induction l with
  | nil => rfl
  | cons a l ih =>
    have h1 : (toPs (nums (a :: l))) = toP (.int (Int.ofNat a)) :: toPs (nums l) := rfl
    rw [h1, List.any_cons, ih]
    have h2 : PyData.eqv (toP (.int (Int.ofNat a))) (toP (.int (Int.ofNat v))) = decide (a = v) := eqD_nat a v
    rw [h2]
    by_cases h : a = v
    · simp [h]
    · have h' : ¬ v = a := fun q => h q.symm
      simp [h, h']
theorem dIn_numsU (v : Nat) (l : List Nat) : dIn (.int (Int.ofNat v)) (.lst (nums l)) = some (.bl (decide (v ∈ l))) := by
  unfold dIn
  rw [if_pos ⟨(Sh.int (k := 0) _).ok, (sh_L l).ok⟩, inD_nums]
  rfl
theorem set_self {i : Nat} {ρ : Rho} {x : D × Nat} (h : ρ[i]? = some (some x)) : ρ.set i (some x) = ρ := by
  apply List.ext_getElem?
  intro k
  by_cases hk : i = k
  · subst hk
    rw [h, List.getElem?_set_self (List.getElem?_eq_some_iff.mp h).1]
  · rw [List.getElem?_set_ne hk]
theorem eVar_lst {i q : Nat} {ρ : Rho} {ds : List D} (h : ρ[i]? = some (some (.lst ds, q))) : eVar i ρ = some (.lst ds, 0, ρ.set i (some (.lst ds, 0))) := by
  unfold eVar
  rw [h]
  by_cases hq : q = 0
  · subst hq
    rw [set_self h]
    rfl
  · simp [hq]
theorem tOr_f {g h : DenT} {ρ ρ1 : Rho} (e : g ρ = some (false, ρ1)) : tOrD g h ρ = h ρ1 := by unfold tOrD; rw [e]; rfl
end My
set_option Elab.async false
set_option linter.all false
set_option maxRecDepth 100000
set_option maxHeartbeats 1000000
namespace My
open PySem PySem.Spec PyProof.Rows L2 L3
theorem forD_app {α J : Type} {pt : DenP} {body : DenS} (enc : α → D) (S : List D → J → Rho) (v : α → D) : ∀ (l : List α) (acc : List D) (j : J), acc.length + l.length ≤ 1000 →
    (∀ a ∈ l, ∀ ds j, ds.length ≤ 1000 → ∃ ρ1 j', pt (enc a) (S ds j) = some ρ1 ∧ body ρ1 = some (.nx (S (ds ++ [v a]) j'))) → ∃ j', forD pt body (l.map enc) (S acc j) = some (.nx (S (acc ++ l.map v) j'))
  | [], acc, j, _, _ => ⟨j, by rw [List.map_nil, List.map_nil, List.append_nil]; rfl⟩
  | a :: l, acc, j, hl, h => by
    rw [List.length_cons] at hl
    obtain ⟨ρ1, j1, h1, h2⟩ := h a List.mem_cons_self acc j (by omega)
    obtain ⟨j2, e⟩ := forD_app enc S v l (acc ++ [v a]) j1 (by rw [List.length_append]; show _ + 1 + _ ≤ 1000; omega) fun b hb => h b (List.mem_cons_of_mem _ hb)
    refine ⟨j2, ?_⟩
    rw [List.map_cons, forD_nx h1 h2, e, List.append_assoc]
    rfl
end My
set_option Elab.async false
set_option linter.all false
set_option maxRecDepth 100000
set_option maxHeartbeats 1000000
namespace My
open PySem PySem.Spec PyProof.Rows L2 L3
noncomputable def mt (n : Nat) (f : Nat → Nat → Nat) (z a b : Nat) : Nat := (((List.range n).filter fun x => decide (f x a = a)).filter fun x => decide (f x b = b)).foldl f z
section
variable {n : Nat} {f : Nat → Nat → Nat}
variable (L : Lad n f) {z : Nat} (hz : z < n) (bz : ∀ j, j < n → f z j = j)
theorem mt_mem {a b x : Nat} : x ∈ ((List.range n).filter fun x => decide (f x a = a)).filter (fun x => decide (f x b = b)) ↔ x < n ∧ f x a = a ∧ f x b = b := by
  simp only [List.mem_filter, List.mem_range, decide_eq_true_eq, and_assoc]
include L hz bz
theorem mt_lt (a b : Nat) : mt n f z a b < n := L.fold_lt hz fun x m => (mt_mem.mp m).1
theorem mt_l {a : Nat} (b : Nat) (ha : a < n) : f (mt n f z a b) a = a := L.sup_least hz bz ha (fun x m => (mt_mem.mp m).1) fun x m => (mt_mem.mp m).2.1
theorem mt_r (a : Nat) {b : Nat} (hb : b < n) : f (mt n f z a b) b = b := L.sup_least hz bz hb (fun x m => (mt_mem.mp m).1) fun x m => (mt_mem.mp m).2.2
theorem mt_gr {a b c : Nat} (hc : c < n) (h1 : f c a = a) (h2 : f c b = b) : f c (mt n f z a b) = mt n f z a b := L.fold_mem hz (fun x m => (mt_mem.mp m).1) (mt_mem.mpr ⟨hc, h1, h2⟩)
theorem mt_eq {a b m : Nat} (ha : a < n) (hb : b < n) (hm : m < n) (h1 : f m a = a) (h2 : f m b = b) (h3 : ∀ c, c < n → f c a = a → f c b = b → f c m = m) : mt n f z a b = m :=
  L.le_anti (mt_lt L hz bz a b) hm (h3 _ (mt_lt L hz bz a b) (mt_l L hz bz b ha) (mt_r L hz bz a hb)) (mt_gr L hz bz hm h1 h2)
theorem mt_comm {a b : Nat} (ha : a < n) (hb : b < n) : mt n f z a b = mt n f z b a :=
  mt_eq L hz bz ha hb (mt_lt L hz bz b a) (mt_r L hz bz b ha) (mt_l L hz bz a hb) fun c hc h1 h2 => mt_gr L hz bz hc h2 h1
theorem mt_idem {a : Nat} (ha : a < n) : mt n f z a a = a := mt_eq L hz bz ha ha ha (L.idem a ha) (L.idem a ha) fun c hc h1 _ => h1
theorem mt_assoc {a b c : Nat} (ha : a < n) (hb : b < n) (hc : c < n) : mt n f z (mt n f z a b) c = mt n f z a (mt n f z b c) := by
  have h1 := mt_lt L hz bz a b
  have h2 := mt_lt L hz bz b c
  have h3 := mt_lt L hz bz a (mt n f z b c)
  have u1 : f (mt n f z a (mt n f z b c)) b = b := L.le_trans h3 h2 hb (mt_r L hz bz a h2) (mt_l L hz bz c hb)
  have u2 : f (mt n f z a (mt n f z b c)) c = c := L.le_trans h3 h2 hc (mt_r L hz bz a h2) (mt_r L hz bz b hc)
  refine mt_eq L hz bz h1 hc h3 (mt_gr L hz bz h3 (mt_l L hz bz _ ha) u1) u2 fun d hd k1 k2 => ?_
  exact mt_gr L hz bz hd (L.le_trans hd h1 ha k1 (mt_l L hz bz b ha)) (mt_gr L hz bz hd (L.le_trans hd h1 hb k1 (mt_r L hz bz a hb)) k2)
theorem mt_le {a b : Nat} (ha : a < n) (hb : b < n) : mt n f z a b = b ↔ f b a = a :=
  ⟨fun e => by have := mt_l L hz bz b ha; rw [e] at this; exact this, fun e => mt_eq L hz bz ha hb hb e (L.idem b hb) fun c hc _ h => h⟩
theorem mt_lad : Lad n (mt n f z) := by
  refine ⟨L.lo, L.hi, fun i j _ _ => mt_lt L hz bz i j, fun i hi => mt_idem L hz bz hi, fun i j hi hj => mt_comm L hz bz hi hj, fun i j k hi hj hk => mt_assoc L hz bz hi hj hk, (List.range n).foldl f z, L.fold_lt hz fun x m => List.mem_range.mp m, fun j hj => ?_⟩
  have ht : (List.range n).foldl f z < n := L.fold_lt hz fun x m => List.mem_range.mp m
  exact (mt_le L hz bz ht hj).mpr (((L.top_uniq hz _ ht).mpr rfl) j hj)
theorem top_lt : (List.range n).foldl f z < n := L.fold_lt hz fun x m => List.mem_range.mp m
theorem top_bot {j : Nat} (hj : j < n) : mt n f z ((List.range n).foldl f z) j = j := (mt_le L hz bz (top_lt L hz bz) hj).mpr (((L.top_uniq hz _ (top_lt L hz bz)).mpr rfl) j hj)
theorem bot_top : (List.range n).foldl (mt n f z) ((List.range n).foldl f z) = z := by
  refine (((mt_lad L hz bz).top_uniq (top_lt L hz bz) z hz).mp fun x hx => ?_).symm
  exact (mt_le L hz bz hx hz).mpr (bz x hx)
theorem met_ok (hn : n ≤ 1000) {a b : Nat} (ha : a < n) (hb : b < n) : F_met [tabT n f, .int (Int.ofNat a), .int (Int.ofNat b)] = some (.int (Int.ofNat (mt n f z a b)), 9) := by
  unfold F_met d_met
  refine fnD_rt (sRet_eq (ρ1 := [some (tabT n f, 9), some (.int (Int.ofNat a), 9), some (.int (Int.ofNat b), 9)]) (eCall_eq (ds := [tabT n f, .lst (nums (((List.range n).filter fun x => decide (f x a = a)).filter fun x => decide (f x b = b)))]) (aCons_eq (q := 9) (ρ1 := [some (tabT n f, 9), some (.int (Int.ofNat a), 9), some (.int (Int.ofNat b), 9)]) rfl (aCons_1 (eComp_eq (deep := false) (ds := nums ((List.range n).filter fun x => decide (f x a = a))) (ρ1 := [some (tabT n f, 9), some (.int (Int.ofNat a), 9), some (.int (Int.ofNat b), 9)]) ?_ (compLt (i := 3) (deep := false) ((List.range n).filter fun x => decide (f x a = a)) rfl (fun x => decide (f x b = b)) (fun x => .int (Int.ofNat x)) (fun _ => 9) (fun x hx => ?_) (fun x hx _ => rfl))))) rfl (joined_ok L hz bz hn ?_ fun x m => (mt_mem.mp m).1)))
  · have hl : ((List.range n).filter fun x => decide (f x a = a)).length ≤ 1000 := Nat.le_trans (List.length_filter_le _ _) (by simpa using hn)
    simp [-Int.ofNat_eq_natCast, below_ok hn ha, nums_len, hl]
  · have hx' : x < n := by simp at hx; exact hx.1
    simp [-Int.ofNat_eq_natCast, is_below_ok hx' hb]
  · exact Nat.le_trans (List.length_filter_le _ _) (Nat.le_trans (List.length_filter_le _ _) (by simpa using hn))
end
end My
set_option Elab.async false
set_option linter.all false
set_option maxRecDepth 100000
set_option maxHeartbeats 1000000
namespace My
open PySem PySem.Spec PyProof.Rows L2 L3
theorem rng_int {n : Nat} (hn : n ≤ 1000) {i q : Nat} {ρ : Rho} (h : ρ[i]? = some (some (.int (Int.ofNat n), q))) : iRange (aCons (eVar i) aNil) ρ = some (rangeD n, ρ) := by
  have b1 : (-1000 : Int) ≤ Int.ofNat n := by show (-1000 : Int) ≤ n; omega
  have b2 : Int.ofNat n ≤ 1000 := by show (n : Int) ≤ 1000; omega
  simp [-Int.ofNat_eq_natCast, h, b1, b2]
  rfl
theorem eCallO_eq {ob : D} {G : List D → Option (D × Nat)} {i n : Nat} {g : DenA} {ρ ρ1 : Rho} {ds : List D} {d : D} {q : Nat} (ho : ρ[i]? = some (some (ob, 9))) (h : g ρ = some (ds, ρ1)) (hl : ds.length = n) (hG : G ds = some (d, q)) : eCallO ob G i n g ρ = some (d, q, ρ1) := by
  unfold eCallO
  rw [if_pos ho]
  exact eCall_eq h hl hG
theorem table_ok {n : Nat} (hn : n ≤ 1000) {ob : D} (hb : ob.isL = false) {G : List D → Option (D × Nat)} {g : Nat → Nat → Nat} (hG : ∀ x y, x < n → y < n → G [.int (Int.ofNat x), .int (Int.ofNat y)] = some (.int (Int.ofNat (g x y)), 9)) :
    F_table_of ob G [.int (Int.ofNat n), ob] = some (tabT n g, 9) := by
  unfold F_table_of d_table_of
  have s0 : startD 4 [.int (Int.ofNat n), ob] = [some (.int (Int.ofNat n), 9), some (ob, 9), none, none] := by simp [hb]
  refine fnD_rt ?_
  rw [s0]
  refine (sSeq_nx (ρ1 := [some (.int (Int.ofNat n), 9), some (ob, 9), some (.lst [], 1), none]) rfl).trans ?_
  obtain ⟨j', e⟩ := forD_app (α := Nat) (J := Option (D × Nat)) (pt := pName 3) (body := b1_table_of ob G) (fun x => D.int (Int.ofNat x)) (fun ds j => [some (.int (Int.ofNat n), 9), some (ob, 9), some (.lst ds, 1), j]) (fun x => rowT n g x) (List.range n) [] none (by simpa using hn) (fun x hx ds j hds => by
    have hx' : x < n := List.mem_range.mp hx
    refine ⟨[some (.int (Int.ofNat n), 9), some (ob, 9), some (.lst ds, 1), some (.int (Int.ofNat x), 9)], some (.int (Int.ofNat x), 9), rfl, ?_⟩
    refine sApp_eq (ρ1 := [some (.int (Int.ofNat n), 9), some (ob, 9), some (.lst ds, 1), some (.int (Int.ofNat x), 9)]) rfl (aCons_1 (eTupOf_lst (aCons_1 (eComp_eq (deep := false) (ds := rangeD n) (ρ1 := [some (.int (Int.ofNat n), 9), some (ob, 9), some (.lst ds, 1), some (.int (Int.ofNat x), 9)]) (rng_int hn rfl) (comp1 (i := 4) (deep := false) rfl (fun _ => true) (fun y => .int (Int.ofNat (g x y))) (fun _ => 9) (fun j hj => rfl) (fun y hy _ => eCallO_eq rfl rfl rfl (hG x y hx' hy))))))) rfl hds ?_
    have e1 : (List.range n).filter (fun _ => true) = List.range n := by simp
    have e2 : (List.range n).map (fun y => D.int (Int.ofNat (g x y))) = nums ((List.range n).map fun y => g x y) := by unfold nums; rw [List.map_map]; rfl
    rw [e1, e2]
    rfl)
  refine (sSeq_nx ((sFor_eq (ds := rangeD n) (ρ1 := [some (.int (Int.ofNat n), 9), some (ob, 9), some (.lst [], 1), none]) (rng_int hn rfl)).trans e)).trans ?_
  refine sRet_eq (eTupOf_lst (aCons_1 (q := 0) (d := .lst ([] ++ (List.range n).map fun x => rowT n g x)) (ρ1 := [some (.int (Int.ofNat n), 9), some (ob, 9), some (.lst ([] ++ (List.range n).map fun x => rowT n g x), 0), j']) rfl))
end My
set_option Elab.async false
set_option linter.all false
set_option maxRecDepth 100000
set_option maxHeartbeats 1000000
namespace My
open PySem PySem.Spec PyProof.Rows L2 L3
section
variable {n : Nat} {f : Nat → Nat → Nat}
variable (L : Lad n f) {z : Nat} (hz : z < n) (bz : ∀ j, j < n → f z j = j)
include L hz bz
theorem turned_ok (hn : n ≤ 1000) : F_turned [tabT n f] = some (tabT n (mt n f z), 9) := by
  have hG : ∀ x y, x < n → y < n → lamD l_turned [tabT n f] [.int (Int.ofNat x), .int (Int.ofNat y)] = some (.int (Int.ofNat (mt n f z x y)), 9) := fun x y hx hy => by
    have e : l_turned (startD 3 [.int (Int.ofNat x), .int (Int.ofNat y), tabT n f]) = some (.int (Int.ofNat (mt n f z x y)), 9, startD 3 [.int (Int.ofNat x), .int (Int.ofNat y), tabT n f]) := eCall_eq (ds := [tabT n f, .int (Int.ofNat x), .int (Int.ofNat y)]) rfl rfl (met_ok L hz bz hn hx hy)
    unfold lamD
    show (match l_turned (startD 3 [.int (Int.ofNat x), .int (Int.ofNat y), tabT n f]) with | some (d, q, _) => some (d, q) | none => none) = _
    rw [e]
  have hT : ∀ ob : D, ob.isL = false → F_table_of ob (lamD l_turned [tabT n f]) [.int (Int.ofNat n), ob] = some (tabT n (mt n f z), 9) := fun ob hb => table_ok hn hb hG
  unfold F_turned d_turned
  refine fnD_rt (sRet_eq (ρ1 := [some (tabT n f, 9)]) ?_)
  have e1 : eLenV 0 [some (tabT n f, 9)] = some (.int (Int.ofNat n), 9, [some (tabT n f, 9)]) := by simp [-Int.ofNat_eq_natCast, len_tabT]
  have e2 : capD [0] [some (tabT n f, 9)] = some [tabT n f] := rfl
  show eTab F_table_of l_turned [0] (eLenV 0) [some (tabT n f, 9)] = _
  unfold eTab
  simp only [e1, e2]
  rw [if_pos (fun fa fo vs => (hT _ rfl).trans (hT (ob0 [tabT n f]) rfl).symm), hT (ob0 [tabT n f]) rfl]
end
end My
set_option Elab.async false
set_option linter.all false
set_option maxRecDepth 100000
set_option maxHeartbeats 1000000
namespace My
open PySem PySem.Spec PyProof.Rows L2 L3
theorem filter_lt {α : Type} {p q : α → Bool} : ∀ {l : List α}, (∀ a ∈ l, p a = true → q a = true) → (∃ a ∈ l, q a = true ∧ p a = false) → (l.filter p).length < (l.filter q).length
  | [], _, h => by obtain ⟨a, ha, _⟩ := h; cases ha
  | b :: l, h1, h2 => by
    have le : (l.filter p).length ≤ (l.filter q).length := by
      have h1' : ∀ a ∈ l, p a = true → q a = true := fun a m => h1 a (List.mem_cons_of_mem _ m)
      clear h1 h2
      induction l with
      | nil => exact Nat.le_refl _
      | cons c l ih =>
        have ih' := ih fun a m => h1' a (List.mem_cons_of_mem _ m)
        rw [List.filter_cons, List.filter_cons]
        cases hp : p c with
        | true => rw [h1' c List.mem_cons_self hp]; simpa using ih'
        | false => cases q c <;> simp <;> omega
    obtain ⟨a, ha, hq, hp⟩ := h2
    rw [List.filter_cons, List.filter_cons]
    rcases List.mem_cons.mp ha with rfl | ha
    · rw [hq, hp]
      simp
      omega
    · have ih := filter_lt (fun a m => h1 a (List.mem_cons_of_mem _ m)) ⟨a, ha, hq, hp⟩
      cases hpb : p b with
      | true => rw [h1 b List.mem_cons_self hpb]; simpa using ih
      | false => cases q b <;> simp <;> omega
noncomputable def cb (n : Nat) (f : Nat → Nat → Nat) (w : Nat) : Nat := ((List.range n).filter fun x => decide (f x w = w)).length
noncomputable def tbw (n : Nat) (f : Nat → Nat → Nat) (w : Nat) : List Nat := ((List.range n).filter fun x => decide (f x w = w)).filter fun x => !decide (x = w)
theorem mem_tbw {n : Nat} {f : Nat → Nat → Nat} {w x : Nat} : x ∈ tbw n f w ↔ x < n ∧ f x w = w ∧ x ≠ w := by
  unfold tbw
  rw [List.mem_filter, List.mem_filter, List.mem_range]
  simp
  constructor
  · rintro ⟨⟨a, b⟩, c⟩; exact ⟨a, b, c⟩
  · rintro ⟨a, b, c⟩; exact ⟨⟨a, b⟩, c⟩
theorem tbw_len {n : Nat} {f : Nat → Nat → Nat} {w : Nat} : (tbw n f w).length ≤ n := by
  unfold tbw
  refine Nat.le_trans (List.length_filter_le _ _) (Nat.le_trans (List.length_filter_le _ _) ?_)
  rw [List.length_range]
  exact Nat.le_refl _
theorem truly_ok {n : Nat} {f : Nat → Nat → Nat} (hn : n ≤ 1000) {w : Nat} (hw : w < n) : F_truly_below [tabT n f, .int (Int.ofNat w)] = some (.lst (nums (tbw n f w)), 1) := by
  unfold F_truly_below d_truly_below
  have hit : iVal (eCall F_below 2 (aCons (eVar 0) (aCons (eVar 1) (aNil)))) [some (tabT n f, 9), some (.int (Int.ofNat w), 9)] = some (nums ((List.range n).filter fun x => decide (f x w = w)), [some (tabT n f, 9), some (.int (Int.ofNat w), 9)]) := by
    have e := eCall_eq (F := F_below) (n := 2) (g := aCons (eVar 0) (aCons (eVar 1) (aNil))) (ρ := [some (tabT n f, 9), some (.int (Int.ofNat w), 9)]) (ds := [tabT n f, .int (Int.ofNat w)]) rfl rfl (below_ok hn hw)
    unfold iVal
    rw [e]
    exact if_pos (by
      rw [nums_len]
      refine Nat.le_trans (List.length_filter_le _ _) ?_
      rw [List.length_range]; exact hn)
  exact fnD_rt (sRet_eq (eComp_eq (deep := false) hit (compLt (i := 2) _ rfl (fun x => !decide (x = w)) (fun x => .int (Int.ofNat x)) (fun _ => 9) (fun x hx => tOfB_eq (e2_eq (fa := eVar 2) (fb := eVar 1) (q := 9) (q' := 9) rfl rfl (dNe_nat x w))) (fun x hx _ => rfl))))
structure IsH (n : Nat) (f : Nat → Nat → Nat) (H : Nat → Nat) : Prop where
  up : ∀ x w, x < n → w < n → f x w = w → x ≠ w → H x + 1 ≤ H w
  at' : ∀ w, w < n → 0 < H w → ∃ x, x < n ∧ f x w = w ∧ x ≠ w ∧ H x + 1 = H w
theorem mx_ge : ∀ {l : List Nat} {a : Nat}, a ∈ l → a ≤ l.foldr max 0
  | b :: l, a, h => by
    rcases List.mem_cons.mp h with rfl | h
    · exact Nat.le_max_left _ _
    · exact Nat.le_trans (mx_ge h) (Nat.le_max_right _ _)
theorem mx_mem : ∀ {l : List Nat}, 0 < l.foldr max 0 → l.foldr max 0 ∈ l
  | [], h => absurd h (Nat.lt_irrefl _)
  | b :: l, h => by
    show max b (l.foldr max 0) ∈ b :: l
    by_cases hb : l.foldr max 0 ≤ b
    · rw [Nat.max_eq_left hb]; exact List.mem_cons_self
    · rw [Nat.max_eq_right (by omega)]
      exact List.mem_cons_of_mem _ (mx_mem (by omega))
section
variable {n : Nat} {f : Nat → Nat → Nat} (L : Lad n f)
include L
theorem cb_lt {x w : Nat} (hx : x < n) (hw : w < n) (h : f x w = w) (ne : x ≠ w) : cb n f x < cb n f w := by
  refine filter_lt (fun a ha hp => ?_) ⟨w, List.mem_range.mpr hw, decide_eq_true (L.idem w hw), decide_eq_false fun z => ne (L.le_anti hx hw h z)⟩
  exact decide_eq_true (L.le_trans (List.mem_range.mp ha) hx hw (of_decide_eq_true hp) h)
theorem cb_pos {w : Nat} (hw : w < n) : 0 < cb n f w := List.length_pos_iff.mpr (List.ne_nil_of_mem (List.mem_filter.mpr ⟨List.mem_range.mpr hw, decide_eq_true (L.idem w hw)⟩))
theorem ex_H (c : Nat) : ∃ H : Nat → Nat, ∀ w, w < n → cb n f w ≤ c → (∀ x, x < n → f x w = w → x ≠ w → H x + 1 ≤ H w) ∧ (0 < H w → ∃ x, x < n ∧ f x w = w ∧ x ≠ w ∧ H x + 1 = H w) := by
  induction c with
  | zero => exact ⟨fun _ => 0, fun w hw h => absurd (cb_pos L hw) (by omega)⟩
  | succ c ih =>
    obtain ⟨H, hH⟩ := ih
    refine ⟨fun w => if cb n f w ≤ c then H w else ((tbw n f w).map fun x => H x + 1).foldr max 0, fun w hw hc => ?_⟩
    have old : ∀ x, x < n → f x w = w → x ≠ w → (if cb n f x ≤ c then H x else ((tbw n f x).map fun x => H x + 1).foldr max 0) = H x := fun x hx h ne => if_pos (by have := cb_lt L hx hw h ne; omega)
    dsimp only
    by_cases hw' : cb n f w ≤ c
    · rw [if_pos hw']
      obtain ⟨h1, h2⟩ := hH w hw hw'
      refine ⟨fun x hx h ne => by rw [old x hx h ne]; exact h1 x hx h ne, fun p => ?_⟩
      obtain ⟨x, hx, h, ne, e⟩ := h2 p
      exact ⟨x, hx, h, ne, by rw [old x hx h ne]; exact e⟩
    · rw [if_neg hw']
      refine ⟨fun x hx h ne => by rw [old x hx h ne]; exact mx_ge (List.mem_map.mpr ⟨x, mem_tbw.mpr ⟨hx, h, ne⟩, rfl⟩), fun p => ?_⟩
      obtain ⟨x, hx, e⟩ := List.mem_map.mp (mx_mem p)
      obtain ⟨a, b, c'⟩ := mem_tbw.mp hx
      exact ⟨x, a, b, c', by rw [old x a b c']; exact e⟩
theorem has_H : ∃ H, IsH n f H := by
  obtain ⟨H, hH⟩ := ex_H L n
  have cn : ∀ w, cb n f w ≤ n := fun w => by
    have := List.length_filter_le (fun x => decide (f x w = w)) (List.range n)
    rw [List.length_range] at this
    exact this
  exact ⟨H, fun x w hx hw h ne => (hH w hw (cn w)).1 x hx h ne, fun w hw p => (hH w hw (cn w)).2 p⟩
end
theorem maxD_is {l : List Int} {M : Int} (h1 : ∀ a ∈ l, a ≤ M) (h2 : M ∈ l ∨ (l = [] ∧ M = 0)) : maxD 0 l = M := by
  cases l with
  | nil =>
    rcases h2 with h | h
    · cases h
    · rw [h.2]; rfl
  | cons k ks =>
    obtain ⟨a, b, c⟩ := maxI_ge ks k
    show maxI k ks = M
    rcases h2 with h | h
    · have le := h1 _ c
      rcases List.mem_cons.mp h with z | z
      · omega
      · have := b M z; omega
    · cases h.1
section
variable {n : Nat} {f : Nat → Nat → Nat} (L : Lad n f) {z : Nat} (hz : z < n) (bz : ∀ j, j < n → f z j = j)
include L hz bz
theorem height_ok {H : Nat → Nat} (hH : IsH n f H) : F_height_of [tabT n f] = some (.int (Int.ofNat (H ((List.range n).foldl f z))), 9) := by
  have hn : n ≤ 1000 := Nat.le_trans L.hi (by decide)
  have h16 := L.hi
  have mem : ∀ k ∈ rngI n, ∃ w : Nat, w < n ∧ k = Int.ofNat w := fun k hk => by
    obtain ⟨w, hw, rfl⟩ := List.mem_map.mp hk
    exact ⟨w, List.mem_range.mp hw, rfl⟩
  have hg : Hgt l_height_of F_truly_below F_greatest_of (tabT n f) (Int.ofNat (H ((List.range n).foldl f z))) := by
    refine ⟨rfl, n, fun k => Int.ofNat (cb n f k.toNat), fun k => (tbw n f k.toNat).map Int.ofNat, fun k => Int.ofNat (H k.toNat), Int.ofNat ((List.range n).foldl f z), len_tabT, by omega, ⟨rngI_nd n, by rw [List.length_map, List.length_range]; omega, fun k hk x hx => ?_⟩, fun k hk => ?_, fun k hk => ?_, ⟨9, greatest_ok L hz bz hn⟩, List.mem_map.mpr ⟨_, List.mem_range.mpr (top_lt L hz bz), rfl⟩, rfl⟩
    · obtain ⟨w, hw, rfl⟩ := mem k hk
      obtain ⟨y, hy, rfl⟩ := List.mem_map.mp hx
      obtain ⟨a, b, c⟩ := mem_tbw.mp hy
      refine ⟨List.mem_map.mpr ⟨y, List.mem_range.mpr a, rfl⟩, ?_⟩
      have := cb_lt L a hw b c
      show ((cb n f y : Nat) : Int) < ((cb n f w : Nat) : Int)
      omega
    · obtain ⟨w, hw, rfl⟩ := mem k hk
      have e : l_height_of (startD ([D.int (Int.ofNat w)] ++ [tabT n f]).length ([D.int (Int.ofNat w)] ++ [tabT n f])) = some (.int (Int.ofNat (cb n f w)), 9, [some (.int (Int.ofNat w), 9), some (tabT n f, 9)]) := by
        have e1 := eCall_eq (F := F_below) (n := 2) (g := aCons (eVar 1) (aCons (eVar 0) (aNil))) (ρ := [some (.int (Int.ofNat w), 9), some (tabT n f, 9)]) (ds := [tabT n f, .int (Int.ofNat w)]) rfl rfl (below_ok hn hw)
        have e2 : eB bLen (aCons (eCall F_below 2 (aCons (eVar 1) (aCons (eVar 0) (aNil)))) aNil) [some (.int (Int.ofNat w), 9), some (tabT n f, 9)] = some (.int (Int.ofNat (cb n f w)), 9, [some (.int (Int.ofNat w), 9), some (tabT n f, 9)]) := eB_eq (aCons_1 e1) (by
          show some (D.int (Int.ofNat (nums ((List.range n).filter fun x => decide (f x w = w))).length)) = _
          rw [nums_len]; rfl)
        exact e2
      unfold lamD
      rw [e]
      rfl
    · obtain ⟨w, hw, rfl⟩ := mem k hk
      refine ⟨⟨1, ?_⟩, ?_, ?_⟩
      · rw [truly_ok hn hw]
        show _ = some (D.lst (((tbw n f w).map Int.ofNat).map D.int), 1)
        rw [List.map_map]
        rfl
      · rw [List.length_map]
        exact Nat.le_trans tbw_len hn
      · refine (maxD_is (fun a ha => ?_) ?_).symm
        · obtain ⟨x, hx, rfl⟩ := List.mem_map.mp ha
          obtain ⟨y, hy, rfl⟩ := List.mem_map.mp hx
          obtain ⟨a, b, c⟩ := mem_tbw.mp hy
          have := hH.up y w a hw b c
          show ((H y : Nat) : Int) + 1 ≤ ((H w : Nat) : Int)
          omega
        · by_cases h0 : 0 < H w
          · obtain ⟨x, a, b, c, e⟩ := hH.at' w hw h0
            refine .inl (List.mem_map.mpr ⟨Int.ofNat x, List.mem_map.mpr ⟨x, mem_tbw.mpr ⟨a, b, c⟩, rfl⟩, ?_⟩)
            show ((H x : Nat) : Int) + 1 = ((H w : Nat) : Int)
            omega
          · refine .inr ⟨?_, by show ((H w : Nat) : Int) = 0; omega⟩
            have : tbw n f w = [] := List.eq_nil_iff_forall_not_mem.mpr fun x hx => by
              obtain ⟨a, b, c⟩ := mem_tbw.mp hx
              have := hH.up x w a hw b c
              omega
            show (((tbw n f w).map Int.ofNat).map _) = []
            rw [this]
            rfl
  unfold F_height_of
  refine fnD_rt ?_
  unfold d_height_of dHgt
  show (match Fhgt l_height_of F_truly_below F_greatest_of [tabT n f] with | some (d, q) => some (Out.rt d q) | none => none) = _
  rw [Fhgt_eq hg]
omit L hz bz in
noncomputable def crn (n : Nat) (f : Nat → Nat → Nat) (z w : Nat) : Bool := !decide ((tbw n f w).foldl f z = w)
theorem corners_ok : F_corners [tabT n f] = some (.lst (nums ((List.range n).filter (crn n f z))), 1) := by
  have hn : n ≤ 1000 := Nat.le_trans L.hi (by decide)
  unfold F_corners d_corners
  refine fnD_rt (sRet_eq (eComp_eq (deep := false) (rng_len hn (i := 0) (ρ := [some (tabT n f, 9)]) rfl len_tabT) (comp1 (i := 1) rfl (crn n f z) (fun x => .int (Int.ofNat x)) (fun _ => 9) (fun j hj => ?_) (fun j hj _ => rfl))))
  refine tOfB_eq (e2_eq (fb := eVar 1) (q' := 9) (eCall_eq (ds := [tabT n f, .lst (nums (tbw n f j))]) (aCons_eq (f := eVar 0) (q := 9) rfl (aCons_1 (eCall_eq (ds := [tabT n f, .int (Int.ofNat j)]) rfl rfl (truly_ok hn hj)))) rfl (joined_ok L hz bz hn (Nat.le_trans tbw_len hn) fun x hx => (mem_tbw.mp hx).1)) rfl (dNe_nat _ _))
theorem crn_iff {w : Nat} (hw : w < n) : crn n f z w = false ↔ ∀ u, u < n → (∀ x, x < n → f x w = w → x ≠ w → f x u = u) → f w u = u := by
  have jl : (tbw n f w).foldl f z < n := L.fold_lt hz fun x hx => (mem_tbw.mp hx).1
  have jw : f ((tbw n f w).foldl f z) w = w := L.sup_least hz bz hw (fun x hx => (mem_tbw.mp hx).1) fun x hx => (mem_tbw.mp hx).2.1
  have jm : ∀ x, x < n → f x w = w → x ≠ w → f x ((tbw n f w).foldl f z) = (tbw n f w).foldl f z := fun x a b c => L.fold_mem hz (fun x hx => (mem_tbw.mp hx).1) (mem_tbw.mpr ⟨a, b, c⟩)
  unfold crn
  rw [Bool.not_eq_false', decide_eq_true_eq]
  constructor
  · intro e u hu h
    have := L.sup_least hz bz hu (fun x hx => (mem_tbw.mp hx).1) (fun x hx => h x (mem_tbw.mp hx).1 (mem_tbw.mp hx).2.1 (mem_tbw.mp hx).2.2)
    rw [e] at this
    exact this
  · intro h
    exact L.le_anti jl hw jw (h _ jl jm)
end
end My
set_option Elab.async false
set_option linter.all false
set_option maxRecDepth 100000
set_option maxHeartbeats 1000000
namespace My
open PySem PySem.Spec PyProof.Rows L2 L3
noncomputable def Ch (n : Nat) (R : Nat → Nat → Prop) : Nat → Nat → Nat → Prop
  | 0, a, b => a = b
  | k + 1, a, b => ∃ c, c < n ∧ R a c ∧ Ch n R k c b
theorem Ch.snoc {n : Nat} {R : Nat → Nat → Prop} {c : Nat} (hc : c < n) : ∀ {k a b : Nat}, Ch n R k a b → R b c → Ch n R (k + 1) a c
  | 0, a, b, h, r => by
    have h' : a = b := h
    subst h'
    exact ⟨c, hc, r, rfl⟩
  | k + 1, a, b, h, r => by
    obtain ⟨d, hd, r1, h1⟩ := h
    exact ⟨d, hd, r1, Ch.snoc hc h1 r⟩
theorem Ch.rev {n : Nat} {R S : Nat → Nat → Prop} (rs : ∀ a c, a < n → c < n → R a c → S c a) : ∀ {k a b : Nat}, a < n → Ch n R k a b → Ch n S k b a
  | 0, a, b, _, h => Eq.symm h
  | k + 1, a, b, ha, h => by
    obtain ⟨d, hd, r1, h1⟩ := h
    exact Ch.snoc ha (Ch.rev rs hd h1) (rs a d ha hd r1)
noncomputable abbrev Blw (f : Nat → Nat → Nat) (x w : Nat) : Prop := f x w = w ∧ x ≠ w
theorem IsH.ch_le {n : Nat} {f : Nat → Nat → Nat} {H : Nat → Nat} (h : IsH n f H) : ∀ {k a b : Nat}, a < n → Ch n (Blw f) k a b → k + H a ≤ H b
  | 0, a, b, _, e => by
    have e' : a = b := e
    rw [e', Nat.zero_add]
    exact Nat.le_refl _
  | k + 1, a, b, ha, e => by
    obtain ⟨d, hd, r1, h1⟩ := e
    have := h.ch_le hd h1
    have := h.up a d ha hd r1.1 r1.2
    omega
theorem IsH.ch_ex {n : Nat} {f : Nat → Nat → Nat} {H : Nat → Nat} (h : IsH n f H) : ∀ (m w : Nat), w < n → H w = m → ∃ a, a < n ∧ Ch n (Blw f) m a w
  | 0, w, hw, _ => ⟨w, hw, rfl⟩
  | m + 1, w, hw, e => by
    obtain ⟨x, hx, a, b, c⟩ := h.at' w hw (by omega)
    obtain ⟨y, hy, cy⟩ := h.ch_ex m x hx (by omega)
    exact ⟨y, hy, Ch.snoc hw cy ⟨a, b⟩⟩
theorem IsH.mono4 {n : Nat} {f : Nat → Nat → Nat} {H : Nat → Nat} (h : IsH n f H) {x w : Nat} (hx : x < n) (hw : w < n) (e : f x w = w) : H x ≤ H w := by
  by_cases z : x = w
  · rw [z]; exact Nat.le_refl _
  · have := h.up x w hx hw e z; omega
theorem maxI_is {l : List Int} {M : Int} (h0 : 0 ≤ M) (h1 : ∀ a ∈ l, a ≤ M) (h2 : M ∈ (0 : Int) :: l) : maxI 0 l = M := by
  obtain ⟨a, b, c⟩ := maxI_ge l 0
  have le : maxI 0 l ≤ M := by
    rcases List.mem_cons.mp c with z | z
    · omega
    · exact h1 _ z
  have ge : M ≤ maxI 0 l := by
    rcases List.mem_cons.mp h2 with z | z
    · omega
    · exact b _ z
  omega
section
variable {n : Nat} {f : Nat → Nat → Nat} (L : Lad n f) {z : Nat} (hz : z < n) (bz : ∀ j, j < n → f z j = j)
include L hz bz
theorem dual_H {H K : Nat → Nat} (h : IsH n f H) (k : IsH n (mt n f z) K) : K z = H ((List.range n).foldl f z) := by
  have tt := top_lt L hz bz
  have top : ∀ x, x < n → f x ((List.range n).foldl f z) = (List.range n).foldl f z := fun x hx => (L.top_uniq hz _ tt).mpr rfl x hx
  have r1 : ∀ a c, a < n → c < n → Blw f a c → Blw (mt n f z) c a := fun a c ha hc r => ⟨(mt_le L hz bz hc ha).mpr r.1, fun e => r.2 e.symm⟩
  have r2 : ∀ a c, a < n → c < n → Blw (mt n f z) a c → Blw f c a := fun a c ha hc r => ⟨(mt_le L hz bz ha hc).mp r.1, fun e => r.2 e.symm⟩
  have le1 : H ((List.range n).foldl f z) ≤ K z := by
    obtain ⟨a, ha, ca⟩ := h.ch_ex _ _ tt rfl
    have h1 := k.ch_le tt (Ch.rev r1 ha ca)
    have h2 := k.mono4 ha hz ((mt_le L hz bz ha hz).mpr (bz a ha))
    omega
  have le2 : K z ≤ H ((List.range n).foldl f z) := by
    obtain ⟨a, ha, ca⟩ := k.ch_ex _ _ hz rfl
    have h1 := h.ch_le hz (Ch.rev r2 ha ca)
    have h2 := h.mono4 ha tt (top a ha)
    omega
  omega
theorem high_ok {H : Nat → Nat} (hH : IsH n f H) : F__law_high [tabT n f] = some (.int (Int.ofNat (H ((List.range n).foldl f z))), 9) := by
  have hn : n ≤ 1000 := Nat.le_trans L.hi (by decide)
  have h16 := L.hi
  have tt := top_lt L hz bz
  have mem : ∀ k ∈ rngI n, ∃ w : Nat, w < n ∧ k = Int.ofNat w := fun k hk => by
    obtain ⟨w, hw, rfl⟩ := List.mem_map.mp hk
    exact ⟨w, List.mem_range.mp hw, rfl⟩
  have ot : ∀ w : Nat, oth (Int.ofNat w) (((List.range n).filter fun x => decide (f x w = w)).map Int.ofNat) = (tbw n f w).map Int.ofNat := fun w => by
    unfold oth tbw
    rw [List.filter_map]
    congr 1
    refine List.filter_congr fun x hx => ?_
    show (!decide (Int.ofNat x = Int.ofNat w)) = !decide (x = w)
    congr 1
    exact decide_eq_decide.mpr ⟨fun e => by injection e, fun e => by rw [e]⟩
  have hg : Hig l__law_high F__law_under (tabT n f) (Int.ofNat (H ((List.range n).foldl f z))) := by
    refine ⟨rfl, n, fun k => Int.ofNat (cb n f k.toNat), fun k => ((List.range n).filter fun x => decide (f x k.toNat = k.toNat)).map Int.ofNat, fun k => Int.ofNat (H k.toNat), len_tabT, L.lo, by omega, ⟨rngI_nd n, by rw [List.length_map, List.length_range]; omega, fun k hk x hx => ?_⟩, fun k hk => ?_, fun k hk => ?_, fun k hk => ?_, Int.ofNat ((List.range n).foldl f z), List.mem_map.mpr ⟨_, List.mem_range.mpr tt, rfl⟩, rfl⟩
    · obtain ⟨w, hw, rfl⟩ := mem k hk
      have hx' : x ∈ oth (Int.ofNat w) (((List.range n).filter fun x => decide (f x w = w)).map Int.ofNat) := hx
      rw [ot w] at hx'
      obtain ⟨y, hy, rfl⟩ := List.mem_map.mp hx'
      obtain ⟨a, b, c⟩ := mem_tbw.mp hy
      refine ⟨List.mem_map.mpr ⟨y, List.mem_range.mpr a, rfl⟩, ?_⟩
      have := cb_lt L a hw b c
      show ((cb n f y : Nat) : Int) < ((cb n f w : Nat) : Int)
      omega
    · obtain ⟨w, hw, rfl⟩ := mem k hk
      have e : l__law_high (startD ([D.int (Int.ofNat w)] ++ [tabT n f]).length ([D.int (Int.ofNat w)] ++ [tabT n f])) = some (.int (Int.ofNat (cb n f w)), 9, [some (.int (Int.ofNat w), 9), some (tabT n f, 9)]) := by
        have e1 := eCall_eq (F := F__law_under) (n := 2) (g := aCons (eVar 1) (aCons (eVar 0) (aNil))) (ρ := [some (.int (Int.ofNat w), 9), some (tabT n f, 9)]) (ds := [tabT n f, .int (Int.ofNat w)]) rfl rfl (under_ok hn hw)
        have e2 : eB bLen (aCons (eCall F__law_under 2 (aCons (eVar 1) (aCons (eVar 0) (aNil)))) aNil) [some (.int (Int.ofNat w), 9), some (tabT n f, 9)] = some (.int (Int.ofNat (cb n f w)), 9, [some (.int (Int.ofNat w), 9), some (tabT n f, 9)]) := eB_eq (aCons_1 e1) (by
          show some (D.int (Int.ofNat (nums ((List.range n).filter fun x => decide (f x w = w))).length)) = _
          rw [nums_len]; rfl)
        exact e2
      unfold lamD
      rw [e]
      rfl
    · obtain ⟨w, hw, rfl⟩ := mem k hk
      refine ⟨⟨1, ?_⟩, ?_, ?_⟩
      · rw [under_ok hn hw]
        show _ = some (D.lst ((((List.range n).filter fun x => decide (f x w = w)).map Int.ofNat).map D.int), 1)
        rw [List.map_map]
        rfl
      · rw [List.length_map]
        refine Nat.le_trans (List.length_filter_le _ _) ?_
        rw [List.length_range]
        omega
      · show Int.ofNat (H w) = maxI 0 ((oth (Int.ofNat w) (((List.range n).filter fun x => decide (f x w = w)).map Int.ofNat)).map fun x => 1 + Int.ofNat (H x.toNat))
        rw [ot w]
        refine (maxI_is (by show (0 : Int) ≤ ((H w : Nat) : Int); omega) (fun a ha => ?_) ?_).symm
        · obtain ⟨x, hx, rfl⟩ := List.mem_map.mp ha
          obtain ⟨y, hy, rfl⟩ := List.mem_map.mp hx
          obtain ⟨a, b, c⟩ := mem_tbw.mp hy
          have := hH.up y w a hw b c
          show 1 + ((H y : Nat) : Int) ≤ ((H w : Nat) : Int)
          omega
        · by_cases h0 : 0 < H w
          · obtain ⟨x, a, b, c, e⟩ := hH.at' w hw h0
            refine List.mem_cons_of_mem _ (List.mem_map.mpr ⟨Int.ofNat x, List.mem_map.mpr ⟨x, mem_tbw.mpr ⟨a, b, c⟩, rfl⟩, ?_⟩)
            show 1 + ((H x : Nat) : Int) = ((H w : Nat) : Int)
            omega
          · have : Int.ofNat (H w) = 0 := by show ((H w : Nat) : Int) = 0; omega
            rw [this]
            exact List.mem_cons_self
    · obtain ⟨w, hw, rfl⟩ := mem k hk
      have := hH.mono4 hw tt ((L.top_uniq hz _ tt).mpr rfl w hw)
      show ((H w : Nat) : Int) ≤ ((H _ : Nat) : Int)
      omega
  unfold F__law_high
  refine fnD_rt ?_
  unfold d__law_high dHig
  show (match Fhig l__law_high F__law_under [tabT n f] with | some (d, q) => some (Out.rt d q) | none => none) = _
  rw [Fhig_eq hg]
omit L hz bz in
noncomputable abbrev cn (n : Nat) (f : Nat → Nat → Nat) (z : Nat) : List Nat := (List.range n).filter (crn n f z)
omit L hz bz in
noncomputable abbrev cnb (n : Nat) (f : Nat → Nat → Nat) (z w : Nat) : List Nat := (cn n f z).filter fun x => decide (x ∈ (List.range n).filter fun x => decide (f x w = w))
omit L hz bz in
theorem mem_cnb {w x : Nat} : x ∈ cnb n f z w ↔ x < n ∧ crn n f z x = true ∧ f x w = w := by
  unfold cnb cn
  rw [List.mem_filter, List.mem_filter, List.mem_range, decide_eq_true_eq, List.mem_filter, List.mem_range, decide_eq_true_eq]
  constructor
  · rintro ⟨⟨a, b⟩, _, c⟩; exact ⟨a, b, c⟩
  · rintro ⟨a, b, c⟩; exact ⟨⟨a, b⟩, a, c⟩
theorem join_cnb : ∀ (c w : Nat), w < n → cb n f w ≤ c → (cnb n f z w).foldl f z = w := by
  intro c
  induction c with
  | zero => intro w hw h; have := cb_pos L hw; omega
  | succ c ih =>
    intro w hw hc
    have lt : ∀ x ∈ cnb n f z w, x < n := fun x hx => (mem_cnb.mp hx).1
    have jl := L.fold_lt hz lt
    have le : f ((cnb n f z w).foldl f z) w = w := L.sup_least hz bz hw lt fun x hx => (mem_cnb.mp hx).2.2
    refine L.le_anti jl hw le ?_
    cases hcr : crn n f z w with
    | true => exact L.fold_mem hz lt (mem_cnb.mpr ⟨hw, hcr, L.idem w hw⟩)
    | false =>
      refine (crn_iff L hz bz hw).mp hcr _ jl fun x hx hxw ne => ?_
      have e := ih x hx (by have := cb_lt L hx hw hxw ne; omega)
      have := L.sup_least hz bz jl (l := cnb n f z x) (fun y hy => (mem_cnb.mp hy).1) fun y hy => by
        obtain ⟨a, b, c'⟩ := mem_cnb.mp hy
        exact L.fold_mem hz lt (mem_cnb.mpr ⟨a, b, L.le_trans a hx hw c' hxw⟩)
      rw [e] at this
      exact this
theorem join_less {w : Nat} (hw : w < n) (hc : crn n f z w = true) {l : List Nat} (hl : ∀ x ∈ l, x < n ∧ f x w = w ∧ x ≠ w) : l.foldl f z ≠ w := fun e => by
  have : crn n f z w = false := (crn_iff L hz bz hw).mpr fun u hu h => by
    have := L.sup_least hz bz hu (l := l) (fun x hx => (hl x hx).1) fun x hx => h x (hl x hx).1 (hl x hx).2.1 (hl x hx).2.2
    rw [e] at this
    exact this
  rw [hc] at this
  cases this
end
end My
set_option Elab.async false
set_option linter.all false
set_option maxRecDepth 100000
set_option maxHeartbeats 2000000
namespace My
open PySem PySem.Spec PyProof.Rows L2 L3
theorem tAnd4 {g h : DenT} {ρ : Rho} {a b : Bool} (e : g ρ = some (a, ρ)) (e' : h ρ = some (b, ρ)) : tAndD g h ρ = some (a && b, ρ) := by
  unfold tAndD
  rw [e]
  cases a
  · rfl
  · exact e'
theorem iVar4 {i : Nat} {ρ : Rho} {l : List Nat} (h : ρ[i]? = some (some (.lst (nums l), 0))) (hl : l.length ≤ 1000) : iVal (eVar i) ρ = some (nums l, ρ) := by
  unfold iVal
  rw [eVar_lst h, set_self h]
  exact if_pos (by rw [nums_len]; exact hl)
theorem rangeS4 (p : Nat → Bool) (i : Nat) : (List.range (i + 1)).filter p = (List.range i).filter p ++ (if p i = true then [i] else []) := by
  rw [List.range_succ, List.filter_append]
  congr 1
  by_cases h : p i = true
  · rw [if_pos h, List.filter_cons_of_pos h, List.filter_nil]
  · rw [if_neg h, List.filter_cons_of_neg h, List.filter_nil]
noncomputable abbrev S4 (ns : List Int) (a1 a2 a3 a4 a5 a6 : Option (D × Nat)) : Rho := [some (scr ns, 0), a1, a2, a3, a4, a5, a6]
theorem law_true (ns : List Int) (h63 : ns.length ≤ 63) : ∃ q, F_law [.lst (ns.map D.int)] = some (.bl true, q) := by
  obtain ⟨n, f, L, hL0⟩ := lad_ok ns 0 (Int.le_refl 0)
  obtain ⟨z, hz, bz⟩ := L.bot
  have h16 := L.hi
  have hn : n ≤ 1000 := by omega
  obtain ⟨H, hH⟩ := has_H L
  have M := mt_lad L hz bz
  obtain ⟨K, hK⟩ := has_H M
  have k1 := height_ok L hz bz hH
  have k2 := height_ok M (top_lt L hz bz) (fun j hj => top_bot L hz bz hj) hK
  rw [bot_top L hz bz, dual_H L hz bz hH hK] at k2
  have k3 := high_ok L hz bz hH
  have t0 := turned_ok L hz bz hn
  have q0 := corners_ok L hz bz
  have cl : (cn n f z).length ≤ n := by
    have := List.length_filter_le (crn n f z) (List.range n)
    rw [List.length_range] at this
    exact this
  refine ⟨9, ?_⟩
  unfold F_law d_law
  refine fnD_rt ?_
  show sSeq _ _ (S4 ns none none none none none none) = _
  refine (sSeq_nx (ρ1 := S4 ns (some (tabT n f, 9)) none none none none none) (sSet_to (eCall_eq (ds := [scr ns, .int 0]) rfl rfl hL0) rfl)).trans ?_
  refine (sSeq_nx (ρ1 := S4 ns (some (tabT n f, 9)) none none none none none) (by
    refine (sIf_f ?_).trans rfl
    refine (tOr_f (ρ1 := S4 ns (some (tabT n f, 9)) none none none none none) ?_).trans ?_
    · refine (tOfB_eq (e2_eq (eCall_eq (ds := [tabT n f]) rfl rfl k1) (eCall_eq (ds := [tabT n f]) rfl rfl k3) (dNe_nat _ _))).trans ?_
      simp
    · refine (tOfB_eq (e2_eq (eCall_eq (aCons_1 (eCall_eq (ds := [tabT n f]) rfl rfl t0)) rfl k2) (eCall_eq (ds := [tabT n f]) rfl rfl k3) (dNe_nat _ _))).trans ?_
      simp)).trans ?_
  refine (sSeq_nx (ρ1 := S4 ns (some (tabT n f, 9)) (some (.lst [], 1)) none none none none) rfl).trans ?_
  -- what is due
  have lp1 := forD_rel (pt := pName 3) (body := b1_law) (rangeD n) (fun i ρ => ∃ a3, ρ = S4 ns (some (tabT n f, 9)) (some (.lst (nums ((List.range i).filter (crn n f z))), 1)) a3 none none none) (S4 ns (some (tabT n f, 9)) (some (.lst [], 1)) none none none none) (fun i hi ρ ⟨a3, hρ⟩ => by
    subst hρ
    have hi' : i < n := by rw [rangeD, List.length_map, List.length_range] at hi; exact hi
    refine ⟨S4 ns (some (tabT n f, 9)) (some (.lst (nums ((List.range i).filter (crn n f z))), 1)) (some (.int (Int.ofNat i), 9)) none none none, S4 ns (some (tabT n f, 9)) (some (.lst (nums ((List.range (i+1)).filter (crn n f z))), 1)) (some (.int (Int.ofNat i), 9)) none none none, by rw [rangeD_get]; rfl, .inl ?_, _, rfl⟩
    unfold b1_law
    have ul : ((List.range n).filter fun x => decide (f x i = i)).length ≤ 1000 := Nat.le_trans (List.length_filter_le _ _) (by simpa using hn)
    have iv : iVal (eCall F__law_under 2 (aCons (eVar 1) (aCons (eVar 3) (aNil)))) (S4 ns (some (tabT n f, 9)) (some (.lst (nums ((List.range i).filter (crn n f z))), 1)) (some (.int (Int.ofNat i), 9)) none none none) = some (nums ((List.range n).filter fun x => decide (f x i = i)), S4 ns (some (tabT n f, 9)) (some (.lst (nums ((List.range i).filter (crn n f z))), 1)) (some (.int (Int.ofNat i), 9)) none none none) := by
      unfold iVal
      rw [eCall_eq (F := F__law_under) (n := 2) (g := aCons (eVar 1) (aCons (eVar 3) (aNil))) (ρ := S4 ns (some (tabT n f, 9)) (some (.lst (nums ((List.range i).filter (crn n f z))), 1)) (some (.int (Int.ofNat i), 9)) none none none) (ds := [tabT n f, .int (Int.ofNat i)]) rfl rfl (under_ok hn hi')]
      exact if_pos (by rw [nums_len]; exact ul)
    have c1 := eComp_eq (deep := false) iv (compLt (i := 7) (tt := tOfB (e2 dNe (eVar 7) (eVar 3))) (te := eVar 7) (deep := false) ((List.range n).filter fun x => decide (f x i = i)) rfl (fun x => !decide (x = i)) (fun x => .int (Int.ofNat x)) (fun _ => 9) (fun x hx => tOfB_eq (e2_eq (fa := eVar 7) (fb := eVar 3) (q := 9) (q' := 9) rfl rfl (dNe_nat _ _))) (fun x hx _ => rfl))
    have j1 : F__law_join [tabT n f, .lst (nums (tbw n f i))] = some (.int (Int.ofNat ((tbw n f i).foldl f z)), 9) := join_ok L hz bz hn (Nat.le_trans tbw_len hn) fun x hx => (mem_tbw.mp hx).1
    have t := tOfB_eq (e2_eq (ρ := S4 ns (some (tabT n f, 9)) (some (.lst (nums ((List.range i).filter (crn n f z))), 1)) (some (.int (Int.ofNat i), 9)) none none none) (fb := eVar 3) (q' := 9) (eCall_eq (F := F__law_join) (n := 2) (ds := [tabT n f, .lst (nums (tbw n f i))]) (aCons_eq (f := eVar 1) (q := 9) rfl (aCons_1 c1)) rfl j1) rfl (dNe_nat _ _))
    cases hc : crn n f z i with
    | true =>
      have hc' : (!decide ((tbw n f i).foldl f z = i)) = true := hc
      rw [hc'] at t
      refine (sIf_t t).trans (sApp_eq (ds := nums ((List.range i).filter (crn n f z))) rfl (aCons_1 (f := eVar 3) (q := 9) rfl) rfl ?_ ?_)
      · rw [nums_len]
        refine Nat.le_trans (List.length_filter_le _ _) ?_
        rw [List.length_range]
        omega
      · have e : nums ((List.range (i + 1)).filter (crn n f z)) = nums ((List.range i).filter (crn n f z)) ++ [.int (Int.ofNat i)] := by
          rw [rangeS4, if_pos hc]
          unfold nums
          rw [List.map_append]
          rfl
        rw [e]
        rfl
    | false =>
      have hc' : (!decide ((tbw n f i).foldl f z = i)) = false := hc
      rw [hc'] at t
      refine (sIf_f t).trans ?_
      have e : (List.range (i + 1)).filter (crn n f z) = (List.range i).filter (crn n f z) := by
        rw [rangeS4, if_neg (by rw [hc]; decide), List.append_nil]
      rw [e]
      rfl) ⟨none, rfl⟩
  obtain ⟨ρ', e, a3, rfl⟩ := lp1
  have len : (rangeD n).length = n := by rw [rangeD, List.length_map, List.length_range]
  rw [len] at e
  refine (sSeq_nx ((sFor_eq (ds := rangeD n) (rng_len hn (i := 1) rfl len_tabT)).trans e)).trans ?_
  clear e
  refine (sSeq_nx (ρ1 := S4 ns (some (tabT n f, 9)) (some (.lst (nums ((List.range n).filter (crn n f z))), 1)) a3 (some (.lst (nums (cn n f z)), 1)) none none) (sSet_to (eCall_eq (ds := [tabT n f]) rfl rfl q0) rfl)).trans ?_
  refine (sSeq_nx (ρ1 := S4 ns (some (tabT n f, 9)) (some (.lst (nums ((List.range n).filter (crn n f z))), 0)) a3 (some (.lst (nums (cn n f z)), 0)) none none) (by
    refine (sIf_f ?_).trans rfl
    refine (tOfB_eq (e2_eq (fa := eVar 4) (fb := eVar 2) (ρ1 := S4 ns (some (tabT n f, 9)) (some (.lst (nums ((List.range n).filter (crn n f z))), 1)) a3 (some (.lst (nums (cn n f z)), 0)) none none) (eVar_lst rfl) (eVar_lst rfl) (dNe_L _ _))).trans ?_
    simp)).trans ?_
  -- each is made of corners
  obtain ⟨ρ', e, a3', a5, rfl⟩ := forD_rel (pt := pName 3) (body := b2_law) (rangeD n) (fun i ρ => ∃ a3 a5, ρ = S4 ns (some (tabT n f, 9)) (some (.lst (nums ((List.range n).filter (crn n f z))), 0)) a3 (some (.lst (nums (cn n f z)), 0)) a5 none) (S4 ns (some (tabT n f, 9)) (some (.lst (nums ((List.range n).filter (crn n f z))), 0)) a3 (some (.lst (nums (cn n f z)), 0)) none none) (fun i hi ρ ⟨a3, a5, hρ⟩ => by
    subst hρ
    have hi' : i < n := by rw [len] at hi; exact hi
    refine ⟨S4 ns (some (tabT n f, 9)) (some (.lst (nums ((List.range n).filter (crn n f z))), 0)) (some (.int (Int.ofNat i), 9)) (some (.lst (nums (cn n f z)), 0)) a5 none, S4 ns (some (tabT n f, 9)) (some (.lst (nums ((List.range n).filter (crn n f z))), 0)) (some (.int (Int.ofNat i), 9)) (some (.lst (nums (cn n f z)), 0)) (some (.lst (nums (cnb n f z i)), 0)) none, by rw [rangeD_get]; rfl, .inl ?_, _, _, rfl⟩
    unfold b2_law
    have c1 := eComp_eq (deep := false) (iVar4 (i := 4) (ρ := S4 ns (some (tabT n f, 9)) (some (.lst (nums ((List.range n).filter (crn n f z))), 0)) (some (.int (Int.ofNat i), 9)) (some (.lst (nums (cn n f z)), 0)) a5 none) (l := cn n f z) rfl (by omega)) (compLt (i := 7) (tt := tOfB (e2 dIn (eVar 7) (eCall F__law_under 2 (aCons (eVar 1) (aCons (eVar 3) (aNil)))))) (te := eVar 7) (deep := false) (cn n f z) rfl (fun x => decide (x ∈ (List.range n).filter fun x => decide (f x i = i))) (fun x => .int (Int.ofNat x)) (fun _ => 9) (fun x hx => tOfB_eq (e2_eq (fa := eVar 7) (q := 9) rfl (eCall_eq (F := F__law_under) (n := 2) (ds := [tabT n f, .int (Int.ofNat i)]) rfl rfl (under_ok hn hi')) (dIn_numsU _ _))) (fun x hx _ => rfl))
    refine (sSeq_nx (ρ1 := S4 ns (some (tabT n f, 9)) (some (.lst (nums ((List.range n).filter (crn n f z))), 0)) (some (.int (Int.ofNat i), 9)) (some (.lst (nums (cn n f z)), 0)) (some (.lst (nums (cnb n f z i)), 1)) none) (sSet_to c1 rfl)).trans ?_
    have j1 : F__law_join [tabT n f, .lst (nums (cnb n f z i))] = some (.int (Int.ofNat i), 9) := by
      rw [join_ok L hz bz hn (Nat.le_trans (List.length_filter_le _ _) (by omega)) fun x hx => (mem_cnb.mp hx).1, join_cnb L hz bz _ i hi' (Nat.le_refl _)]
    refine (sIf_f ?_).trans rfl
    refine (tOfB_eq (e2_eq (fb := eVar 3) (q' := 9) (eCall_eq (F := F__law_join) (n := 2) (ρ1 := S4 ns (some (tabT n f, 9)) (some (.lst (nums ((List.range n).filter (crn n f z))), 0)) (some (.int (Int.ofNat i), 9)) (some (.lst (nums (cn n f z)), 0)) (some (.lst (nums (cnb n f z i)), 0)) none) (ds := [tabT n f, .lst (nums (cnb n f z i))]) (aCons_eq (f := eVar 1) (q := 9) rfl (aCons_1 (eVar_lst rfl))) rfl j1) rfl (dNe_nat _ _))).trans ?_
    simp) ⟨_, _, rfl⟩
  refine (sSeq_nx ((sFor_eq (ds := rangeD n) (rng_len hn (i := 1) rfl len_tabT)).trans e)).trans ?_
  clear e
  -- none can be left out
  obtain ⟨ρ', e, a6, rfl⟩ := forD_rel (pt := pName 6) (body := b3_law) (nums (cn n f z)) (fun i ρ => ∃ a6, ρ = S4 ns (some (tabT n f, 9)) (some (.lst (nums ((List.range n).filter (crn n f z))), 0)) a3' (some (.lst (nums (cn n f z)), 0)) a5 a6) (S4 ns (some (tabT n f, 9)) (some (.lst (nums ((List.range n).filter (crn n f z))), 0)) a3' (some (.lst (nums (cn n f z)), 0)) a5 none) (fun k hk ρ ⟨a6, hρ⟩ => by
    subst hρ
    rw [nums_len] at hk
    have hm : (cn n f z)[k] ∈ cn n f z := List.getElem_mem hk
    have ek : ∀ h, (nums (cn n f z))[k]'h = .int (Int.ofNat ((cn n f z)[k])) := fun h => by simp [nums]
    generalize (cn n f z)[k] = i at hm ek
    have hi' : i < n := List.mem_range.mp (List.mem_filter.mp hm).1
    have hc : crn n f z i = true := (List.mem_filter.mp hm).2
    refine ⟨S4 ns (some (tabT n f, 9)) (some (.lst (nums ((List.range n).filter (crn n f z))), 0)) a3' (some (.lst (nums (cn n f z)), 0)) a5 (some (.int (Int.ofNat i), 9)), S4 ns (some (tabT n f, 9)) (some (.lst (nums ((List.range n).filter (crn n f z))), 0)) a3' (some (.lst (nums (cn n f z)), 0)) a5 (some (.int (Int.ofNat i), 9)), by rw [ek]; rfl, .inl ?_, _, rfl⟩
    unfold b3_law
    have c1 := eComp_eq (deep := false) (iVar4 (i := 4) (ρ := S4 ns (some (tabT n f, 9)) (some (.lst (nums ((List.range n).filter (crn n f z))), 0)) a3' (some (.lst (nums (cn n f z)), 0)) a5 (some (.int (Int.ofNat i), 9))) (l := cn n f z) rfl (by omega)) (compLt (i := 7) (tt := tAndD (tOfB (e2 dNe (eVar 7) (eVar 6))) (tOfB (e2 dIn (eVar 7) (eCall F__law_under 2 (aCons (eVar 1) (aCons (eVar 6) (aNil))))))) (te := eVar 7) (deep := false) (cn n f z) rfl (fun x => !decide (x = i) && decide (x ∈ (List.range n).filter fun x => decide (f x i = i))) (fun x => .int (Int.ofNat x)) (fun _ => 9) (fun x hx => tAnd4 (tOfB_eq (e2_eq (fa := eVar 7) (fb := eVar 6) (q := 9) (q' := 9) rfl rfl (dNe_nat _ _))) (tOfB_eq (e2_eq (fa := eVar 7) (q := 9) rfl (eCall_eq (F := F__law_under) (n := 2) (ds := [tabT n f, .int (Int.ofNat i)]) rfl rfl (under_ok hn hi')) (dIn_numsU _ _)))) (fun x hx _ => rfl))
    have hl : ∀ x ∈ (cn n f z).filter (fun x => !decide (x = i) && decide (x ∈ (List.range n).filter fun x => decide (f x i = i))), x < n ∧ f x i = i ∧ x ≠ i := fun x hx => by
      obtain ⟨a, b⟩ := List.mem_filter.mp hx
      rw [Bool.and_eq_true, Bool.not_eq_true', decide_eq_false_iff_not, decide_eq_true_eq, List.mem_filter, List.mem_range, decide_eq_true_eq] at b
      exact ⟨b.2.1, b.2.2, b.1⟩
    have j1 := join_ok L hz bz hn (l := (cn n f z).filter (fun x => !decide (x = i) && decide (x ∈ (List.range n).filter fun x => decide (f x i = i)))) (Nat.le_trans (List.length_filter_le _ _) (by omega)) fun x hx => (hl x hx).1
    have ne := join_less L hz bz hi' hc hl
    refine (sIf_f ?_).trans rfl
    refine (tOfB_eq (e2_eq (fb := eVar 6) (q' := 9) (eCall_eq (F := F__law_join) (n := 2) (ds := [tabT n f, .lst (nums ((cn n f z).filter (fun x => !decide (x = i) && decide (x ∈ (List.range n).filter fun x => decide (f x i = i)))))]) (aCons_eq (f := eVar 1) (q := 9) rfl (aCons_1 c1)) rfl j1) rfl (dEq_nat _ _))).trans ?_
    rw [decide_eq_false ne]) ⟨_, rfl⟩
  refine (sSeq_nx ((sFor_eq (ds := nums (cn n f z)) (iVar4 (i := 4) rfl (by omega))).trans e)).trans ?_
  rfl
end My
set_option maxHeartbeats 0
namespace My
open PySem PySem.Spec PyProof.Rows L2 L3
noncomputable def A0 (K : PySem.W.Frag) (mg : Str → Option Value) (x : Str) (st : Stmt) : Prop := ∃ f fd, Fun K x x st f fd ∧ mg x = some (.ref f)
theorem A0.mk {K : PySem.W.Frag} {h : Heap} {mg : Str → Option Value} {x : Str} {st : Stmt} {f : Addr} {od an : Option Addr} {sl : Array (Option Value)} {oc kV dc pm cd ct : Value} (X : K.In h) (G : h.Ns mainGlobals mg) (a : PySem.W.nsIn K mainGlobals x = some (some (.ref f))) (l : K.lookup f = some ⟨oc, od, .func (PySem.W.fnOf x x (defArgs st) (defBody st) (defScope st) .none kV dc pm an cd ct), sl⟩) (c : PySem.W.codeIn K cd x = true) (k : PySem.W.keepIn K (.ref f) = true) : A0 K mg x st := ⟨_, _, fun_mk l c k, PySem.W.mg_of X G a⟩
theorem A0.at {K : PySem.W.Frag} {mg : Str → Option Value} {x : Str} {st : Stmt} {ps : List Str} (a : A0 K mg x st) (h : ∀ (kV doc pm : Value) (an : Option Addr) (cdv ct : Value) (us : List Value), us.length = ps.length → bindArgs (PySem.W.fnOf x x (defArgs st) (defBody st) (defScope st) .none kV doc pm an cdv ct) ⟨us, []⟩ = pure (ps.zip us)) : At K mg x st ps := by
  obtain ⟨f, fd, F, m⟩ := a
  exact ⟨f, fd, F, m, F.binds h⟩
theorem all_mk {l : PySem.W.OpenLaw} {w : World} {K : PySem.W.Frag} {h : Heap} {mg : Str → Option Value} {fa : Addr} {f24 : Addr} {od24 an24 : Option Addr} {sl24 : Array (Option Value)} {oc24 kV24 dc24 pm24 cd24 ct24 : Value} (X : K.In h) (G : h.Ns mainGlobals mg) (hfa : mg "law" = some (.ref fa))
    (A1 : A0 K mg "_law_under" (top 23))
    (A2 : A0 K mg "is_below" (top 4))
    (A3 : A0 K mg "below" (top 5))
    (A4 : A0 K mg "row_of_least" (top 1))
    (A5 : A0 K mg "least_of" (top 2))
    (A6 : A0 K mg "joined_all" (top 7))
    (A7 : A0 K mg "met" (top 8))
    (A8 : A0 K mg "_law_cell" (top 14))
    (A9 : A0 K mg "_law_pick" (top 15))
    (A10 : A0 K mg "_law_chain" (top 16))
    (A11 : A0 K mg "_law_couples" (top 17))
    (A12 : A0 K mg "_law_side_by_side" (top 18))
    (A13 : A0 K mg "_law_base" (top 19))
    (A14 : A0 K mg "_law_ladder" (top 20))
    (A15 : A0 K mg "truly_below" (top 6))
    (A16 : A0 K mg "corners" (top 12))
    (A17 : A0 K mg "greatest_of" (top 3))
    (A18 : A0 K mg "height_of" (top 11))
    (A19 : A0 K mg "_law_high" (top 24))
    (A20 : A0 K mg "_law_low" (top 21))
    (A21 : A0 K mg "_law_join" (top 22))
    (A22 : A0 K mg "table_of" (top 9))
    (A23 : A0 K mg "turned" (top 10))
    (a24 : PySem.W.nsIn K mainGlobals "law" = some (some (.ref f24))) (l24 : K.lookup f24 = some ⟨oc24, od24, .func (PySem.W.fnOf "law" "law" (defArgs (top 25)) (defBody (top 25)) (defScope (top 25)) .none kV24 dc24 pm24 an24 cd24 ct24), sl24⟩) (c24 : PySem.W.codeIn K cd24 "law" = true) (k24 : PySem.W.keepIn K (.ref f24) = true)
    (z1 : PySem.W.nsIn K mainGlobals "len" = some none) (z2 : PySem.W.nsIn K mainGlobals "list" = some none) (z3 : PySem.W.nsIn K mainGlobals "max" = some none) (z4 : PySem.W.nsIn K mainGlobals "range" = some none) (z5 : PySem.W.nsIn K mainGlobals "sorted" = some none) (z6 : PySem.W.nsIn K mainGlobals "tuple" = some none)  (t_height_of : ∃ c Pt, PySem.W.tabIn K "height_of" = some (c, Pt)) (t__law_high : ∃ c Pt, PySem.W.tabIn K "_law_high" = some (c, Pt)) (t_turned : ∃ c Pt, PySem.W.tabIn K "turned" = some (c, Pt)) :
    ∃ fd : FuncData, (∀ (s : Shared) (v : Value), BindsTo s fd ⟨[v], []⟩ [("_law_script", v)]) ∧ ∀ base : Heap, K.In base → base.Ns mainGlobals mg → Lm K mg base → FnOk l.prog w K mg base CX0 9 fa fd ["_law_script"] (spD K 1 F_law) := by
  have e := hfa.symm.trans (PySem.W.mg_of X G a24)
  cases e
  have B : Bt mg := ⟨PySem.W.mg_none_of X G z1, PySem.W.mg_none_of X G z2, PySem.W.mg_none_of X G z3, PySem.W.mg_none_of X G z4, PySem.W.mg_none_of X G z5, PySem.W.mg_none_of X G z6⟩
  refine ⟨PySem.W.fnOf "law" "law" (defArgs (top 25)) (defBody (top 25)) (defScope (top 25)) .none kV24 dc24 pm24 an24 cd24 ct24, fun s v => .of_eq rfl, fun base KX NG L => ?_⟩
  have E__law_under : ∀ base : Heap, Cal l.prog w K mg base 1 "_law_under" 2 F__law_under := fun base => C__law_under B  (A1.at fun _ _ _ _ _ _ _ h => by obtain ⟨_, _, rfl⟩ := L3.len2 h; rfl)
  have E_is_below : ∀ base : Heap, Cal l.prog w K mg base 1 "is_below" 3 F_is_below := fun base => C_is_below B  (A2.at fun _ _ _ _ _ _ _ h => by obtain ⟨_, _, _, rfl⟩ := L3.len3 h; rfl)
  have E_below : ∀ base : Heap, Cal l.prog w K mg base 2 "below" 2 F_below := fun base => C_below B (E_is_below base) (A3.at fun _ _ _ _ _ _ _ h => by obtain ⟨_, _, rfl⟩ := L3.len2 h; rfl)
  have E_row_of_least : ∀ base : Heap, Cal l.prog w K mg base 1 "row_of_least" 1 F_row_of_least := fun base => C_row_of_least B  (A4.at fun _ _ _ _ _ _ _ h => by obtain ⟨_, rfl⟩ := L3.len1 h; rfl)
  have E_least_of : ∀ base : Heap, Cal l.prog w K mg base 2 "least_of" 1 F_least_of := fun base => C_least_of B (E_row_of_least base) (A5.at fun _ _ _ _ _ _ _ h => by obtain ⟨_, rfl⟩ := L3.len1 h; rfl)
  have E_joined_all : ∀ base : Heap, Cal l.prog w K mg base 3 "joined_all" 2 F_joined_all := fun base => C_joined_all B (E_least_of base) (A6.at fun _ _ _ _ _ _ _ h => by obtain ⟨_, _, rfl⟩ := L3.len2 h; rfl)
  have E_met : ∀ base : Heap, Cal l.prog w K mg base 4 "met" 3 F_met := fun base => C_met B (E_joined_all base) (E_below base) (E_is_below base) (A7.at fun _ _ _ _ _ _ _ h => by obtain ⟨_, _, _, rfl⟩ := L3.len3 h; rfl)
  have hy_table_of : ∃ fn, mg "table_of" = some (.ref fn) ∧ PySem.W.keepIn K (.ref fn) = true := by
    obtain ⟨f, fd, F, m⟩ := A22
    exact ⟨f, m, F.kp⟩
  have hT_table_of : ∀ (base : Heap) (ob : D) (G : List D → Option (D × Nat)), CalO l.prog w K mg base 5 ob 2 G → Cal l.prog w K mg base 6 "table_of" 2 (F_table_of ob G) := fun base ob G co => C_table_of B co  (A22.at fun _ _ _ _ _ _ _ h => by obtain ⟨_, _, rfl⟩ := L3.len2 h; rfl)
  have D__law_under := C__law_under (P := l.prog) (w := w) (base := base) B  (A1.at fun _ _ _ _ _ _ _ h => by obtain ⟨_, _, rfl⟩ := L3.len2 h; rfl)
  have D_is_below := C_is_below (P := l.prog) (w := w) (base := base) B  (A2.at fun _ _ _ _ _ _ _ h => by obtain ⟨_, _, _, rfl⟩ := L3.len3 h; rfl)
  have D_below := C_below B D_is_below (A3.at fun _ _ _ _ _ _ _ h => by obtain ⟨_, _, rfl⟩ := L3.len2 h; rfl)
  have D_row_of_least := C_row_of_least (P := l.prog) (w := w) (base := base) B  (A4.at fun _ _ _ _ _ _ _ h => by obtain ⟨_, rfl⟩ := L3.len1 h; rfl)
  have D_least_of := C_least_of B D_row_of_least (A5.at fun _ _ _ _ _ _ _ h => by obtain ⟨_, rfl⟩ := L3.len1 h; rfl)
  have D_joined_all := C_joined_all B D_least_of (A6.at fun _ _ _ _ _ _ _ h => by obtain ⟨_, _, rfl⟩ := L3.len2 h; rfl)
  have D_met := C_met B D_joined_all D_below D_is_below (A7.at fun _ _ _ _ _ _ _ h => by obtain ⟨_, _, _, rfl⟩ := L3.len3 h; rfl)
  have D__law_cell := C__law_cell (P := l.prog) (w := w) (base := base) B  (A8.at fun _ _ _ _ _ _ _ h => by obtain ⟨_, _, rfl⟩ := L3.len2 h; rfl)
  have D__law_pick := C__law_pick B D__law_cell (A9.at fun _ _ _ _ _ _ _ h => by obtain ⟨_, _, _, rfl⟩ := L3.len3 h; rfl)
  have D__law_chain := C__law_chain (P := l.prog) (w := w) (base := base) B  (A10.at fun _ _ _ _ _ _ _ h => by obtain ⟨_, rfl⟩ := L3.len1 h; rfl)
  have D__law_couples := C__law_couples (P := l.prog) (w := w) (base := base) B  (A11.at fun _ _ _ _ _ _ _ h => by obtain ⟨_, _, rfl⟩ := L3.len2 h; rfl)
  have D__law_side_by_side := C__law_side_by_side (P := l.prog) (w := w) (base := base) B  (A12.at fun _ _ _ _ _ _ _ h => by obtain ⟨_, rfl⟩ := L3.len1 h; rfl)
  have D__law_base := C__law_base B D__law_pick D__law_chain D__law_couples D__law_side_by_side (A13.at fun _ _ _ _ _ _ _ h => by obtain ⟨_, _, rfl⟩ := L3.len2 h; rfl)
  have D__law_ladder := C__law_ladder B D__law_base D__law_pick (A14.at fun _ _ _ _ _ _ _ h => by obtain ⟨_, _, rfl⟩ := L3.len2 h; rfl)
  have D_truly_below := C_truly_below B D_below (A15.at fun _ _ _ _ _ _ _ h => by obtain ⟨_, _, rfl⟩ := L3.len2 h; rfl)
  have D_corners := C_corners B D_joined_all D_truly_below (A16.at fun _ _ _ _ _ _ _ h => by obtain ⟨_, rfl⟩ := L3.len1 h; rfl)
  have D_greatest_of := C_greatest_of B D_joined_all (A17.at fun _ _ _ _ _ _ _ h => by obtain ⟨_, rfl⟩ := L3.len1 h; rfl)
  have D_height_of := C_height_of B L KX NG t_height_of E_below D_truly_below D_greatest_of (A18.at fun _ _ _ _ _ _ _ h => by obtain ⟨_, rfl⟩ := L3.len1 h; rfl)
  have D__law_high := C__law_high B L KX NG t__law_high E__law_under D__law_under (A19.at fun _ _ _ _ _ _ _ h => by obtain ⟨_, rfl⟩ := L3.len1 h; rfl)
  have D__law_low := C__law_low (P := l.prog) (w := w) (base := base) B  (A20.at fun _ _ _ _ _ _ _ h => by obtain ⟨_, rfl⟩ := L3.len1 h; rfl)
  have D__law_join := C__law_join B D__law_low (A21.at fun _ _ _ _ _ _ _ h => by obtain ⟨_, _, rfl⟩ := L3.len2 h; rfl)
  have D_turned := C_turned B L KX NG t_turned hT_table_of hy_table_of E_met  (A23.at fun _ _ _ _ _ _ _ h => by obtain ⟨_, rfl⟩ := L3.len1 h; rfl)
  exact law_ok' B D__law_ladder D_height_of D__law_high D_turned D__law_join D__law_under D_corners (fun_mk (st := top 25) l24 c24 k24)
theorem walk {l : PySem.W.OpenLaw} {q : Program} {loose : List Str} {XP : (Str → Option Value) → Heap → Prop} {YP : World → Heap → Prop} {d : DefRec} {K : Params → PySem.W.Frag} (hn : l.most = some 63) (hdf : d.params.defaults = [])
    (hY : ∀ (w : World) (h : Heap), YP w h → (K w.params).In h)
    (F : ∀ (w : World) (mg : Str → Option Value) (fa : Addr) (h : Heap), (K w.params).In h → h.Ns mainGlobals mg → mg d.name = some (.ref fa) → LamR q (K w.params) ∧ PySem.W.noTabs (K w.params) = true ∧
      ∃ fd : FuncData, (∀ (s : Shared) (u : Value), BindsTo s fd ⟨[u], []⟩ [("_law_script", u)]) ∧ ∀ base : Heap, (K w.params).In base → base.Ns mainGlobals mg → Lm (K w.params) mg base → FnOk l.prog w (K w.params) mg base CX0 9 fa fd ["_law_script"] (spD (K w.params) 1 F_law)) :
    PySem.W.WalkO q loose XP YP l.row.toRowW d [] (fun f vs => PySem.call f vs) :=
  walk_ofL (n := 63) (k := 9) (x := "_law_script") (CX := fun _ => CX0) (sp := fun w => spD (K w.params) 1 F_law) hn (by decide) hdf ⟨rfl, by decide, by decide⟩ hY F (fun _ _ a ns hl tb hS => law_sp law_true hl hS tb) fun _ _ _ _ _ z => z
end My
open PySem PySem.W PyProof.Rows
set_option maxRecDepth 100000 in
set_option maxHeartbeats 0 in
theorem PySem.Challenge.cw_ladderhall_k04_whole_heights_holds : PySem.Challenge.rw_ladderhall_k04_whole_heights.Holds := by
  w_on; o_law; k_head; (case hw => w_witness2)
  k_fill
  refine My.walk (l := PySem.Challenge.rw_ladderhall_k04_whole_heights) rfl rfl (fun w h Y => PySem.W.km_in_of Y) ?F
  case F =>
    intro w mg fa h KX G hmg
    refine' ⟨L3.LamR.of ?r1 ?r2 ?r3 ?r4 ?r5 ?r6, ?nt, ?al⟩
    (case r1 => exact .inl ⟨_, rfl⟩)
    (case r2 => refine' .inr (L3.tab_none ?_); k_is)
    (case r3 => refine' .inr (L3.tab_none ?_); k_is)
    (case r4 => refine' .inr (L3.tab_none ?_); k_is)
    (case r5 => exact .inl ⟨_, rfl⟩)
    (case r6 => exact .inl ⟨_, rfl⟩)
    (case nt => kernel_rfl)
    refine' My.all_mk KX G hmg ?A1 ?A2 ?A3 ?A4 ?A5 ?A6 ?A7 ?A8 ?A9 ?A10 ?A11 ?A12 ?A13 ?A14 ?A15 ?A16 ?A17 ?A18 ?A19 ?A20 ?A21 ?A22 ?A23 ?a24 ?l24 ?c24 ?k24 ?z1 ?z2 ?z3 ?z4 ?z5 ?z6 ?t_height_of ?t__law_high ?t_turned
    (case A1 | A2 | A3 | A4 | A5 | A6 | A7 | A8 | A9 | A10 | A11 | A12 | A13 | A14 | A15 | A16 | A17 | A18 | A19 | A20 | A21 | A22 | A23 => refine' My.A0.mk KX G ?a ?l ?c ?k; (case a => k_is); (case l => k_is); (case c => k_is); (case k => k_is))
    (case a24 => k_is)
    (case l24 => k_is)
    (case c24 => k_is)
    (case k24 => k_is)
    (case z1 => k_is)
    (case z2 => k_is)
    (case z3 => k_is)
    (case z4 => k_is)
    (case z5 => k_is)
    (case z6 => k_is)
    (case t_height_of => refine' L3.tab_mk ?a ?l ?c ?m ?v; (case a => k_is); (case l => k_is); (case c => exact rfl); (case m => k_is); (case v => exact rfl))
    (case t__law_high => refine' L3.tab_mk ?a ?l ?c ?m ?v; (case a => k_is); (case l => k_is); (case c => exact rfl); (case m => k_is); (case v => exact rfl))
    (case t_turned => refine' L3.tab_mk ?a ?l ?c ?m ?v; (case a => k_is); (case l => k_is); (case c => exact rfl); (case m => k_is); (case v => exact rfl))
