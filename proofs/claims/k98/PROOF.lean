import PyProof.Rows.All
import Wide.All
import OpenK.AllK
import Wide.FinOn
import Lean
import PyProof.EqAt
import PyProof.EqKinds
import PyProof.TupleCall
import KE.KIsNot
import PyProof.ExcArgs
import OpenK.KOwn
import KE.LcSums
import PyProof.EnumMake
import PyProof.Draws
import PyProof.Rows.EnumRows
import PyProof.ExcBaseAll.ValueError
import PyProof.NsDelKeeps
import PySem.Challenge.RW_ladderhall_k98_whole_edges
set_option Elab.async false
set_option linter.all false
set_option Elab.async false
set_option linter.all false
set_option maxRecDepth 100000
namespace L2
open PySem PySem.Spec PyProof.Rows
noncomputable abbrev Key := Sum Int Str
noncomputable def keyIs : Key → Value → Bool
  | .inl k, v => Value.isInt k v
  | .inr x, v => Value.isStrOf x v
noncomputable def keyH (w : World) : Key → Int
  | .inl k => hashInt k
  | .inr x => hashStr w x
theorem keyIs_shape : ∀ {k : Key} {v : Value}, keyIs k v = true → (∃ i t, k = Sum.inl i ∧ v = Value.int i t) ∨ (∃ x t, k = Sum.inr x ∧ v = Value.str x t)
  | .inl i, v, h => by
    obtain ⟨t, e⟩ := Value.isInt_shape (k := i) (v := v) h
    exact .inl ⟨i, t, rfl, e⟩
  | .inr x, v, h => by
    obtain ⟨t, e⟩ := Value.isStrOf_shape (x := x) (v := v) h
    exact .inr ⟨x, t, rfl, e⟩
theorem keyIs_int (i : Int) (t : Tok) : keyIs (.inl i) (.int i t) = true := by simp [keyIs, Value.isInt]
theorem keyIs_str (x : Str) (t : Tok) : keyIs (.inr x) (.str x t) = true := by simp [keyIs, Value.isStrOf]
theorem key_ll (a b : Int) : decide ((Sum.inl a : Key) = Sum.inl b) = (a == b) := by
  by_cases e : a = b
  · subst e; simp
  · have h : ¬ (Sum.inl a : Key) = Sum.inl b := fun q => e (Sum.inl.inj q)
    rw [decide_eq_false h]
    exact (beq_eq_false_iff_ne.mpr e).symm
theorem key_rr (a b : Str) : decide ((Sum.inr a : Key) = Sum.inr b) = decide (a = b) := by
  by_cases e : a = b
  · subst e; simp
  · have h : ¬ (Sum.inr a : Key) = Sum.inr b := fun q => e (Sum.inr.inj q)
    rw [decide_eq_false h, decide_eq_false e]
theorem key_lr (a : Int) (b : Str) : decide ((Sum.inl a : Key) = Sum.inr b) = false := decide_eq_false (fun q => nomatch q)
theorem key_rl (a : Str) (b : Int) : decide ((Sum.inr a : Key) = Sum.inl b) = false := decide_eq_false (fun q => nomatch q)
noncomputable def mixKind (prog : Program) (w : World) : PySem.KeyKind prog w Key where
  is := keyIs
  hash := keyH w
  inj := fun v a b ha hb => by
    rcases keyIs_shape ha with ⟨i, t, rfl, rfl⟩ | ⟨x, t, rfl, rfl⟩
    · rcases keyIs_shape hb with ⟨j, u, rfl, e⟩ | ⟨y, u, rfl, e⟩
      · injection e with e1 _; rw [e1]
      · exact nomatch e
    · rcases keyIs_shape hb with ⟨j, u, rfl, e⟩ | ⟨y, u, rfl, e⟩
      · exact nomatch e
      · injection e with e1 _; rw [e1]
  byValue := fun k v h => by
    rcases keyIs_shape h with ⟨i, t, rfl, rfl⟩ | ⟨x, t, rfl, rfl⟩ <;> rfl
  pyHash := fun hv h => by
    rcases keyIs_shape hv with ⟨i, t, rfl, rfl⟩ | ⟨x, t, rfl, rfl⟩
    · exact wpAny_pyHash_int h
    · exact wpAny_pyHash_str h
  eqBool := fun hu hv h => by
    rcases keyIs_shape hu with ⟨i, t, rfl, rfl⟩ | ⟨x, t, rfl, rfl⟩
    · rcases keyIs_shape hv with ⟨j, u, rfl, rfl⟩ | ⟨y, u, rfl, rfl⟩
      · rw [key_ll] at h; exact wpAny_eqBool_int h
      · rw [key_lr] at h; exact SeqAt.EqAt.int_str i t y u _ _ _ _ h
    · rcases keyIs_shape hv with ⟨j, u, rfl, rfl⟩ | ⟨y, u, rfl, rfl⟩
      · rw [key_rl] at h; exact SeqAt.EqAt.str_int x t j u _ _ _ _ h
      · rw [key_rr] at h; exact wpAny_eqBool_str h
  «strs» := fun k x t v h => by
    rcases keyIs_shape h with ⟨i, u, rfl, e⟩ | ⟨y, u, rfl, e⟩
    · exact nomatch e
    · injection e with e1 _
      subst e1
      cases v <;> rfl
theorem mixKind_int (prog : Program) (w : World) (i : Int) (t : Tok) : (mixKind prog w).is (.inl i) (.int i t) = true := keyIs_int i t
theorem mixKind_str (prog : Program) (w : World) (x : Str) (t : Tok) : (mixKind prog w).is (.inr x) (.str x t) = true := keyIs_str x t
end L2
namespace L2
open PySem PySem.Spec PyProof.Rows
inductive V where
  | non | bl (b : Bool) | int (i : Int) | str (x : Str) | byt (b : Array UInt8) | flt (b : UInt64) | ref (a : Addr) | ty (n : String)
  deriving DecidableEq
noncomputable def RelV : V → Value → Prop
  | .non, u => u = Value.none
  | .bl b, u => u = Value.bool b
  | .int i, u => ∃ t, u = Value.int i t
  | .str x, u => ∃ t, u = Value.str x t
  | .byt b, u => ∃ t, u = Value.bytes b t
  | .flt b, u => ∃ t, u = Value.float b t
  | .ref a, u => u = Value.ref a
  | .ty n, u => u = Value.type n
noncomputable abbrev Vals : List V → List Value → Prop := Paired RelV
theorem Vals.length {xs : List V} {us : List Value} (r : Vals xs us) : xs.length = us.length := Paired.length r
theorem Vals.get : ∀ {xs : List V} {us : List Value} {i : Nat} {x : V}, Vals xs us → xs[i]? = some x → ∃ u, us[i]? = some u ∧ RelV x u
  | _, _, _, _, .nil, e => by simp at e
  | _, _, 0, _, .cons r _, e => by simp at e; subst e; exact ⟨_, rfl, r⟩
  | _, _, i + 1, x, .cons _ t, e => by
    obtain ⟨u, h1, h2⟩ := Vals.get (i := i) (x := x) t (by simpa using e)
    exact ⟨u, by simpa using h1, h2⟩
theorem Vals.append : ∀ {xs ys : List V} {us ws : List Value}, Vals xs us → Vals ys ws → Vals (xs ++ ys) (us ++ ws)
  | _, _, _, _, .nil, s => s
  | _, _, _, _, .cons r t, s => .cons r (Vals.append t s)
theorem Vals.take : ∀ {xs : List V} {us : List Value} (n : Nat), Vals xs us → Vals (xs.take n) (us.take n)
  | _, _, 0, _ => .nil
  | _, _, _ + 1, .nil => .nil
  | _, _, n + 1, .cons r t => .cons r (Vals.take n t)
theorem Vals.drop : ∀ {xs : List V} {us : List Value} (n : Nat), Vals xs us → Vals (xs.drop n) (us.drop n)
  | _, _, 0, r => r
  | _, _, _ + 1, .nil => .nil
  | _, _, n + 1, .cons _ t => Vals.drop n t
noncomputable def RelO : Option V → Option Value → Prop
  | some v, some u => RelV v u
  | none, none => True
  | _, _ => False
noncomputable def KV {κ : Type} : List (κ × V) → List (κ × Value) → Prop := Paired fun (p : κ × V) (q : κ × Value) => p.1 = q.1 ∧ RelV p.2 q.2
noncomputable def kV : Key → V
  | .inl i => .int i
  | .inr x => .str x
inductive HO where
  /-- a list -/
  | lst (xs : List V)
  /-- a tuple (never changes) -/
  | tup (xs : List V)
  /-- a dict whose keys are ints and texts; one whose keys are tuples of ints and texts (the empty one is both) -/
  | dK (kvs : List (Key × V)) | dT (kvs : List (List Key × V))
  /-- a set of ints: its members, its size -/
  | set (S : Int → Bool) (n : Nat)
  /-- an instance of the class at C, its dict at dx, its attributes -/
  | ins (C dx : Addr) (fs : List (Str × V))
  /-- the dict of the instance at x -/
  | own (x : Addr)
  /-- the dict of an exception -/
  | xd (fs : List (Str × V))
  /-- a bound method, f of x -/
  | met (f x : Addr)
  /-- a range object lo, lo + 1, .. below hi -/
  | rng (lo hi : Int)
  /-- a thing that is known to the object (the script; a dict while a loop walks it): read, never written while it is so -/
  | frz (o : Obj) (u : HO)
  /-- a code object's table -/
  | tbl (ps : Array Value)
  /-- any other thing, by what is true of its one object (a def of one's own: SetO a S n := HO.ext fun h => ..) -/
  | ext (φ : Heap → Prop)
noncomputable abbrev Hp := Addr → Option HO
noncomputable def upd (H : Hp) (a : Addr) (o : HO) : Hp := fun b => if b = a then some o else H b
theorem upd_same {H : Hp} {a : Addr} {o : HO} : upd H a o a = some o := by unfold upd; rw [if_pos rfl]
theorem upd_ne {H : Hp} {a b : Addr} {o : HO} (h : b ≠ a) : upd H a o b = H b := by unfold upd; rw [if_neg h]
theorem upd_upd {H : Hp} {a : Addr} {o u : HO} : upd (upd H a o) a u = upd H a u := by
  funext b; unfold upd; split <;> rfl
theorem ne_of_none {H : Hp} {a b : Addr} {o : HO} (h : H a = some o) (h' : H b = none) : a ≠ b := by
  intro e; subst e; rw [h] at h'; cases h'
noncomputable def IsTupD (h : Heap) (a : Addr) (items : Array Value) : Prop := ∃ o, h.get? a = some o ∧ o.cls = .type "tuple" ∧ (∃ n, o.data = .seq items n) ∧ o.dict = none
theorem IsTupD.tup {h : Heap} {a : Addr} {items : Array Value} (x : IsTupD h a items) : IsTup h a items := let ⟨o, e, c, n, _⟩ := x; ⟨o, e, c, n⟩
theorem IsTupD.new (h : Heap) (items : Array Value) : IsTupD (h.push { cls := .type "tuple", data := .seq items }) h.objs.size items := ⟨_, Heap.get?_push_size _ rfl, rfl, ⟨_, rfl⟩, rfl⟩
theorem IsTupD.lt {h : Heap} {a : Addr} {items : Array Value} (x : IsTupD h a items) : a < h.objs.size := let ⟨_, e, _⟩ := x; Heap.lt_size e
section
variable (P : Program) (w : World)
noncomputable def ObjOk (H : Hp) (h : Heap) (a : Addr) : HO → Prop
  | .lst xs => xs.length ≤ sizeLine ∧ ∃ (its : List Value) (n : Nat), Vals xs its ∧ h.get? a = some { cls := .type "list", data := .seq its.toArray n }
  | .tup xs => xs.length ≤ sizeLine ∧ ∃ its : List Value, Vals xs its ∧ IsTupD h a its.toArray
  | .dK kvs => kvs.length ≤ sizeLine ∧ (a == sysModules) = false ∧ ∃ vs, KV kvs vs ∧ h.DictOf (mixKind P w) a vs
  | .dT kvs => kvs.length ≤ sizeLine ∧ (a == sysModules) = false ∧ ∃ xs : List (List Key × Addr × Value),
      Paired (fun (p : List Key × V) (q : List Key × Addr × Value) => p.1 = q.1 ∧ H q.2.1 = some (.tup (p.1.map kV)) ∧ RelV p.2 q.2.2) kvs xs ∧
      ∃ o es ep, h.get? a = some o ∧ o.ExactDict ∧ o.data = .dict es ep ∧ es.toList = xs.map (entryOfKey (tupleKind (mixKind P w))) ∧ (xs.map (·.1)).Nodup
  | .set S n => h.SetOf (intKind P w) a S n
  | .ins C dx fs => H dx = some (.own a) ∧ fs.length ≤ 1000 ∧ dx ≠ a ∧ h.get? a = some (PySem.W.instObj C dx) ∧
      ∃ mA, h.Ns1 dx mA ∧ (∀ f, RelO (fs.lookup f) (mA f)) ∧ PySem.Within mA (fs.map (·.1))
  | .own _ => ∃ o, h.get? a = some o
  | .xd fs => ∃ mA, h.Ns1 a mA ∧ ∀ f, RelO (fs.lookup f) (mA f)
  | .rng lo hi => ∃ t u v, h.get? a = some { cls := .type "range", data := .fields #[.int lo t, .int hi u, .int 1 v] }
  | .frz o u => h.get? a = some o ∧ ObjOk H h a u
  | .tbl ps => h.get? a = some { cls := .none, data := .fields ps }
  | .met f x => h.get? a = some (PySem.W.methodObj (.ref f) (.ref x))
  | .ext φ => φ h ∧ (∃ o, h.get? a = some o) ∧ ∀ h1 h2 : Heap, φ h1 → (∀ o, h1.get? a = some o → h2.get? a = some o) → φ h2
noncomputable def HOk (H : Hp) (h : Heap) : Prop := ∀ a o, H a = some o → ObjOk P w H h a o
end
section
variable {P : Program} {w : World} {H H' : Hp} {h h' : Heap} {a : Addr} {o : HO}
theorem ObjOk.lt (x : ObjOk P w H h a o) : a < h.objs.size := by
  cases o with
  | lst xs => obtain ⟨_, _, _, _, e⟩ := x; exact Heap.lt_size e
  | tup xs => obtain ⟨_, _, _, p⟩ := x; exact p.lt
  | dK kvs => obtain ⟨_, _, _, _, o, _, _, e, _⟩ := x; exact Heap.lt_size e
  | dT kvs => obtain ⟨_, _, _, _, o, _, _, e, _⟩ := x; exact Heap.lt_size e
  | set S n => obtain ⟨o, _, _, _, e, _⟩ := x; exact Heap.lt_size e
  | ins C dx fs => obtain ⟨_, _, _, e, _⟩ := x; exact Heap.lt_size e
  | own y => obtain ⟨_, e⟩ := x; exact Heap.lt_size e
  | xd fs => obtain ⟨_, ⟨_, _, _, e, _⟩, _⟩ := x; exact Heap.lt_size e
  | rng lo hi => obtain ⟨_, _, _, e⟩ := x; exact Heap.lt_size e
  | frz ob u => obtain ⟨e, _⟩ := x; exact Heap.lt_size e
  | tbl ps => exact Heap.lt_size (show h.get? a = some _ from x)
  | met f y => exact Heap.lt_size (show h.get? a = some _ from x)
  | ext φ => obtain ⟨_, ⟨_, e⟩, _⟩ := x; exact Heap.lt_size e
theorem Paired.mapP {α β : Type} {F G : α → β → Prop} : ∀ {l₁ : List α} {l₂ : List β}, Paired F l₁ l₂ → (∀ a b, F a b → G a b) → Paired G l₁ l₂
  | _, _, .nil, _ => .nil
  | _, _, .cons r t, f => .cons (f _ _ r) (Paired.mapP t f)
theorem ObjOk.stay (x : ObjOk P w H h a o) (k : ∀ b u, (b = a ∨ H b = some (.own a)) → h.get? b = some u → h'.get? b = some u)
    (ho : ∀ b, H b = some (.own a) → H' b = some (.own a)) (ht : ∀ b xs, H b = some (.tup xs) → H' b = some (.tup xs)) : ObjOk P w H' h' a o := by
  induction o with
  | lst xs => obtain ⟨z, its, n, r, e⟩ := x; exact ⟨z, its, n, r, k _ _ (.inl rfl) e⟩
  | tup xs => obtain ⟨z, its, r, ob, e, c⟩ := x; exact ⟨z, its, r, ob, k _ _ (.inl rfl) e, c⟩
  | dK kvs => obtain ⟨z, y, vs, r, ob, es, ep, e, c⟩ := x; exact ⟨z, y, vs, r, ob, es, ep, k _ _ (.inl rfl) e, c⟩
  | dT kvs =>
    obtain ⟨z, y, xs, r, ob, es, ep, e, c⟩ := x
    exact ⟨z, y, xs, Paired.mapP r fun p q z => ⟨z.1, ht _ _ z.2.1, z.2.2⟩, ob, es, ep, k _ _ (.inl rfl) e, c⟩
  | set S n => obtain ⟨ob, es, ep, t, e, c⟩ := x; exact ⟨ob, es, ep, t, k _ _ (.inl rfl) e, c⟩
  | ins C dx fs =>
    obtain ⟨d, z, ne, e, mA, ⟨od, es, ep, e2, c⟩, r⟩ := x
    exact ⟨ho _ d, z, ne, k _ _ (.inl rfl) e, mA, ⟨od, es, ep, k _ _ (.inr d) e2, c⟩, r⟩
  | own y => obtain ⟨ob, e⟩ := x; exact ⟨ob, k _ _ (.inl rfl) e⟩
  | xd fs => obtain ⟨mA, ⟨od, es, ep, e, c⟩, r⟩ := x; exact ⟨mA, ⟨od, es, ep, k _ _ (.inl rfl) e, c⟩, r⟩
  | rng lo hi => obtain ⟨t, u, v, e⟩ := x; exact ⟨t, u, v, k _ _ (.inl rfl) e⟩
  | frz ob u ih => obtain ⟨e, q⟩ := x; exact ⟨k _ _ (.inl rfl) e, ih q⟩
  | tbl ps =>
    have e : h.get? a = some { cls := .none, data := .fields ps } := x
    show h'.get? a = some { cls := .none, data := .fields ps }
    exact k a _ (.inl rfl) e
  | met f y =>
    have e : h.get? a = some (PySem.W.methodObj (.ref f) (.ref y)) := x
    show h'.get? a = some (PySem.W.methodObj (.ref f) (.ref y))
    exact k a _ (.inl rfl) e
  | ext φ => obtain ⟨p, ⟨o, e⟩, st⟩ := x; exact ⟨st _ _ p fun o q => k _ _ (.inl rfl) q, ⟨o, k _ _ (.inl rfl) e⟩, st⟩
theorem HOk.lt (x : HOk P w H h) (e : H a = some o) : a < h.objs.size := (x a o e).lt
theorem HOk.fresh (x : HOk P w H h) (e : h.objs.size ≤ a) : H a = none := by
  cases q : H a with
  | none => rfl
  | some u => exact absurd (Nat.lt_of_lt_of_le (x.lt q) e) (Nat.lt_irrefl _)
theorem HOk.kept (x : HOk P w H h) (k : ∀ b u, h.get? b = some u → h'.get? b = some u) : HOk P w H h' := fun a o e =>
  (x a o e).stay (fun b u _ q => k b u q) (fun _ q => q) fun _ _ q => q
theorem HOk.laid (x : HOk P w H h) (k : ∀ b u, h.get? b = some u → h'.get? b = some u) (hp : h.objs.size ≤ a) (new : ObjOk P w (upd H a o) h' a o) : HOk P w (upd H a o) h' := fun b u e => by
  have hn := x.fresh hp
  by_cases hb : b = a
  · subst hb; rw [upd_same] at e; cases e; exact new
  · rw [upd_ne hb] at e
    exact (x b u e).stay (fun c v _ q => k c v q) (fun c q => by rw [upd_ne (ne_of_none q hn)]; exact q) fun c xs q => by rw [upd_ne (ne_of_none q hn)]; exact q
end
noncomputable def Rd (H : Hp) (a : Addr) (u : HO) : Prop := H a = some u ∨ ∃ o, H a = some (.frz o u)
theorem Rd.of {H : Hp} {a : Addr} {u : HO} (h : H a = some u) : Rd H a u := .inl h
theorem Rd.ok {P : Program} {w : World} {H : Hp} {h : Heap} {a : Addr} {u : HO} (r : Rd H a u) (x : HOk P w H h) : ObjOk P w H h a u := by
  rcases r with r | ⟨o, r⟩
  · exact x a u r
  · obtain ⟨_, q⟩ := x a _ r
    exact q
noncomputable def Mut : Option HO → Prop
  | some (.lst _) => True
  | some (.dK _) => True
  | some (.dT _) => True
  | some (.set _ _) => True
  | some (.ins _ _ _) => True
  | some (.ext _) => True
  | _ => False
section
variable {P : Program} {w : World} {H : Hp} {h h' : Heap} {x e : Addr} {o' : HO}
theorem HOk.write (ok : HOk P w H h) (mu : Mut (H x)) (he : e = x ∨ H e = some (.own x)) (k : ∀ b u, b ≠ e → h.get? b = some u → h'.get? b = some u) (heo : ∃ u, h'.get? e = some u)
    (new : ObjOk P w (upd H x o') h' x o') : HOk P w (upd H x o') h' := fun b u q => by
  have nown : ∀ c y, H c = some (.own y) → c ≠ x := fun c y r z => by subst z; rw [r] at mu; exact mu
  have ntup : ∀ c xs, H c = some (.tup xs) → c ≠ x := fun c xs r z => by subst z; rw [r] at mu; exact mu
  by_cases hb : b = x
  · subst hb; rw [upd_same] at q; cases q; exact new
  · rw [upd_ne hb] at q
    by_cases hbe : b = e
    · have q' : H b = some (.own x) := by
        rcases he with z | z
        · exact absurd (hbe.trans z) hb
        · rw [hbe]; exact z
      rw [q] at q'; cases q'
      obtain ⟨v, hv⟩ := heo
      exact ⟨v, by rw [hbe]; exact hv⟩
    · refine (ok b u q).stay (fun c v hc r => k c v ?_ r) (fun c r => by rw [upd_ne (nown c b r)]; exact r) fun c xs r => by rw [upd_ne (ntup c xs r)]; exact r
      rcases hc with rfl | hc
      · exact hbe
      · rintro rfl
        rcases he with z | z
        · exact nown c b hc z
        · rw [hc] at z; cases z; exact hb rfl
end
structure Un (fs ex : List Addr) (H H' : Hp) (h h' : Heap) : Prop where
  keep : ∀ b o, h.get? b = some o → H b = none → b ∉ fs → b ∉ ex → h'.get? b = some o
  slot : ∀ b o, h.get? b = some o → H b = none → b ∈ fs → b ∉ ex → ∃ sl, h'.get? b = some { o with slots := sl }
  free : ∀ b o, h.get? b = some o → H b = none → b ∉ ex → H' b = none
  there : ∀ b o, h.get? b = some o → b ∉ ex → ∃ o', h'.get? b = some o'
  tups : ∀ b xs, H b = some (.tup xs) → H' b = some (.tup xs)
  frzs : ∀ b o u, H b = some (.frz o u) → H' b = some (.frz o u)
  tbls : ∀ b ps, H b = some (.tbl ps) → ∃ more, H' b = some (.tbl (ps ++ more))
section
variable {fs fs' ex ex' : List Addr} {H H1 H2 : Hp} {h h1 h2 h' : Heap} {a x e : Addr} {o : HO}
theorem Un.any (u : Un fs ex H H1 h h1) {b : Addr} {ob : Obj} (q : h.get? b = some ob) (n : H b = none) (hx : b ∉ ex) : ∃ sl, h1.get? b = some { ob with slots := sl } := by
  by_cases hb : b ∈ fs
  · exact u.slot b ob q n hb hx
  · exact ⟨ob.slots, u.keep b ob q n hb hx⟩
theorem Un.kept (k : ∀ b u, h.get? b = some u → h'.get? b = some u) : Un fs ex H H h h' :=
  ⟨fun b ob q _ _ _ => k b ob q, fun b ob q _ _ _ => ⟨ob.slots, k b ob q⟩, fun _ _ _ n _ => n, fun b ob q _ => ⟨ob, k b ob q⟩, fun _ _ q => q, fun _ _ _ q => q, fun _ ps q => ⟨#[], by rw [q]; simp⟩⟩
theorem Un.refl : Un fs ex H H h h := Un.kept fun _ _ q => q
theorem Un.laid (k : ∀ b u, h.get? b = some u → h'.get? b = some u) (hp : h.objs.size ≤ a) (hn : H a = none) : Un fs ex H (upd H a o) h h' where
  keep := fun b u q _ _ _ => k b u q
  slot := fun b u q _ _ _ => ⟨u.slots, k b u q⟩
  free := fun b u q n _ => by rw [upd_ne (Nat.ne_of_lt (Nat.lt_of_lt_of_le (Heap.lt_size q) hp))]; exact n
  there := fun b u q _ => ⟨u, k b u q⟩
  tups := fun b xs q => by rw [upd_ne (ne_of_none q hn)]; exact q
  frzs := fun b u xs q => by rw [upd_ne (ne_of_none q hn)]; exact q
  tbls := fun b ps q => ⟨#[], by rw [upd_ne (ne_of_none q hn), q]; simp⟩
theorem Un.write (mu : Mut (H x)) (he : e = x ∨ H e = some (.own x)) (k : ∀ b u, b ≠ e → h.get? b = some u → h'.get? b = some u) (heo : ∃ u, h'.get? e = some u) : Un fs ex H (upd H x o) h h' := by
  have hx : ∀ b, H b = none → b ≠ x := fun b n z => by subst z; rw [n] at mu; exact mu
  have hb : ∀ b, H b = none → b ≠ e := fun b n z => by
    subst z
    rcases he with r | r
    · exact hx b n r
    · rw [n] at r; cases r
  have hm : ∀ b u, H b = some u → ¬ Mut (some u) → b ≠ x := fun b u q nm z => by subst z; rw [q] at mu; exact nm mu
  refine ⟨fun b u q n _ _ => k b u (hb b n) q, fun b u q n _ _ => ⟨u.slots, k b u (hb b n) q⟩, fun b u q n _ => by rw [upd_ne (hx b n)]; exact n, fun b u q _ => ?_,
    fun b xs q => by rw [upd_ne (hm b _ q fun z => z)]; exact q, fun b u xs q => by rw [upd_ne (hm b _ q fun z => z)]; exact q, fun b ps q => ⟨#[], by rw [upd_ne (hm b _ q fun z => z), q]; simp⟩⟩
  by_cases hbe : b = e
  · subst hbe; exact heo
  · exact ⟨u, k b u hbe q⟩
end
noncomputable def trk (h : Heap) (H : Hp) : List Addr := (List.range h.objs.size).filter fun a => (H a).isSome
noncomputable def hidT (h : Heap) (H : Hp) : Heap := PySem.W.hideAll h (trk h H)
theorem hidT_size (h : Heap) (H : Hp) : (hidT h H).objs.size = h.objs.size := PySem.W.hideAll_size _ _
theorem hidT_get {h : Heap} {H : Hp} {b : Addr} {o : Obj} (e : h.get? b = some o) (n : H b = none) : (hidT h H).get? b = some o :=
  PySem.W.hideAll_get _ e fun hm => by
    have q : (H b).isSome = true := (List.mem_filter.mp hm).2
    rw [n] at q; simp at q
theorem of_hidT {h : Heap} {H : Hp} {b : Addr} {o : Obj} (e : (hidT h H).get? b = some o) : h.get? b = some o ∧ H b = none := by
  have e' : h.get? b = some o := PySem.W.of_hideAll (trk h H) e
  refine ⟨e', ?_⟩
  cases q : H b with
  | none => rfl
  | some x =>
    have hm : b ∈ trk h H := List.mem_filter.mpr ⟨List.mem_range.mpr (Heap.lt_size e'), by simp [q]⟩
    have z : (hidT h H).get? b = none := PySem.W.hideAll_none (trk h H) hm
    rw [z] at e; cases e
noncomputable def allNews (g h : Heap) (L : Addr) : List (Addr × Obj) := (List.range h.objs.size).filterMap fun a => if a = L ∨ (g.get? a).isSome = true then none else (h.get? a).map fun o => (a, o)
noncomputable def rest (g h : Heap) (L d : Addr) : List (Addr × Obj) := (allNews g h L).filter fun p => decide (p.1 ≠ d)
end L2
namespace L2
open PySem PySem.Spec PyProof.Rows
structure Mod (K : PySem.W.Frag) (mg : Str → Option Value) (base : Heap) : Prop where
  kin : K.In base
  glob : base.Ns mainGlobals mg
  blt : ∃ mb, base.Ns builtinsNs mb ∧ ∀ x : Str, x ≠ "__name__" → mb x = bootBuiltins x
  nolimit : base.NoLimit
structure Cx where
  prog : Program
  w : World
  K : PySem.W.Frag
  mg : Str → Option Value
  base : Heap
  A : Around
  N : List Str
  s₀ : Shared
  H₀ : Hp
  env : Env
  outer : List Env
  stack : List Env
  ex : List Addr
  fn : Str → Bool
  calm : Bool
  pn : List (Addr × Obj)
  xe : Value → Shared → Prop
noncomputable def frs (l : List Env) : List Addr := l.filterMap (·.frame)
noncomputable abbrev Cx.fs (X : Cx) : List Addr := frs X.outer
noncomputable def Vis (sc : Scope) (x : Str) : Prop := sc.names.lookup x = some .local ∨ sc.names.lookup x = some .cell ∨ sc.names.lookup x = some .free
noncomputable def Loc (sc : Scope) (x : Str) : Prop := sc.names.lookup x = some .local ∨ sc.names.lookup x = some .cell
noncomputable def Look (env : Env) (h : Heap) (m : Str → Option Value) (x : Str) (u : Value) : Prop :=
  (env.kindOf x = some .local ∧ m x = some u) ∨ ((env.kindOf x = some .cell ∨ env.kindOf x = some .free) ∧ ∃ c, env.cells.lookup x = some c ∧ h.IsCell c (some u))
structure Cx.Ok (X : Cx) : Prop where
  mod : Mod X.K X.mg X.base
  kind : X.env.scope.kind = .function
  glob : X.env.globals = mainGlobals
  blt : X.env.builtins = builtinsNs
  above : X.s₀.heap.objs.size ≤ X.env.locals
  inj : ∀ x y c, X.env.cells.lookup x = some c → X.env.cells.lookup y = some c → x = y
  has : ∀ x, (X.env.kindOf x = some .cell ∨ X.env.kindOf x = some .free) → ∃ c, X.env.cells.lookup x = some c
  cab : ∀ x c, X.fn x = true → X.env.cells.lookup x = some c → X.s₀.heap.objs.size ≤ c
  hd : X.calm = true → X.A.handled = none
  frames : X.A.frames = some X.stack
  stk : X.stack = X.outer ∨ (X.stack = X.env :: X.outer ∧ X.env.frame = some X.env.locals)
  exf : ∀ b ∈ X.ex, b ≠ X.env.locals ∧ ∀ x c, X.env.cells.lookup x = some c → c ≠ b
  bs : ∀ b o, X.base.get? b = some o → X.s₀.heap.get? b = some o ∧ X.H₀ b = none
  bsz : X.base.objs.size ≤ X.s₀.heap.objs.size
  noex : ∀ b o, X.base.get? b = some o → b ∉ X.ex
  exfs : ∀ b ∈ X.ex, b ∉ X.fs
  funs : X.s₀.heap.FunFrames X.base X.outer
  frf : ∀ b ∈ X.fs, X.H₀ b = none
structure Inv (X : Cx) (pins : List (Addr × Obj)) (σ : List (Option V)) (H : Hp) (s : Shared) : Prop where
  ok : X.Ok
  os : s.os = X.s₀.os
  bare : AllBare s.gens
  base : Un X.fs X.ex X.H₀ H X.s₀.heap s.heap
  loc : ∃ m, s.heap.Ns X.env.locals m ∧ ∀ (i : Nat) (x : Str) (v : V), X.N[i]? = some x → σ[i]? = some (some v) → Vis X.env.scope x → ∃ u, RelV v u ∧ Look X.env s.heap m x u
  cell : ∀ x c, X.env.cells.lookup x = some c → ∃ v, s.heap.IsCell c v
  free : H X.env.locals = none
  freeC : ∀ x c, X.env.cells.lookup x = some c → H c = none
  pin : ∀ p ∈ X.pn ++ pins, s.heap.get? p.1 = some p.2 ∧ H p.1 = none ∧ p.1 ≠ X.env.locals ∧ p.1 ∉ X.fs ∧ ∀ v, p.2.data ≠ .cell v
  hok : HOk X.prog X.w H s.heap
  len : σ.length = X.N.length
section
variable {X : Cx} {pins : List (Addr × Obj)} {σ : List (Option V)} {H H' : Hp} {s : Shared} {h' : Heap}
theorem Cx.Ok.nofr (ok : X.Ok) {b : Addr} {o : Obj} (e : X.base.get? b = some o) : b ∉ X.fs := fun hb => by
  have := (ok.funs.mem hb).1
  rw [e] at this; cases this
theorem Inv.bs (I : Inv X pins σ H s) : ∀ b o, X.base.get? b = some o → s.heap.get? b = some o ∧ H b = none := fun b o e =>
  ⟨I.base.keep b o (I.ok.bs b o e).1 (I.ok.bs b o e).2 (I.ok.nofr e) (I.ok.noex b o e), I.base.free b o (I.ok.bs b o e).1 (I.ok.bs b o e).2 (I.ok.noex b o e)⟩
theorem Inv.bk (I : Inv X pins σ H s) : ∀ b o, X.base.get? b = some o → s.heap.get? b = some o := fun b o e => (I.bs b o e).1
theorem Inv.mod (I : Inv X pins σ H s) : Mod X.K X.mg X.base := I.ok.mod
theorem Inv.kIn (I : Inv X pins σ H s) : X.K.In s.heap := I.ok.mod.kin.keeps I.bk
theorem Inv.fr (I : Inv X pins σ H s) : ∃ m, Fr X.base X.env.locals s.heap m :=
  let ⟨m, hn, _⟩ := I.loc
  ⟨m, hn, I.bk, Nat.le_trans I.ok.bsz I.ok.above⟩
theorem Inv.lt (I : Inv X pins σ H s) : X.env.locals < s.heap.objs.size := let ⟨_, hn, _⟩ := I.loc; hn.lt
theorem Inv.sz (I : Inv X pins σ H s) : X.s₀.heap.objs.size ≤ s.heap.objs.size := Nat.le_trans I.ok.above (Nat.le_of_lt I.lt)
theorem Inv.nofs (I : Inv X pins σ H s) {a : Addr} (h : s.heap.objs.size ≤ a) : a ∉ X.fs := fun hb => by
  obtain ⟨_, o, ho, _⟩ := I.ok.funs.mem hb
  exact absurd (Nat.lt_of_lt_of_le (Heap.lt_size ho) (Nat.le_trans I.sz h)) (Nat.lt_irrefl _)
theorem Inv.cne (I : Inv X pins σ H s) : ∀ x c, X.env.cells.lookup x = some c → c ≠ X.env.locals := fun x c e z => by
  obtain ⟨v, o, ho, hd⟩ := I.cell x c e
  obtain ⟨m, ⟨o', es, ep, ho', hd', _⟩, _⟩ := I.loc
  rw [z, ho'] at ho; cases ho; rw [hd'] at hd; cases hd
theorem Inv.funs (I : Inv X pins σ H s) : s.heap.FunFrames X.base X.outer := by
  have all : ∀ (l : List Env), (∀ b ∈ frs l, b ∈ X.fs) → X.s₀.heap.FunFrames X.base l → s.heap.FunFrames X.base l := by
    intro l
    induction l with
    | nil => intro _ _; trivial
    | cons env r ih =>
      intro hs hl
      obtain ⟨hk, ⟨L, o, hf, hn, ho, hd⟩, hr⟩ := hl
      have hL : L ∈ X.fs := hs L (by unfold frs; rw [List.filterMap_cons, hf]; exact List.mem_cons_self)
      obtain ⟨sl, e⟩ := I.base.slot L o ho (I.ok.frf L hL) hL fun z => I.ok.exfs L z hL
      exact ⟨hk, ⟨L, _, hf, hn, e, hd⟩, ih (fun b hb => hs b (by unfold frs; rw [List.filterMap_cons, hf]; exact List.mem_cons_of_mem _ hb)) hr⟩
  exact all X.outer (fun _ hb => hb) I.ok.funs
theorem Inv.stack (I : Inv X pins σ H s) : s.heap.FunFrames X.base X.stack := by
  rcases I.ok.stk with e | ⟨e, hf⟩
  · rw [e]; exact I.funs
  · rw [e]
    obtain ⟨m, hn, _⟩ := I.loc
    refine .cons (by rw [I.ok.kind]; decide) hf hn ?_ I.funs
    exact Heap.get?_none_of_le (Nat.le_trans I.ok.bsz I.ok.above)
theorem Inv.stkSub (I : Inv X pins σ H s) : ∀ b ∈ frs X.stack, b ∈ X.env.locals :: X.fs := fun b hb => by
  rcases I.ok.stk with e | ⟨e, hf⟩
  · rw [e] at hb; exact List.mem_cons_of_mem _ hb
  · rw [e] at hb
    unfold frs at hb
    rw [List.filterMap_cons, hf] at hb
    exact hb
theorem Inv.stkFree (I : Inv X pins σ H s) : ∀ b ∈ frs X.stack, H b = none := fun b hb => by
  rcases List.mem_cons.mp (I.stkSub b hb) with e | hb
  · rw [e]; exact I.free
  · obtain ⟨_, o, ho, _⟩ := I.ok.funs.mem hb
    exact I.base.free b o ho (I.ok.frf b hb) fun z => I.ok.exfs b z hb
theorem Inv.step {g' : Array GenState} {t' : Nat} {d' : Drawn} {ch : List Addr} (I : Inv X pins σ H s)
    (hch : ∀ b ∈ ch, (b ∈ X.ex ∨ X.s₀.heap.objs.size ≤ b) ∧ b ≠ X.env.locals ∧ (∀ x c, X.env.cells.lookup x = some c → c ≠ b) ∧ ∀ p ∈ X.pn ++ pins, p.1 ≠ b)
    (keep : ∀ b o, b ≠ X.env.locals → b ∉ X.fs → b ∉ ch → s.heap.get? b = some o → H b = none → h'.get? b = some o)
    (slot : ∀ b o, b ≠ X.env.locals → b ∈ X.fs → b ∉ ch → s.heap.get? b = some o → H b = none → ∃ sl, h'.get? b = some { o with slots := sl }) (free : ∀ b o, b ∉ ch → s.heap.get? b = some o → H b = none → H' b = none)
    (there : ∀ b o, b ∉ ch → s.heap.get? b = some o → ∃ o', h'.get? b = some o')
    (tups : ∀ b xs, H b = some (.tup xs) → H' b = some (.tup xs)) (frzs : ∀ b o u, H b = some (.frz o u) → H' b = some (.frz o u)) (tbls : ∀ b ps, H b = some (.tbl ps) → ∃ more, H' b = some (.tbl (ps ++ more)))
    (ns : ∀ m, s.heap.Ns X.env.locals m → h'.Ns X.env.locals m) (hok : HOk X.prog X.w H' h') (hg : AllBare g') :
    Inv X pins σ H' { s with heap := h', gens := g', drawn := d', toks := t' } := by
  have neL : ∀ b o, X.s₀.heap.get? b = some o → b ≠ X.env.locals := fun b o e => Nat.ne_of_lt (Nat.lt_of_lt_of_le (Heap.lt_size e) I.ok.above)
  have neC : ∀ b o, X.s₀.heap.get? b = some o → b ∉ X.ex → b ∉ ch := fun b o e hx hb => by
    rcases (hch b hb).1 with z | z
    · exact hx z
    · exact absurd (Nat.lt_of_lt_of_le (Heap.lt_size e) z) (Nat.lt_irrefl _)
  have cellK : ∀ x c, X.env.cells.lookup x = some c → ∀ v, s.heap.IsCell c v → h'.IsCell c v := fun x c e v hh0 => by
    obtain ⟨o, ho, hd⟩ := hh0
    have nch : c ∉ ch := fun z => (hch c z).2.2.1 x c e rfl
    by_cases hc : c ∈ X.fs
    · obtain ⟨sl, q⟩ := slot c o (I.cne x c e) hc nch ho (I.freeC x c e)
      exact ⟨_, q, hd⟩
    · exact ⟨o, keep c o (I.cne x c e) hc nch ho (I.freeC x c e), hd⟩
  refine ⟨I.ok, I.os, hg, ⟨fun b o e n hb hx => ?_, fun b o e n hb hx => ?_, fun b o e n hx => ?_, fun b o e hx => ?_, fun b xs e => tups b xs (I.base.tups b xs e), fun b o xs e => frzs b o xs (I.base.frzs b o xs e), fun b ps e => ?_⟩, ?_, fun x c e => ?_, ?_, fun x c e => ?_, fun p hp => ?_, hok, I.len⟩
  · exact keep b o (neL b o e) hb (neC b o e hx) (I.base.keep b o e n hb hx) (I.base.free b o e n hx)
  · obtain ⟨sl, e1⟩ := I.base.slot b o e n hb hx
    obtain ⟨sl', e2⟩ := slot b _ (neL b o e) hb (neC b o e hx) e1 (I.base.free b o e n hx)
    exact ⟨sl', e2⟩
  · obtain ⟨o', e1⟩ := I.base.there b o e hx
    exact free b o' (neC b o e hx) e1 (I.base.free b o e n hx)
  · obtain ⟨o', e1⟩ := I.base.there b o e hx
    exact there b o' (neC b o e hx) e1
  · obtain ⟨m1, e1⟩ := I.base.tbls b ps e
    obtain ⟨m2, e2⟩ := tbls b _ e1
    exact ⟨m1 ++ m2, by rw [e2, Array.append_assoc]⟩
  · obtain ⟨m, hn, hl⟩ := I.loc
    refine ⟨m, ns m hn, fun i x v e1 e2 e3 => ?_⟩
    obtain ⟨u, r, l⟩ := hl i x v e1 e2 e3
    refine ⟨u, r, ?_⟩
    rcases l with l | ⟨k, c, e, z⟩
    · exact .inl l
    · exact .inr ⟨k, c, e, cellK x c e _ z⟩
  · obtain ⟨v, z⟩ := I.cell x c e
    exact ⟨v, cellK x c e v z⟩
  · obtain ⟨m, ⟨o, _, _, ho, _⟩, _⟩ := I.loc
    exact free _ o (fun z => (hch _ z).2.1 rfl) ho I.free
  · obtain ⟨v, o, ho, hd⟩ := I.cell x c e
    exact free c o (fun z => (hch c z).2.2.1 x c e rfl) ho (I.freeC x c e)
  · obtain ⟨e, n, ne, nf, d⟩ := I.pin p hp
    have nch : p.1 ∉ ch := fun z => (hch p.1 z).2.2.2 p hp rfl
    exact ⟨keep p.1 p.2 ne nf nch e n, free p.1 p.2 nch e n, ne, nf, d⟩
theorem Inv.un {t' : Nat} (I : Inv X pins σ H s) (u : Un X.fs [] H H' s.heap h') (hok : HOk X.prog X.w H' h') : Inv X pins σ H' { s with heap := h', toks := t' } := by
  obtain ⟨m, ⟨o, es, ep, ho, r⟩, _⟩ := id I.loc
  obtain ⟨sl, hL⟩ := u.any ho I.free (by simp)
  exact I.step (g' := s.gens) (d' := s.drawn) (ch := []) (fun _ z => nomatch z) (fun b o _ hb _ e n => u.keep b o e n hb (by simp)) (fun b o _ hb _ e n => u.slot b o e n hb (by simp)) (fun b o _ e n => u.free b o e n (by simp)) (fun b o _ e => u.there b o e (by simp)) u.tups u.frzs u.tbls (fun m' hm => by
    obtain ⟨o', es', ep', ho', r'⟩ := hm
    rw [ho] at ho'; cases ho'
    exact ⟨_, es', ep', hL, r'⟩) hok I.bare
theorem Inv.call {g' : Array GenState} {t' : Nat} {d' : Drawn} {ch : List Addr} (I : Inv X pins σ H s) (u : Un (frs X.stack) ch H H' s.heap h') (hok : HOk X.prog X.w H' h') (hg : AllBare g')
    (hch : ∀ b ∈ ch, (b ∈ X.ex ∨ X.s₀.heap.objs.size ≤ b) ∧ b ≠ X.env.locals ∧ (∀ x c, X.env.cells.lookup x = some c → c ≠ b) ∧ ∀ p ∈ X.pn ++ pins, p.1 ≠ b) :
    Inv X pins σ H' { s with heap := h', gens := g', drawn := d', toks := t' } := by
  obtain ⟨m, ⟨o, es, ep, ho, r⟩, _⟩ := id I.loc
  obtain ⟨sl, hL⟩ := u.any ho I.free fun z => (hch _ z).2.1 rfl
  exact I.step (ch := ch) hch (fun b o hL hb hc e n => u.keep b o e n (fun z => (List.mem_cons.mp (I.stkSub b z)).elim hL hb) hc) (fun b o _ _ hc e n => u.any e n hc) (fun b o hc e n => u.free b o e n hc) (fun b o hc e => u.there b o e hc) u.tups u.frzs u.tbls (fun m' hm => by
    obtain ⟨o', es', ep', ho', r'⟩ := hm
    rw [ho] at ho'; cases ho'
    exact ⟨_, es', ep', hL, r'⟩) hok hg
theorem Inv.turned {t' : Nat} {it : Addr} (I : Inv X pins σ H s) (k : ∀ b o, b ≠ it → s.heap.get? b = some o → h'.get? b = some o) (hn : H it = none) (hL : it ≠ X.env.locals)
    (h1 : it ∈ X.ex ∨ X.s₀.heap.objs.size ≤ it) (h2 : ∀ x c, X.env.cells.lookup x = some c → c ≠ it) (h3 : ∀ p ∈ X.pn ++ pins, p.1 ≠ it) : Inv X pins σ H { s with heap := h', toks := t' } := by
  have nit : ∀ b u, H b = some u → b ≠ it := fun b u e z => by rw [z, hn] at e; cases e
  refine I.step (g' := s.gens) (d' := s.drawn) (ch := [it]) (fun b hb => ?_) (fun b o _ _ hc e _ => k b o (fun z => hc (by simp [z])) e) (fun b o _ _ hc e _ => ⟨o.slots, k b o (fun z => hc (by simp [z])) e⟩) (fun _ _ _ _ n => n)
    (fun b o hc e => ⟨o, k b o (fun z => hc (by simp [z])) e⟩) (fun _ _ e => e) (fun _ _ _ e => e) (fun b ps e => ⟨#[], by rw [e]; simp⟩) (fun m hm => ?_) (fun b u e => ?_) I.bare
  · have e : b = it := by simpa using hb
    subst e
    exact ⟨h1, hL, h2, h3⟩
  · obtain ⟨o, es, ep, ho, r⟩ := hm
    exact ⟨o, es, ep, k _ o (Ne.symm hL) ho, r⟩
  · refine (I.hok b u e).stay (fun c v hc q => k c v ?_ q) (fun _ q => q) fun _ _ q => q
    rcases hc with z | z
    · rw [z]; exact nit b u e
    · exact nit c _ z
theorem Inv.tok (I : Inv X pins σ H s) (t : Nat) : Inv X pins σ H { s with toks := t } := I.un (h' := s.heap) (t' := t) Un.refl I.hok
theorem Inv.kept {t' : Nat} (I : Inv X pins σ H s) (k : ∀ b u, s.heap.get? b = some u → h'.get? b = some u) : Inv X pins σ H { s with heap := h', toks := t' } := I.un (Un.kept k) (I.hok.kept k)
theorem Inv.laid {a : Addr} {o : HO} {t' : Nat} (I : Inv X pins σ H s) (k : ∀ b u, s.heap.get? b = some u → h'.get? b = some u) (hp : s.heap.objs.size ≤ a) (new : ObjOk X.prog X.w (upd H a o) h' a o) :
    Inv X pins σ (upd H a o) { s with heap := h', toks := t' } := I.un (Un.laid k hp (I.hok.fresh hp)) (I.hok.laid k hp new)
theorem Inv.write {x e : Addr} {o : HO} {t' : Nat} (I : Inv X pins σ H s) (mu : Mut (H x)) (he : e = x ∨ H e = some (.own x)) (k : ∀ b u, b ≠ e → s.heap.get? b = some u → h'.get? b = some u) (heo : ∃ u, h'.get? e = some u)
    (new : ObjOk X.prog X.w (upd H x o) h' x o) : Inv X pins σ (upd H x o) { s with heap := h', toks := t' } := I.un (Un.write mu he k heo) (I.hok.write mu he k heo new)
theorem Inv.weak {σ' : List (Option V)} (I : Inv X pins σ H s) (hl : σ'.length = σ.length) (w : ∀ (i : Nat) v, σ'[i]? = some (some v) → σ[i]? = some (some v)) : Inv X pins σ' H s :=
  ⟨I.ok, I.os, I.bare, I.base, let ⟨m, hn, hl'⟩ := I.loc; ⟨m, hn, fun i x v e1 e2 e3 => hl' i x v e1 (w i v e2) e3⟩, I.cell, I.free, I.freeC, I.pin, I.hok, hl.trans I.len⟩
theorem Inv.pins_of {pins' : List (Addr × Obj)} (I : Inv X pins σ H s) (h : ∀ p ∈ pins', s.heap.get? p.1 = some p.2 ∧ H p.1 = none ∧ p.1 ≠ X.env.locals ∧ p.1 ∉ X.fs ∧ ∀ v, p.2.data ≠ .cell v) : Inv X pins' σ H s :=
  ⟨I.ok, I.os, I.bare, I.base, I.loc, I.cell, I.free, I.freeC, fun p hp => (List.mem_append.mp hp).elim (fun z => I.pin p (List.mem_append_left _ z)) (h p), I.hok, I.len⟩
theorem nodup_ix {N : List Str} (hN : N.Nodup) {i j : Nat} {x : Str} (a : N[i]? = some x) (b : N[j]? = some x) : i = j := by
  obtain ⟨h1, e1⟩ := List.getElem?_eq_some_iff.mp a
  obtain ⟨h2, e2⟩ := List.getElem?_eq_some_iff.mp b
  exact (List.getElem_inj hN).mp (e1.trans e2.symm)
theorem store_ok2 {M : Model} {A : Around} {E : Value → Shared → Prop} {i : Nat} {x : Str} {v : V} {u : Value} {Q : Unit → Shared → Prop} (I : Inv X pins σ H s) (hN : X.N.Nodup) (hi : X.N[i]? = some x) (hx : Loc X.env.scope x) (r : RelV v u)
    (h : ∀ s', Inv X pins (σ.set i (some v)) H s' → (∃ a, Heap.SameBut a s.heap s'.heap ∧ (a = X.env.locals ∨ X.env.cells.lookup x = some a)) → Q () s') (hf : X.fn x = true ∨ X.env.scope.names.lookup x = some .local := by first | exact .inl rfl | exact .inr rfl | assumption) : wpAny M A (storeName X.env x u) Q E s := by
  obtain ⟨m, hn, hl⟩ := id I.loc
  have hcls : (X.env.scope.kind == .class || (X.env.scope.kind == .module && X.env.locals != X.env.globals)) = false := by rw [I.ok.kind]; rfl
  have hiσ : i < σ.length := by rw [I.len]; exact (List.getElem?_eq_some_iff.mp hi).1
  have cne := I.cne
  have tracked : ∀ {a : Addr} {h' : Heap}, (∃ o, s.heap.get? a = some o ∧ H a = none) → Heap.SameBut a s.heap h' → HOk X.prog X.w H h' := fun {a h'} ha hs b ob e => by
    obtain ⟨_, _, hfree⟩ := ha
    refine (I.hok b ob e).stay (fun c w' hc q => (hs.2 c ?_).trans q) (fun _ q => q) fun _ _ q => q
    rintro rfl
    rcases hc with rfl | hc
    · rw [hfree] at e; cases e
    · rw [hfree] at hc; cases hc
  rcases hx with hk | hk
  · refine wpAny_storeName_local hk hn (fun h' hn' hs => ?_) hcls
    obtain ⟨oL, _, _, hoL, _⟩ := id hn
    refine h _ ⟨I.ok, I.os, I.bare, ⟨fun b o e n hb hx => ?_, fun b o e n hb hx => ?_, I.base.free, fun b o e hx => ?_, I.base.tups, I.base.frzs, I.base.tbls⟩, ⟨_, hn', fun j y v' e1 e2 e3 => ?_⟩, fun y c e => ?_, I.free, I.freeC, fun p hp => ?_, tracked ⟨oL, hoL, I.free⟩ hs, by simpa using I.len⟩ ⟨_, hs, .inl rfl⟩
    · exact (hs.2 b (Nat.ne_of_lt (Nat.lt_of_lt_of_le (Heap.lt_size e) I.ok.above))).trans (I.base.keep b o e n hb hx)
    · obtain ⟨sl, e1⟩ := I.base.slot b o e n hb hx
      exact ⟨sl, (hs.2 b (Nat.ne_of_lt (Nat.lt_of_lt_of_le (Heap.lt_size e) I.ok.above))).trans e1⟩
    · obtain ⟨o', e1⟩ := I.base.there b o e hx
      exact ⟨o', (hs.2 b (Nat.ne_of_lt (Nat.lt_of_lt_of_le (Heap.lt_size e) I.ok.above))).trans e1⟩
    · by_cases hj : j = i
      · subst hj
        rw [hi] at e1; cases e1
        rw [List.getElem?_set_self hiσ] at e2
        cases e2
        exact ⟨u, r, .inl ⟨hk, by simp⟩⟩
      · rw [List.getElem?_set_ne (Ne.symm hj)] at e2
        obtain ⟨u', r', q⟩ := hl j y v' e1 e2 e3
        refine ⟨u', r', ?_⟩
        rcases q with ⟨k, e⟩ | ⟨k, c, e, z⟩
        · refine .inl ⟨k, ?_⟩
          have : y ≠ x := fun e => hj (nodup_ix hN e1 (e ▸ hi))
          simp [this, e]
        · exact .inr ⟨k, c, e, z.sameBut hs (cne y c e)⟩
    · obtain ⟨w', z⟩ := I.cell y c e
      exact ⟨w', z.sameBut hs (cne y c e)⟩
    · obtain ⟨e, n, ne, nf, d⟩ := I.pin p hp
      exact ⟨(hs.2 p.1 ne).trans e, n, ne, nf, d⟩
  · have hfn : X.fn x = true := by
      rcases hf with z | z
      · exact z
      · rw [z] at hk; cases hk
    obtain ⟨c, hc⟩ := I.ok.has x (.inl hk)
    obtain ⟨w', z⟩ := I.cell x c hc
    refine wpAny_storeName_cell I.ok.kind hk hc z (fun h' hc' hs => ?_)
    obtain ⟨oc, hoc, hocd⟩ := id z
    refine h { s with heap := h' } ⟨I.ok, I.os, I.bare, ⟨fun b o e n hb hx => ?_, fun b o e n hb hx => ?_, I.base.free, fun b o e hx => ?_, I.base.tups, I.base.frzs, I.base.tbls⟩, ⟨m, hn.sameBut hs (Ne.symm (cne x c hc)), fun j y v' e1 e2 e3 => ?_⟩, fun y c' e => ?_, I.free, I.freeC, fun p hp => ?_, tracked ⟨oc, hoc, I.freeC x c hc⟩ hs, by simpa using I.len⟩ ⟨c, hs, .inr hc⟩
    · exact (hs.2 b (Nat.ne_of_lt (Nat.lt_of_lt_of_le (Heap.lt_size e) (I.ok.cab x c hfn hc)))).trans (I.base.keep b o e n hb hx)
    · obtain ⟨sl, e1⟩ := I.base.slot b o e n hb hx
      exact ⟨sl, (hs.2 b (Nat.ne_of_lt (Nat.lt_of_lt_of_le (Heap.lt_size e) (I.ok.cab x c hfn hc)))).trans e1⟩
    · obtain ⟨o', e1⟩ := I.base.there b o e hx
      exact ⟨o', (hs.2 b (Nat.ne_of_lt (Nat.lt_of_lt_of_le (Heap.lt_size e) (I.ok.cab x c hfn hc)))).trans e1⟩
    · by_cases hj : j = i
      · subst hj
        rw [hi] at e1; cases e1
        rw [List.getElem?_set_self hiσ] at e2
        cases e2
        exact ⟨u, r, .inr ⟨.inl hk, c, hc, hc'⟩⟩
      · rw [List.getElem?_set_ne (Ne.symm hj)] at e2
        obtain ⟨u', r', q⟩ := hl j y v' e1 e2 e3
        refine ⟨u', r', ?_⟩
        rcases q with q | ⟨k, c', e, z'⟩
        · exact .inl q
        · refine .inr ⟨k, c', e, z'.sameBut hs ?_⟩
          rintro rfl
          exact hj (nodup_ix hN e1 (I.ok.inj _ _ _ e hc ▸ hi))
    · by_cases hcc : c' = c
      · subst hcc; exact ⟨_, hc'⟩
      · obtain ⟨w2, z2⟩ := I.cell y c' e
        exact ⟨w2, z2.sameBut hs hcc⟩
    · obtain ⟨e, n, ne, nf, d⟩ := I.pin p hp
      refine ⟨(hs.2 p.1 ?_).trans e, n, ne, nf, d⟩
      intro q
      rw [q, hoc] at e
      have q' : oc = p.2 := Option.some.inj e
      exact d w' (by rw [← q']; exact hocd)
theorem store_ok {M : Model} {A : Around} {E : Value → Shared → Prop} {i : Nat} {x : Str} {v : V} {u : Value} {Q : Unit → Shared → Prop} (I : Inv X pins σ H s) (hN : X.N.Nodup) (hi : X.N[i]? = some x) (hx : Loc X.env.scope x) (r : RelV v u)
    (h : ∀ s', Inv X pins (σ.set i (some v)) H s' → Q () s') (hf : X.fn x = true ∨ X.env.scope.names.lookup x = some .local := by first | exact .inl rfl | exact .inr rfl | assumption) : wpAny M A (storeName X.env x u) Q E s :=
  store_ok2 I hN hi hx r (fun s' I' _ => h s' I') hf
theorem Inv.call' {s' : Shared} {ch : List Addr} (I : Inv X pins σ H s) (ho : s'.os = s.os) (u : Un (frs X.stack) ch H H' s.heap s'.heap) (hok : HOk X.prog X.w H' s'.heap) (hg : AllBare s'.gens)
    (hch : ∀ b ∈ ch, (b ∈ X.ex ∨ X.s₀.heap.objs.size ≤ b) ∧ b ≠ X.env.locals ∧ (∀ x c, X.env.cells.lookup x = some c → c ≠ b) ∧ ∀ p ∈ X.pn ++ pins, p.1 ≠ b) : Inv X pins σ H' s' := by
  obtain ⟨h', g', d', t', o'⟩ := s'
  have e : o' = s.os := ho
  subst e
  exact I.call (g' := g') (t' := t') (d' := d') u hok hg hch
end
noncomputable abbrev XK := Value → Option Addr → Hp → Prop
noncomputable abbrev St := List (Option V)
noncomputable abbrev VK := V → Hp → Prop
noncomputable abbrev TE := St → Hp → VK → Prop
noncomputable abbrev TT := St → Hp → (Bool → Hp → Prop) → Prop
noncomputable abbrev TA := St → Hp → (List V → Hp → Prop) → Prop
structure Ends where
  nx : St → Hp → Prop
  rt : VK
  bk : St → Hp → Prop := fun _ _ => False
  ct : St → Hp → Prop := fun _ _ => False
noncomputable abbrev TS := Ends → St → Hp → Prop
noncomputable def EP (X : Cx) (pins : List (Addr × Obj)) (σ : St) (Q : VK) (u : Value) (s' : Shared) : Prop := ∃ v H', Inv X pins σ H' s' ∧ RelV v u ∧ Q v H'
noncomputable def TP (X : Cx) (pins : List (Addr × Obj)) (σ : St) (Q : Bool → Hp → Prop) (b : Bool) (s' : Shared) : Prop := ∃ H', Inv X pins σ H' s' ∧ Q b H'
noncomputable def AP (X : Cx) (pins : List (Addr × Obj)) (σ : St) (Q : List V → Hp → Prop) (us : List Value) (s' : Shared) : Prop := ∃ vs H', Inv X pins σ H' s' ∧ Vals vs us ∧ Q vs H'
noncomputable def SP (X : Cx) (pins : List (Addr × Obj)) (D : Ends) (f : Flow) (s' : Shared) : Prop :=
  match f with
  | .next => ∃ σ' H', Inv X pins σ' H' s' ∧ D.nx σ' H'
  | .brk => ∃ σ' H', Inv X pins σ' H' s' ∧ D.bk σ' H'
  | .cont => ∃ σ' H', Inv X pins σ' H' s' ∧ D.ct σ' H'
  | .ret u => ∃ v σ' H', Inv X pins σ' H' s' ∧ RelV v u ∧ D.rt v H'
noncomputable def PE (X : Cx) (e : Expr) (t : TE) : Prop :=
  ∀ (pins : List (Addr × Obj)) (s : Shared) (σ : St) (H : Hp) (Q : VK), Inv X pins σ H s → t σ H Q → wpAny (model X.prog X.w) X.A (eval e X.env) (EP X pins σ Q) X.xe s
noncomputable def PT (X : Cx) (e : Expr) (t : TT) : Prop :=
  ∀ (pins : List (Addr × Obj)) (s : Shared) (σ : St) (H : Hp) (Q : Bool → Hp → Prop), Inv X pins σ H s → t σ H Q → wpAny (model X.prog X.w) X.A (isTrue e X.env (eval e X.env)) (TP X pins σ Q) X.xe s
noncomputable def PW (X : Cx) (e : Expr) (t : TT) : Prop :=
  ∀ (whole : Sem Value) (pins : List (Addr × Obj)) (s : Shared) (σ : St) (H : Hp) (Q : Bool → Hp → Prop), Inv X pins σ H s → t σ H Q → wpAny (model X.prog X.w) X.A (isTrue e X.env whole) (TP X pins σ Q) X.xe s
theorem PW.pt {X : Cx} {e : Expr} {t : TT} (h : PW X e t) : PT X e t := h _
noncomputable def PA (X : Cx) (es : List Expr) (t : TA) : Prop :=
  ∀ (pos : Pos) (pins : List (Addr × Obj)) (s : Shared) (σ : St) (H : Hp) (Q : List V → Hp → Prop), Inv X pins σ H s → t σ H Q → wpAny (model X.prog X.w) X.A (spliced (backTo pos (starEach es X.env))) (AP X pins σ Q) X.xe s
noncomputable def PS (X : Cx) (st : Stmt) (t : TS) : Prop :=
  ∀ (pins : List (Addr × Obj)) (s : Shared) (σ : St) (H : Hp) (D : Ends), Inv X pins σ H s → t D σ H → wpAny (model X.prog X.w) X.A (exec st X.env) (SP X pins D) X.xe s
noncomputable def PSs (X : Cx) (st : List Stmt) (t : TS) : Prop :=
  ∀ (pins : List (Addr × Obj)) (s : Shared) (σ : St) (H : Hp) (D : Ends), Inv X pins σ H s → t D σ H → wpAny (model X.prog X.w) X.A (execs st X.env) (SP X pins D) X.xe s
theorem thn {α : Type} {t : Sem α} {Q Q' : α → Shared → Prop} {M : Model} {A : Around} {E : Value → Shared → Prop} {s : Shared} (h : wpAny M A t Q E s) (hQ : ∀ a s, Q a s → Q' a s) : wpAny M A t Q' E s := wpAny_mono h hQ fun _ _ x => x
end L2
namespace L2
open PySem PySem.Spec PyProof.Rows
section
variable {X : Cx}
noncomputable def tVar (i : Nat) : TE := fun σ H Q => ∃ v, σ[i]? = some (some v) ∧ Q v H
noncomputable def tC (v : V) : TE := fun _ H Q => Q v H
theorem pe_var {i : Nat} {x : Str} {pos : Pos} (hN : X.N[i]? = some x) (hv : Vis X.env.scope x) (hd : (x == ("__debug__" : Str)) = false := by decide) (hcd : (x == ("__classdict__" : Str)) = false := by decide) : PE X (.Name x pos) (tVar i) := by
  intro pins s σ H Q I h
  obtain ⟨v, e, h⟩ := h
  obtain ⟨m, hn, hl⟩ := I.loc
  obtain ⟨u, r, l⟩ := hl i x v hN e hv
  have fin : EP X pins σ Q u s := ⟨v, H, I, r, h⟩
  rcases l with ⟨hk, hm⟩ | ⟨hk, c, hc, hcell⟩
  · exact wpAny_Name (wpAny_loadName_local I.ok.kind hk hn hm fin) hd
  · rcases hk with hk | hk
    · exact wpAny_Name (wpAny_loadName_cell I.ok.kind hk hc hcell fin) hd
    · exact wpAny_Name (wpAny_loadName_free I.ok.kind hk hc hcell fin hcd) hd
theorem pe_int {i j pos} : PE X (.Constant (.int i) j pos) (tC (.int i)) := fun _ _ _ H _ I h => wpAny_Constant_int ⟨.int i, H, I.tok _, ⟨_, rfl⟩, h⟩
theorem pe_bl {b j pos} : PE X (.Constant (.bool b) j pos) (tC (.bl b)) := fun _ _ _ H _ I h => Constant_bool ⟨.bl b, H, I, rfl, h⟩
theorem pe_non {j pos} : PE X (.Constant .none j pos) (tC .non) := fun _ _ _ H _ I h => Constant_none ⟨.non, H, I, rfl, h⟩
theorem pe_str {x j pos} : PE X (.Constant (.str x) j pos) (tC (.str x)) := fun _ _ _ H _ I h => Calls.Constant_str ⟨.str x, H, I.tok _, ⟨_, rfl⟩, h⟩
noncomputable def Gl (X : Cx) (x : Str) : Prop := X.env.kindOf x = some .globalImplicit
theorem ld_glob {E : Value → Shared → Prop} {pins : List (Addr × Obj)} {s : Shared} {σ : St} {H : Hp} {x : Str} {u : Value} {pos : Pos} {Q : Value → Shared → Prop} (I : Inv X pins σ H s) (hg : Gl X x) (hm : X.mg x = some u) (h : Q u s)
    (hd : (x == ("__debug__" : Str)) = false := by decide) : wpAny (model X.prog X.w) X.A (eval (.Name x pos) X.env) Q E s :=
  Calls.Name_function_global I.ok.kind hg (Calls.loadGlobal_global (by rw [I.ok.glob]; exact I.mod.glob.keeps I.bk) hm h) hd
theorem ld_blt {E : Value → Shared → Prop} {pins : List (Addr × Obj)} {s : Shared} {σ : St} {H : Hp} {x : Str} {u : Value} {pos : Pos} {Q : Value → Shared → Prop} (I : Inv X pins σ H s) (hg : Gl X x) (hm : X.mg x = none) (hv : bootBuiltins x = some u) (h : Q u s)
    (hn : x ≠ "__name__" := by decide) (hd : (x == ("__debug__" : Str)) = false := by decide) : wpAny (model X.prog X.w) X.A (eval (.Name x pos) X.env) Q E s := by
  obtain ⟨mb, h1, h2⟩ := I.mod.blt
  exact Calls.Name_function_global I.ok.kind hg (Calls.loadGlobal_builtin (by rw [I.ok.glob]; exact I.mod.glob.keeps I.bk) hm (by rw [I.ok.blt]; exact h1.keeps I.bk) ((h2 x hn).trans hv) h) hd
theorem pe_glob {x : Str} {v : V} {u : Value} {pos : Pos} (hg : Gl X x) (hm : X.mg x = some u) (r : RelV v u) (hd : (x == ("__debug__" : Str)) = false := by decide) : PE X (.Name x pos) (tC v) :=
  fun _ _ _ H _ I h => ld_glob I hg hm ⟨v, H, I, r, h⟩ hd
theorem pe_bltn {x : Str} {v : V} {u : Value} {pos : Pos} (hg : Gl X x) (hm : X.mg x = none) (hv : bootBuiltins x = some u) (r : RelV v u) (hn : x ≠ "__name__" := by decide) (hd : (x == ("__debug__" : Str)) = false := by decide) : PE X (.Name x pos) (tC v) :=
  fun _ _ _ H _ I h => ld_blt I hg hm hv ⟨v, H, I, r, h⟩ hn hd
variable {a b : Expr} {ta tb : TE} {pos : Pos}
variable {tA tB' : TT} {rest : List Expr}
noncomputable def tAnd (t u : TT) : TT := fun σ H Q => t σ H fun c H1 => if c = true then u σ H1 Q else Q false H1
noncomputable def tOr (t u : TT) : TT := fun σ H Q => t σ H fun c H1 => if c = true then Q true H1 else u σ H1 Q
noncomputable def tNot (t : TT) : TT := fun σ H Q => t σ H fun c H1 => Q (!c) H1
theorem pw_and1 (ha : PT X a tA) : PW X (.BoolOp .And [a] pos) tA := by
  intro wh pins s σ H Q I h
  refine isTrue_and (thn (ha pins s σ H Q I h) fun c s1 e => ?_)
  cases c with
  | true => exact isTrue_and_nil e
  | false => exact e
theorem pw_or1 (ha : PT X a tA) : PW X (.BoolOp .Or [a] pos) tA := by
  intro wh pins s σ H Q I h
  refine isTrue_or (thn (ha pins s σ H Q I h) fun c s1 e => ?_)
  cases c with
  | false => exact isTrue_or_nil e
  | true => exact e
theorem pw_and (ha : PT X a tA) (hb : PW X (.BoolOp .And (b :: rest) pos) tB') : PW X (.BoolOp .And (a :: b :: rest) pos) (tAnd tA tB') := by
  intro wh pins s σ H Q I h
  refine isTrue_and (thn (ha pins s σ H _ I h) fun c s1 hh0 => ?_)
  obtain ⟨H1, I1, q1⟩ := hh0
  cases c with
  | true => exact hb wh pins s1 σ H1 Q I1 q1
  | false => exact ⟨H1, I1, q1⟩
theorem pw_or (ha : PT X a tA) (hb : PW X (.BoolOp .Or (b :: rest) pos) tB') : PW X (.BoolOp .Or (a :: b :: rest) pos) (tOr tA tB') := by
  intro wh pins s σ H Q I h
  refine isTrue_or (thn (ha pins s σ H _ I h) fun c s1 hh0 => ?_)
  obtain ⟨H1, I1, q1⟩ := hh0
  cases c with
  | true => exact ⟨H1, I1, q1⟩
  | false => exact hb wh pins s1 σ H1 Q I1 q1
theorem pt_not (ha : PT X a tA) : PT X (.UnaryOp .Not a pos) (tNot tA) := by
  intro pins s σ H Q I h
  exact isTrue_not (ha pins s σ H (fun c H1 => Q (!c) H1) I h)
noncomputable def tAndV (ta tb : TE) : TE := fun σ H Q => ta σ H fun x H1 => ∃ c, x = .bl c ∧ if c = true then tb σ H1 Q else Q (.bl false) H1
noncomputable def tOrV (ta tb : TE) : TE := fun σ H Q => ta σ H fun x H1 => ∃ c, x = .bl c ∧ if c = true then Q (.bl true) H1 else tb σ H1 Q
noncomputable def tNotV (ta : TE) : TE := fun σ H Q => ta σ H fun x H1 => ∃ c, x = .bl c ∧ Q (.bl (!c)) H1
theorem pe_one {op} {t : TE} (h : PE X a t) : PE X (.BoolOp op [a] pos) t := fun pins s σ H Q I hw => BoolOp_one (h pins s σ H Q I hw)
theorem pe_and (ha : PE X a ta) (hb : PE X (.BoolOp .And (b :: rest) pos) tb) : PE X (.BoolOp .And (a :: b :: rest) pos) (tAndV ta tb) := by
  intro pins s σ H Q I h
  refine BoolOp_and (thn (ha pins s σ H _ I h) fun v s1 hh0 => ?_)
  obtain ⟨x, H1, I1, r1, q1⟩ := hh0
  obtain ⟨c, rfl, q1⟩ := q1
  cases r1
  refine wpAny_truthy_bool ?_
  cases c with
  | true => exact hb pins s1 σ H1 Q I1 q1
  | false => exact ⟨.bl false, H1, I1, rfl, q1⟩
theorem pe_or (ha : PE X a ta) (hb : PE X (.BoolOp .Or (b :: rest) pos) tb) : PE X (.BoolOp .Or (a :: b :: rest) pos) (tOrV ta tb) := by
  intro pins s σ H Q I h
  refine BoolOp_or (thn (ha pins s σ H _ I h) fun v s1 hh0 => ?_)
  obtain ⟨x, H1, I1, r1, q1⟩ := hh0
  obtain ⟨c, rfl, q1⟩ := q1
  cases r1
  refine wpAny_truthy_bool ?_
  cases c with
  | false => exact hb pins s1 σ H1 Q I1 q1
  | true => exact ⟨.bl true, H1, I1, rfl, q1⟩
theorem pe_not (ha : PE X a ta) : PE X (.UnaryOp .Not a pos) (tNotV ta) := by
  intro pins s σ H Q I h
  refine UnaryOp_ (thn (ha pins s σ H _ I h) fun v s1 hh0 => ?_)
  obtain ⟨x, H1, I1, r1, q1⟩ := hh0
  obtain ⟨c, rfl, q1⟩ := q1
  cases r1
  exact not_of (wpAny_truthy_bool ⟨.bl (!c), H1, I1, rfl, q1⟩)
noncomputable def tIf (t : TT) (ta tb : TE) : TE := fun σ H Q => t σ H fun c H1 => if c = true then ta σ H1 Q else tb σ H1 Q
theorem pe_ifExp {c : Expr} (hc : PT X c tA) (ha : PE X a ta) (hb : PE X b tb) : PE X (.IfExp c a b pos) (tIf tA ta tb) := by
  intro pins s σ H Q I h
  refine wpAny_IfExp (thn (hc pins s σ H _ I h) fun d s1 hh0 => ?_)
  obtain ⟨H1, I1, q1⟩ := hh0
  cases d with
  | true => exact ha pins s1 σ H1 Q I1 q1
  | false => exact hb pins s1 σ H1 Q I1 q1
end
end L2
namespace L2
open PySem PySem.Spec PyProof.Rows
noncomputable def SqL (K : PySem.W.Frag) (H : Hp) (a : Addr) (xs : List V) : Prop :=
  Rd H a (.lst xs) ∨
    ∃ (o : Obj) (its : Array Value) (n : Nat), K.lookup a = some o ∧ o.cls = .type "list" ∧ o.dict = none ∧ o.data = .seq its n ∧ its.size ≤ sizeLine ∧ Vals xs its.toList
noncomputable def SqT (K : PySem.W.Frag) (H : Hp) (a : Addr) (xs : List V) : Prop :=
  Rd H a (.tup xs) ∨
    ∃ (o : Obj) (its : Array Value) (n : Nat), K.lookup a = some o ∧ o.cls = .type "tuple" ∧ o.data = .seq its n ∧ its.size ≤ sizeLine ∧ Vals xs its.toList
noncomputable def absV : Value → Option V
  | .none => some .non
  | .bool b => some (.bl b)
  | .int i _ => some (.int i)
  | .str x _ => some (.str x)
  | .bytes b _ => some (.byt b)
  | .float b _ => some (.flt b)
  | .ref a => some (.ref a)
  | .type n => some (.ty n)
  | _ => none
theorem RelV.abs {x : V} {u : Value} (r : RelV x u) : absV u = some x := by
  cases x with
  | non => cases r; rfl
  | bl _ => cases r; rfl
  | int _ => obtain ⟨t, rfl⟩ := r; rfl
  | str _ => obtain ⟨t, rfl⟩ := r; rfl
  | byt _ => obtain ⟨t, rfl⟩ := r; rfl
  | flt _ => obtain ⟨t, rfl⟩ := r; rfl
  | ref _ => cases r; rfl
  | ty _ => cases r; rfl
theorem RelV.inj {x y : V} {u : Value} (r : RelV x u) (q : RelV y u) : x = y := Option.some.inj (r.abs.symm.trans q.abs)
theorem Vals.inj : ∀ {xs ys : List V} {us : List Value}, Vals xs us → Vals ys us → xs = ys
  | _, _, _, .nil, .nil => rfl
  | _, _, _, .cons r t, .cons r' t' => by rw [r.inj r', Vals.inj t t']
section
variable {X : Cx} {pins : List (Addr × Obj)} {σ : St} {H : Hp} {s : Shared} {a : Addr} {xs ys : List V}
theorem SqL.of {K : PySem.W.Frag} (h : H a = some (.lst xs)) : SqL K H a xs := .inl (.inl h)
theorem SqT.of {K : PySem.W.Frag} (h : H a = some (.tup xs)) : SqT K H a xs := .inl (.inl h)
theorem Inv.list (I : Inv X pins σ H s) (h : SqL X.K H a xs) : ∃ its : List Value, Vals xs its ∧ PlainL s.heap a its.toArray ∧ xs.length ≤ sizeLine := by
  rcases h with h | ⟨o, its, n, hk, hc, hd, hs, hz, r⟩
  · obtain ⟨z, its, n, r, e⟩ := h.ok I.hok
    exact ⟨its, r, ⟨_, n, e, rfl, rfl, rfl⟩, z⟩
  · refine ⟨its.toList, r, ⟨o, n, I.kIn a o hk, hc, hd, by simpa using hs⟩, ?_⟩
    have e := r.length
    simp only [Array.length_toList] at e
    omega
theorem Inv.tuple (I : Inv X pins σ H s) (h : SqT X.K H a xs) : ∃ its : List Value, Vals xs its ∧ IsTup s.heap a its.toArray ∧ xs.length ≤ sizeLine := by
  rcases h with h | ⟨o, its, n, hk, hc, hs, hz, r⟩
  · obtain ⟨z, its, r, p⟩ := h.ok I.hok
    exact ⟨its, r, p.tup, z⟩
  · refine ⟨its.toList, r, ⟨o, I.kIn a o hk, hc, n, by simpa using hs⟩, ?_⟩
    have e := r.length
    simp only [Array.length_toList] at e
    omega
theorem Inv.list_inj (I : Inv X pins σ H s) (h : SqL X.K H a xs) (h' : SqL X.K H a ys) : xs = ys := by
  obtain ⟨its, r, ⟨o, n, e, _, _, d⟩, _⟩ := I.list h
  obtain ⟨its', r', ⟨o', n', e', _, _, d'⟩, _⟩ := I.list h'
  rw [e] at e'; cases e'
  rw [d] at d'
  injection d' with d1 _
  have : its = its' := by simpa using congrArg Array.toList d1
  subst this
  exact r.inj r'
theorem Inv.tuple_inj (I : Inv X pins σ H s) (h : SqT X.K H a xs) (h' : SqT X.K H a ys) : xs = ys := by
  obtain ⟨its, r, ⟨o, e, _, n, d⟩, _⟩ := I.tuple h
  obtain ⟨its', r', ⟨o', e', _, n', d'⟩, _⟩ := I.tuple h'
  rw [e] at e'; cases e'
  rw [d] at d'
  injection d' with d1 _
  have : its = its' := by simpa using congrArg Array.toList d1
  subst this
  exact r.inj r'
end
noncomputable abbrev Cx.wish (X : Cx) (E : Value → Shared → Prop) : Cx := { X with xe := E }
noncomputable abbrev Cx.nox (X : Cx) : Cx := X.wish fun _ _ => False
theorem Cx.Ok.wish {X : Cx} (ok : X.Ok) (E : Value → Shared → Prop) : (X.wish E).Ok :=
  ⟨ok.mod, ok.kind, ok.glob, ok.blt, ok.above, ok.inj, ok.has, ok.cab, ok.hd, ok.frames, ok.stk, ok.exf, ok.bs, ok.bsz, ok.noex, ok.exfs, ok.funs, ok.frf⟩
theorem Cx.Ok.unwish {X : Cx} {E : Value → Shared → Prop} (ok : (X.wish E).Ok) : X.Ok :=
  ⟨ok.mod, ok.kind, ok.glob, ok.blt, ok.above, ok.inj, ok.has, ok.cab, ok.hd, ok.frames, ok.stk, ok.exf, ok.bs, ok.bsz, ok.noex, ok.exfs, ok.funs, ok.frf⟩
section
variable {X : Cx} {pins : List (Addr × Obj)} {σ : St} {H : Hp} {s : Shared} {E : Value → Shared → Prop}
theorem Inv.wish (I : Inv X pins σ H s) (E : Value → Shared → Prop) : Inv (X.wish E) pins σ H s := ⟨I.ok.wish E, I.os, I.bare, I.base, I.loc, I.cell, I.free, I.freeC, I.pin, I.hok, I.len⟩
theorem Inv.unwish (I : Inv (X.wish E) pins σ H s) : Inv X pins σ H s := ⟨I.ok.unwish, I.os, I.bare, I.base, I.loc, I.cell, I.free, I.freeC, I.pin, I.hok, I.len⟩
theorem SP.unwish {D : Ends} {f : Flow} {s' : Shared} (h : SP (X.wish E) pins D f s') : SP X pins D f s' := by
  cases f with
  | next => obtain ⟨σ', H', I, q⟩ := h; exact ⟨σ', H', I.unwish, q⟩
  | brk => obtain ⟨σ', H', I, q⟩ := h; exact ⟨σ', H', I.unwish, q⟩
  | cont => obtain ⟨σ', H', I, q⟩ := h; exact ⟨σ', H', I.unwish, q⟩
  | ret u => obtain ⟨v, σ', H', I, r, q⟩ := h; exact ⟨v, σ', H', I.unwish, r, q⟩
theorem PSs.nox {st : List Stmt} {t : TS} (h : PSs X.nox st t) : PSs X st t := fun pins s σ H D I hw =>
  wpAny_mono (h pins s σ H D (I.wish _) hw) (fun _ _ q => q.unwish) fun _ _ z => False.elim z
end
section
variable {X : Cx} {st : Stmt} {rest : List Stmt} {t u : TS} {e : Expr} {te : TE} {pos : Pos}
noncomputable def tNext : TS := fun D σ H => D.nx σ H
noncomputable def tSeq (t u : TS) : TS := fun D σ H => t { D with nx := u D } σ H
theorem pss_nil : PSs X [] tNext := fun _ _ σ H _ I h => wpAny_execs_nil ⟨σ, H, I, h⟩
theorem pss_cons (h1 : PS X st t) (h2 : PSs X rest u) : PSs X (st :: rest) (tSeq t u) := by
  intro pins s σ H D I h
  refine wpAny_execs_cons (thn (h1 pins s σ H { D with nx := u D } I h) fun f s1 q => ?_)
  cases f with
  | next =>
    obtain ⟨σ', H', I', q⟩ := q
    exact h2 pins s1 σ' H' D I' q
  | ret v => exact q
  | brk => exact q
  | cont => exact q
theorem pss_one (h1 : PS X st t) : PSs X [st] t := by
  intro pins s σ H D I h
  refine wpAny_execs_cons (thn (h1 pins s σ H D I h) fun f s1 q => ?_)
  cases f with
  | next => exact wpAny_execs_nil q
  | ret v => exact q
  | brk => exact q
  | cont => exact q
theorem Inv.quiet {pins : List (Addr × Obj)} {σ : St} {H : Hp} {s : Shared} (I : Inv X pins σ H s) : interactive X.env = false := by simp [interactive, I.ok.kind]
noncomputable def tDrop (te : TE) : TS := fun D σ H => te σ H fun _ H1 => D.nx σ H1
theorem ps_expr (he : PE X e te) (hs : swapsWith e none pos.line X.env = pure false := by rfl) : PS X (.Expr e pos) (tDrop te) := by
  intro pins s σ H D I h
  exact wpAny_Expr_any (thn (he pins s σ H _ I h) fun v s1 ⟨x, H1, I1, r1, q1⟩ => ⟨σ, H1, I1, q1⟩) I.quiet hs
noncomputable def tRet (te : TE) : TS := fun D σ H => te σ H D.rt
theorem ps_ret (he : PE X e te) : PS X (.Return (some e) pos) (tRet te) := by
  intro pins s σ H D I h
  exact wpAny_Return_some (thn (he pins s σ H _ I h) fun v s1 ⟨x, H1, I1, r1, q1⟩ => ⟨x, σ, H1, I1, r1, q1⟩)
noncomputable def tIfS (c : TT) (t u : TS) : TS := fun D σ H => c σ H fun b H1 => if b = true then t D σ H1 else u D σ H1
theorem ps_if {c : Expr} {a b : List Stmt} {tc : TT} (hc : PT X c tc) (ha : PSs X a t) (hb : PSs X b u) : PS X (.If c a b pos) (tIfS tc t u) := by
  intro pins s σ H D I h
  refine wpAny_If (thn (hc pins s σ H _ I h) fun d s1 hh0 => ?_)
  obtain ⟨H1, I1, q1⟩ := hh0
  cases d with
  | true => exact ha pins s1 σ H1 D I1 q1
  | false => exact hb pins s1 σ H1 D I1 q1
noncomputable def tNever : TS := fun _ _ _ => False
theorem ps_never : PS X st tNever := fun _ _ _ _ _ _ h => h.elim
end
noncomputable abbrev TG := V → St → Hp → (St → Hp → Prop) → Prop
noncomputable abbrev TGs := List V → St → Hp → (St → Hp → Prop) → Prop
noncomputable def PG (X : Cx) (target : Expr) (t : TG) : Prop :=
  ∀ (pins : List (Addr × Obj)) (s : Shared) (σ : St) (H : Hp) (v : V) (u : Value) (Q : St → Hp → Prop), Inv X pins σ H s → RelV v u → t v σ H Q →
    wpAny (model X.prog X.w) X.A (assign target X.env u) (fun _ s' => ∃ σ' H', Inv X pins σ' H' s' ∧ Q σ' H') X.xe s
noncomputable def PGs (X : Cx) (ts : List Expr) (t : TGs) : Prop :=
  ∀ (pins : List (Addr × Obj)) (s : Shared) (σ : St) (H : Hp) (vs : List V) (us : List Value) (Q : St → Hp → Prop), Inv X pins σ H s → Vals vs us → t vs σ H Q →
    wpAny (model X.prog X.w) X.A (assignInOrder ((assignEach ts X.env).map (·.2)) us) (fun _ s' => ∃ σ' H', Inv X pins σ' H' s' ∧ Q σ' H') X.xe s
section
variable {X : Cx} {pos : Pos}
noncomputable def gName (i : Nat) : TG := fun v σ H Q => Q (σ.set i (some v)) H
theorem pg_name {i : Nat} {x : Str} (hN : X.N.Nodup) (hi : X.N[i]? = some x) (hx : Loc X.env.scope x) (hf : X.fn x = true ∨ X.env.scope.names.lookup x = some .local := by first | exact .inl rfl | exact .inr rfl | assumption) : PG X (.Name x pos) (gName i) := by
  intro pins s σ H v u Q I r h
  exact wpAny_assign_Name (store_ok I hN hi hx r (fun s' I' => ⟨_, H, I', h⟩) hf)
noncomputable def gNil : TGs := fun vs σ H Q => vs = [] ∧ Q σ H
noncomputable def gCons (t : TG) (u : TGs) : TGs := fun vs σ H Q => ∃ v r, vs = v :: r ∧ t v σ H fun σ' H' => u r σ' H' Q
theorem pgs_nil : PGs X [] gNil := by
  intro pins s σ H vs us Q I r h
  obtain ⟨e, h⟩ := h
  subst e
  cases r
  exact assignInOrder_nil ⟨σ, H, I, h⟩
theorem pgs_cons {e : Expr} {es : List Expr} {t : TG} {u : TGs} (h1 : PG X e t) (h2 : PGs X es u)
    (hs : (assignEach (e :: es) X.env).map (·.2) = assign e X.env :: (assignEach es X.env).map (·.2) := by rfl) : PGs X (e :: es) (gCons t u) := by
  intro pins s σ H vs us Q I r h
  obtain ⟨v, vr, e1, h⟩ := h
  subst e1
  cases r with
  | cons r rr =>
    rw [hs]
    refine assignInOrder_cons (thn (h1 pins s σ H _ _ _ I r h) fun _ s1 hh0 => ?_)
    obtain ⟨σ1, H1, I1, q1⟩ := hh0
    exact h2 pins s1 σ1 H1 _ _ Q I1 rr q1
noncomputable def gTup (K : PySem.W.Frag) (n : Nat) (t : TGs) : TG := fun v σ H Q => ∃ a xs, v = .ref a ∧ SqT K H a xs ∧ xs.length = n ∧ t xs σ H Q
theorem pg_tup {es : List Expr} {k : Nat} {t : TGs} {n : Nat} (hc : X.calm = true) (h : PGs X es t)
    (hn : (assignEach es X.env).length = n := by rfl) (hst : (assignEach es X.env).findIdx? (·.1) = none := by rfl) : PG X (.Tuple es k pos) (gTup X.K n t) := by
  intro pins s σ H v u Q I r hw
  obtain ⟨a, xs, e1, hq, hl, hw⟩ := hw
  subst e1
  cases r
  obtain ⟨its, rv, ht, hz⟩ := I.tuple hq
  refine assign_Tuple_tuple (I.ok.hd hc) ht (by simp [hn, ← hl, rv.length]) hst fun h' hx => ?_
  have I1 : Inv X pins σ H { s with heap := h' } := I.kept (t' := s.toks) fun b o e => hx b o (Nat.ne_of_lt (Heap.lt_size e)) e
  exact h pins _ σ H xs _ Q I1 (by simpa using rv) hw
noncomputable def tAsg (te : TE) (g : TG) : TS := fun D σ H => te σ H fun x H1 => g x σ H1 D.nx
theorem ps_asg {tg e : Expr} {te : TE} {g : TG} (he : PE X e te) (hg : PG X tg g) (hs : swapsWithSole [tg] e pos.line X.env = pure false := by rfl) (hw : swappedStores [tg] e X.env = pure none := by rfl)
    (h1 : (assignEach [tg] X.env).map (·.2) = [assign tg X.env] := by rfl) : PS X (.Assign [tg] e pos) (tAsg te g) := by
  intro pins s σ H D I h
  refine wpAny_Assign_stores (thn (he pins s σ H _ I h) fun v s1 ⟨x, H1, I1, r1, q1⟩ => ?_) hs hw
  rw [h1]
  exact thn (hg pins s1 σ H1 x v _ I1 r1 q1) fun _ s2 q => q
theorem ps_set {i : Nat} {x : Str} {e : Expr} {te : TE} {pos' : Pos} (hN : X.N.Nodup) (hi : X.N[i]? = some x) (hx : Loc X.env.scope x) (he : PE X e te) (hs : swapsWith e (some (.Name x pos')) pos.line X.env = pure false := by rfl) (hf : X.fn x = true ∨ X.env.scope.names.lookup x = some .local := by first | exact .inl rfl | exact .inr rfl | assumption) :
    PS X (.Assign [.Name x pos'] e pos) (tAsg te (gName i)) := by
  intro pins s σ H D I h
  refine wpAny_Assign_Name (thn (he pins s σ H _ I h) fun v s1 ⟨y, H1, I1, r1, q1⟩ => ?_) hs
  exact store_ok I1 hN hi hx r1 (fun s2 I2 => ⟨_, H1, I2, q1⟩) hf
noncomputable def tPar (i j : Nat) (ta : TA) : TS := fun D σ H => ta σ H fun vs H1 => ∃ v w, vs = [v, w] ∧ D.nx ((σ.set i (some v)).set j (some w)) H1
theorem ps_par {i j : Nat} {x y : Str} {a b : Expr} {ta : TA} {px py pt : Pos} {kt k2 pt2} (hc : X.calm = true) (hN : X.N.Nodup) (hi : X.N[i]? = some x) (hj : X.N[j]? = some y) (hij : i ≠ j)
    (hx : X.env.scope.names.lookup x = some .local) (hy : X.env.scope.names.lookup y = some .local) (ha : PA X [a, b] ta)
    (hw : swappedStores [.Tuple [.Name x px, .Name y py] kt pt] (.Tuple [a, b] k2 pt2) X.env = pure (some [x, y]))
    (hs : swapsWithSole [.Tuple [.Name x px, .Name y py] kt pt] (.Tuple [a, b] k2 pt2) pos.line X.env = pure false := by rfl) :
    PS X (.Assign [.Tuple [.Name x px, .Name y py] kt pt] (.Tuple [a, b] k2 pt2) pos) (tPar i j ta) := by
  intro pins s σ H D I h
  rw [exec_Assign_arm]
  refine wpAny_bind (wpAny_standAt ?_)
  rw [hs]
  refine wpAny_bind (wpAny_pure ?_)
  rw [if_neg (by decide)]
  refine wpAny_bind (Tuple_ (thn (ha _ pins s σ H _ I h) fun us s1 hh0 => ?_))
  obtain ⟨vs, H1, I1, r1, q1⟩ := hh0
  obtain ⟨v, w, e1, q1⟩ := q1
  subst e1
  obtain ⟨u1, u2, rfl, rv, rw'⟩ : ∃ u1 u2, us = [u1, u2] ∧ RelV v u1 ∧ RelV w u2 := by
    cases r1 with
    | cons p q =>
      cases q with
      | cons p' q' =>
        cases q'
        exact ⟨_, _, rfl, p, p'⟩
  refine wpAny_newObj_type ?_ (by show 2 ≤ sizeLine; decide)
  have I2 : Inv X pins σ H1 { s1 with heap := s1.heap.push { cls := .type "tuple", data := .seq [u1, u2].toArray } } := I1.kept (t' := s1.toks) fun b o e => Heap.get?_push_of_some _ e
  rw [hw]
  refine wpAny_bind (wpAny_pure ?_)
  show wpAny (model X.prog X.w) X.A (do rule "assign.swapped-stores"; let items ← unpackItems (.ref s1.heap.objs.size) 2 none; assignInOrder [fun v => bindName X.env y v, fun v => bindName X.env x v] items.reverse; pure Flow.next) _ _ _
  refine wpAny_bind (wpAny_rule (wpAny_bind (unpackItems_tuple (items := #[u1, u2]) (I.ok.hd hc) (IsTup.new s1.heap _) fun h' hx' => ?_)))
  have I3 := I2.kept (h' := h') (t' := s1.toks) fun b o e => hx' b o (Nat.ne_of_lt (Heap.lt_size e)) e
  show wpAny _ _ (assignInOrder [fun v => bindName X.env y v, fun v => bindName X.env x v] [u2, u1] >>= fun _ => pure Flow.next) _ _ _
  refine wpAny_bind (assignInOrder_cons (wpAny_bindName (store_ok I3 hN hj (.inl hy) rw' (fun s2 I4 => ?_) (.inr hy))))
  refine assignInOrder_cons (wpAny_bindName (store_ok I4 hN hi (.inl hx) rv (fun s3 I5 => assignInOrder_nil (wpAny_pure ?_)) (.inr hx)))
  rw [List.set_comm _ _ (Ne.symm hij)] at I5
  exact ⟨_, H1, I5, q1⟩
end
structure It where
  go : Nat → Hp → Prop
  yld : Nat → Hp → V → Hp → Prop
  stop : Nat → Hp → Prop
noncomputable def FpOk (X : Cx) (pins : List (Addr × Obj)) (H : Hp) (b : Addr) : Prop :=
  H b = none ∧ b ≠ X.env.locals ∧ b ∉ X.fs ∧ (b ∈ X.ex ∨ X.s₀.heap.objs.size ≤ b) ∧ (∀ x c, X.env.cells.lookup x = some c → c ≠ b) ∧ ∀ p ∈ X.pn ++ pins, p.1 ≠ b
theorem Inv.fpOk {X : Cx} {pins : List (Addr × Obj)} {σ : St} {H H' : Hp} {s : Shared} {b : Addr} (I : Inv X pins σ H s) (hb : s.heap.objs.size ≤ b) (hn : H' b = none) : FpOk X pins H' b := by
  refine ⟨hn, Nat.ne_of_gt (Nat.lt_of_lt_of_le I.lt hb), I.nofs hb, .inr (Nat.le_trans I.sz hb), fun x c e z => ?_, fun p hp z => ?_⟩
  · obtain ⟨v, q⟩ := I.cell x c e
    exact absurd (Nat.lt_of_lt_of_le q.lt (by rw [z]; exact hb)) (Nat.lt_irrefl _)
  · exact absurd (Nat.lt_of_lt_of_le (Heap.lt_size (I.pin p hp).1) (by rw [z]; exact hb)) (Nat.lt_irrefl _)
structure Turn (P : Program) (w : World) (K : PySem.W.Frag) (tg : Expr) (J : It) (fp : List Addr) (it : Addr) (tn : Nat → Heap → Prop) : Prop where
  mem : it ∈ fp
  obj : ∀ i h, tn i h → ∀ b ∈ fp, ∃ o, h.get? b = some o ∧ ∀ v, o.data ≠ .cell v
  keep : ∀ i h h', tn i h → (∀ b ∈ fp, ∀ o, h.get? b = some o → h'.get? b = some o) → tn i h'
  item : ∀ (X : Cx), X.prog = P → X.w = w → X.K = K → X.calm = true → ∀ (i : Nat) (pins : List (Addr × Obj)) (s : Shared) (σ : St) (H : Hp) (E : Value → Shared → Prop), Inv X pins σ H s → (∀ b ∈ fp, FpOk X pins H b) → tn i s.heap → J.go i H →
    wpAny (model P w) X.A (pyNext (.ref it)) (fun r s1 => ∃ u, r = some u ∧
      wpAny (model P w) X.A (letOwnedTupleGo tg (.ref it) u) (fun _ s2 => ∃ x H', Inv X pins σ H' s2 ∧ RelV x u ∧ J.yld i H x H' ∧ tn (i + 1) s2.heap ∧ ∀ b ∈ fp, H' b = none) E s1) E s
  done : ∀ (X : Cx), X.prog = P → X.w = w → X.K = K → X.calm = true → ∀ (i : Nat) (pins : List (Addr × Obj)) (s : Shared) (σ : St) (H : Hp) (E : Value → Shared → Prop), Inv X pins σ H s → (∀ b ∈ fp, FpOk X pins H b) → tn i s.heap → J.stop i H →
    wpAny (model P w) X.A (pyNext (.ref it)) (fun r s1 => r = none ∧ Inv X pins σ H s1) E s
  self : ∀ (A : Around) (i : Nat) (s : Shared) (Q : Value → Shared → Prop) (E : Value → Shared → Prop), tn i s.heap → Q (.ref it) s → wpAny (model P w) A (pyIter (.ref it)) Q E s
noncomputable abbrev TI := St → Hp → (It → Hp → Prop) → Prop
noncomputable def PIE (X : Cx) (pins : List (Addr × Obj)) (σ : St) (tg : Expr) (R : It → Hp → Prop) (itv : Value) (s2 : Shared) : Prop :=
  ∃ (it : Addr) (fp : List Addr) (tn : Nat → Heap → Prop) (J : It) (H' : Hp), itv = .ref it ∧ Inv X pins σ H' s2 ∧ Turn X.prog X.w X.K tg J fp it tn ∧ tn 0 s2.heap ∧ (∀ b ∈ fp, FpOk X pins H' b) ∧ R J H'
noncomputable def PI (X : Cx) (tg iter : Expr) (wi : TI) : Prop :=
  ∀ (pins : List (Addr × Obj)) (s : Shared) (σ : St) (H : Hp) (R : It → Hp → Prop), Inv X pins σ H s → wi σ H R →
    wpAny (model X.prog X.w) X.A (eval iter X.env) (fun v s1 => wpAny (model X.prog X.w) X.A (pyIter v) (PIE X pins σ tg R) X.xe s1) X.xe s
theorem go_of {M : Model} {A : Around} {E : Value → Shared → Prop} {s : Shared} {tg : Expr} {it : Addr} {u : Value} {o : Obj} {n : String} {vs : Array Value} {Q : Unit → Shared → Prop} (ho : s.heap.get? it = some o) (hc : o.cls = .type n) (hd : o.data = .fields vs)
    (hn : ["enumerate", "zip", "dict_itemiterator", "dict_reverseitemiterator", "odict_iterator", "itertools.zip_longest", "itertools.pairwise"].contains n = false) (hQ : Q () s) : wpAny M A (letOwnedTupleGo tg (.ref it) u) Q E s := by
  unfold letOwnedTupleGo
  cases tg <;> first
    | exact wpAny_pure hQ
    | (cases u <;> first
        | exact wpAny_pure hQ
        | (refine wpAny_bind (wpAny_load ho ?_)
           rw [hc, hd]
           show wpAny M A (if (["enumerate", "zip", "dict_itemiterator", "dict_reverseitemiterator", "odict_iterator", "itertools.zip_longest", "itertools.pairwise"].contains n && vs[0]? == some (rawInt _)) = true then _ else _) Q E s
           rw [if_neg (by intro h; rw [hn, Bool.false_and] at h; cases h)]
           exact wpAny_pure hQ))
noncomputable def Itl (K : PySem.W.Frag) (a : Addr) : It :=
  ⟨fun i H => ∃ xs x, SqL K H a xs ∧ xs[i]? = some x, fun i H x H' => H' = H ∧ ∀ xs, SqL K H a xs → xs[i]? = some x, fun i H => ∃ xs, SqL K H a xs ∧ xs.length ≤ i⟩
noncomputable def Itt (K : PySem.W.Frag) (a : Addr) : It :=
  ⟨fun i H => ∃ xs x, SqT K H a xs ∧ xs[i]? = some x, fun i H x H' => H' = H ∧ ∀ xs, SqT K H a xs → xs[i]? = some x, fun i H => ∃ xs, SqT K H a xs ∧ xs.length ≤ i⟩
noncomputable def Itr (lo : Int) (n : Nat) : It := ⟨fun i _ => i < n, fun i H x H' => H' = H ∧ x = .int (lo + i), fun i _ => n ≤ i⟩
theorem turn_list {P : Program} {w : World} {K : PySem.W.Frag} {tg : Expr} (a it : Addr) : Turn P w K tg (Itl K a) [it] it (fun i h => h.IsListIter it a i) where
  mem := by simp
  obj := fun i h st b hb => by
    have e : b = it := by simpa using hb
    subst e
    obtain ⟨o, e, c, d⟩ := st
    exact ⟨o, e, fun v z => by rw [d] at z; cases z⟩
  keep := fun i h h' st k => st.at fun o e => k it (by simp) o e
  item := by
    intro X hP hw hK hc i pins s σ H E I hf st hg
    subst hP hw hK
    obtain ⟨xs, x, hq, hx⟩ := hg
    obtain ⟨its, rv, p, hz⟩ := I.list hq
    obtain ⟨u, hu, ru⟩ := rv.get hx
    obtain ⟨f0, f1, f2, f3, f4, f5⟩ := hf it (by simp)
    refine wpAny_pyNext_list_item st p.isList (x := u) (by simpa using hu) fun h' st' sb => ?_
    have I1 : Inv X pins σ H { s with heap := h' } := I.turned (t' := s.toks) (fun b o hb e => (sb.2 b hb).trans e) f0 f1 f3 f4 f5
    obtain ⟨o, e, c, d⟩ := id st'
    exact ⟨u, rfl, go_of (s := { s with heap := h' }) e c d (by decide) ⟨x, H, I1, ru, ⟨rfl, fun ys hy => by rw [I.list_inj hy hq]; exact hx⟩, st', fun b hb => (hf b hb).1⟩⟩
  done := by
    intro X hP hw hK hc i pins s σ H E I hf st hg
    subst hP hw hK
    obtain ⟨xs, hq, hx⟩ := hg
    obtain ⟨its, rv, p, hz⟩ := I.list hq
    obtain ⟨f0, f1, f2, f3, f4, f5⟩ := hf it (by simp)
    have hl := rv.length
    exact wpAny_pyNext_list_end (I.ok.hd hc) st p.isList (by simp; omega) fun h' eb => ⟨rfl, I.turned (t' := s.toks) (fun b o hb e => eb b o hb e) f0 f1 f3 f4 f5⟩
  self := fun _ _ _ _ _ st h => wpAny_pyIter_listiter st h
theorem turn_tuple {P : Program} {w : World} {K : PySem.W.Frag} {tg : Expr} (a it : Addr) : Turn P w K tg (Itt K a) [it] it (fun i h => h.IsTupleIter it a i) where
  mem := by simp
  obj := fun i h st b hb => by
    have e : b = it := by simpa using hb
    subst e
    obtain ⟨o, e, c, d⟩ := st
    exact ⟨o, e, fun v z => by rw [d] at z; cases z⟩
  keep := fun i h h' st k => st.at fun o e => k it (by simp) o e
  item := by
    intro X hP hw hK hc i pins s σ H E I hf st hg
    subst hP hw hK
    obtain ⟨xs, x, hq, hx⟩ := hg
    obtain ⟨its, rv, p, hz⟩ := I.tuple hq
    obtain ⟨u, hu, ru⟩ := rv.get hx
    obtain ⟨f0, f1, f2, f3, f4, f5⟩ := hf it (by simp)
    refine wpAny_pyNext_tuple_item st (show s.heap.IsTuple a its.toArray from p) (x := u) (by simpa using hu) fun h' st' sb => ?_
    have I1 : Inv X pins σ H { s with heap := h' } := I.turned (t' := s.toks) (fun b o hb e => (sb.2 b hb).trans e) f0 f1 f3 f4 f5
    obtain ⟨o, e, c, d⟩ := id st'
    exact ⟨u, rfl, go_of (s := { s with heap := h' }) e c d (by decide) ⟨x, H, I1, ru, ⟨rfl, fun ys hy => by rw [I.tuple_inj hy hq]; exact hx⟩, st', fun b hb => (hf b hb).1⟩⟩
  done := by
    intro X hP hw hK hc i pins s σ H E I hf st hg
    subst hP hw hK
    obtain ⟨xs, hq, hx⟩ := hg
    obtain ⟨its, rv, p, hz⟩ := I.tuple hq
    obtain ⟨f0, f1, f2, f3, f4, f5⟩ := hf it (by simp)
    have hl := rv.length
    exact wpAny_pyNext_tuple_end (I.ok.hd hc) st (show s.heap.IsTuple a its.toArray from p) (by simp; omega) fun h' eb => ⟨rfl, I.turned (t' := s.toks) (fun b o hb e => eb b o hb e) f0 f1 f3 f4 f5⟩
  self := fun _ _ _ _ _ st h => wpAny_pyIter_tupleiter st h
theorem turn_range {P : Program} {w : World} {K : PySem.W.Frag} {tg : Expr} (it : Addr) (lo : Int) (n : Nat) : Turn P w K tg (Itr lo n) [it] it (fun i h => IsRangeIter h it (lo + (i : Nat) * 1) ((n : Int) - (i : Nat)) 1) where
  mem := by simp
  obj := fun i h st b hb => by
    have e : b = it := by simpa using hb
    subst e
    exact ⟨_, st, fun v z => by
      have z' : Data.fields _ = Data.cell v := z
      cases z'⟩
  keep := fun i h h' st k => k it (by simp) _ st
  item := by
    intro X hP hw hK hc i pins s σ H E I hf st hg
    subst hP hw hK
    obtain ⟨f0, f1, f2, f3, f4, f5⟩ := hf it (by simp)
    have W := Walks.range (prog := X.prog) (w := X.w) (I.ok.hd hc) it lo 1 n
    refine W.item i s _ _ hg st fun v h' tk hv st' kk => ?_
    obtain ⟨t, rfl⟩ := hv
    have I1 : Inv X pins σ H { s with heap := h', toks := tk } := I.turned (fun b o hb e => kk b o (by simpa using hb) e) f0 f1 f3 f4 f5
    refine ⟨_, rfl, go_of (s := { s with heap := h', toks := tk }) (n := "range_iterator") st' rfl rfl (by decide) ⟨.int (lo + i), H, I1, ⟨t, ?_⟩, ⟨rfl, rfl⟩, st', fun b hb => (hf b hb).1⟩⟩
    rw [Int.mul_one]
  done := by
    intro X hP hw hK hc i pins s σ H E I hf st hg
    subst hP hw hK
    obtain ⟨f0, f1, f2, f3, f4, f5⟩ := hf it (by simp)
    exact wpAny_pyNext_range_end (I.ok.hd hc) st (by have : n ≤ i := hg; omega) fun h' eb => ⟨rfl, I.turned (t' := s.toks) (fun b o hb e => eb b o hb e) f0 f1 f3 f4 f5⟩
  self := fun _ _ _ _ _ st h => wpAny_pyIter_rangeiter st h
end L2
namespace L2
open PySem PySem.Spec PyProof.Rows
section
variable {X : Cx} {tg : Expr}
theorem range_it {pins : List (Addr × Obj)} {σ : St} {H : Hp} {s : Shared} {R : It → Hp → Prop} {E : Value → Shared → Prop} {lo hi : Int} {t u v : Tok} {tk : Nat} (I : Inv X pins σ H s) (h1 : -(2 ^ 62) ≤ lo) (h2 : lo < 2 ^ 62) (h3 : -(2 ^ 62) ≤ hi) (h4 : hi < 2 ^ 62)
    (q : R (Itr lo (hi - lo).toNat) H) : wpAny (model X.prog X.w) X.A (pyIter (.ref s.heap.objs.size)) (PIE X pins σ tg R) E { s with heap := s.heap.push { cls := .type "range", data := .fields #[.int lo t, .int hi u, .int 1 v] }, toks := tk } := by
  refine wpAny_pyIter_range (IsRange.new ..) (small_one h1 h2 h3 h4) ?_
  have I1 : Inv X pins σ H { s with heap := s.heap.push { cls := .type "range", data := .fields #[.int lo t, .int hi u, .int 1 v] }, toks := tk } := I.kept fun b o e => Heap.get?_push_of_some _ e
  refine ⟨(s.heap.push { cls := .type "range", data := .fields #[.int lo t, .int hi u, .int 1 v] }).objs.size, [(s.heap.push { cls := .type "range", data := .fields #[.int lo t, .int hi u, .int 1 v] }).objs.size], _, _, H, rfl,
    I1.kept (t' := tk) fun b o e => Heap.get?_push_of_some _ e, turn_range _ lo (hi - lo).toNat, ?_, fun b hb => ?_, q⟩
  · have e1 : lo + ((0 : Nat) : Int) * 1 = lo := by simp
    have e2 : (((hi - lo).toNat : Nat) : Int) - ((0 : Nat) : Int) = Builtin.Range.rangeSize lo hi 1 := by rw [rangeSize_one]; split <;> omega
    show IsRangeIter _ _ (lo + ((0 : Nat) : Int) * 1) ((((hi - lo).toNat : Nat) : Int) - ((0 : Nat) : Int)) 1
    rw [e1, e2]
    exact Heap.get?_push_size _ rfl
  · have e : b = (s.heap.push { cls := .type "range", data := .fields #[.int lo t, .int hi u, .int 1 v] }).objs.size := by simpa using hb
    subst e
    exact I1.fpOk (Nat.le_refl _) (I1.hok.fresh (Nat.le_refl _))
noncomputable def iRng1 (ta : TA) : TI := fun σ H R => ta σ H fun vs H1 => ∃ j : Int, vs = [.int j] ∧ -(2 ^ 62) ≤ j ∧ j < 2 ^ 62 ∧ R (Itr 0 j.toNat) H1
theorem pi_range1 {a : Expr} {ta : TA} {p pos : Pos} (hg : Gl X "range") (hm : X.mg "range" = none) (ha : PA X [a] ta) (hs : starEach [a] X.env = [(false, eval a X.env)] := by rfl) : PI X tg (.Call (.Name "range" p) [a] [] pos) (iRng1 ta) := by
  intro pins s σ H R I h
  refine Call_ (ld_blt I hg hm boot_range (PyProof.Rows.callWith_type1 (thn (ha pos pins s σ H _ I h) fun us s1 ⟨vs, H1, I1, r1, q1⟩ => ?_) hs rfl))
  obtain ⟨j, e, q1, q2, q⟩ := q1
  subst e
  cases r1 with
  | cons r rr =>
    cases rr
    obtain ⟨t, rfl⟩ := r
    exact call_range_1 (range_it I1 (by omega) (by omega) q1 q2 (by simpa using q))
noncomputable def tFor (wi : TI) (g : TG) (tb : TS) : TS := fun D σ H => wi σ H fun J H1 => ∃ W : Nat → Nat → St → Hp → Prop, (∃ m, W 0 m σ H1) ∧ ∀ i m σ H, W i m σ H →
  (J.stop i H ∧ D.nx σ H) ∨ (J.go i H ∧ ∃ N : St → Hp → Prop, (∀ σ' H', N σ' H' → ∃ m', m' < m ∧ W (i + 1) m' σ' H') ∧ ∀ x H', J.yld i H x H' → g x σ H' fun σ2 H2 => tb { D with nx := N, ct := N, bk := D.nx } σ2 H2)
noncomputable def pinsAt (fp : List Addr) (h : Heap) : List (Addr × Obj) := fp.filterMap fun b => (h.get? b).map fun o => (b, o)
theorem mem_pinsAt {fp : List Addr} {h : Heap} {b : Addr} {o : Obj} (hb : b ∈ fp) (e : h.get? b = some o) : (b, o) ∈ pinsAt fp h := List.mem_filterMap.mpr ⟨b, hb, by rw [e]; rfl⟩
theorem of_pinsAt {fp : List Addr} {h : Heap} {p : Addr × Obj} (hp : p ∈ pinsAt fp h) : p.1 ∈ fp ∧ h.get? p.1 = some p.2 := by
  obtain ⟨b, hb, e⟩ := List.mem_filterMap.mp hp
  cases q : h.get? b with
  | none => rw [q] at e; cases e
  | some o =>
    rw [q] at e
    have e' : (b, o) = p := Option.some.inj e
    subst e'
    exact ⟨hb, q⟩
theorem Inv.pinned {pins : List (Addr × Obj)} {σ : St} {H : Hp} {s : Shared} {fp : List Addr} (I : Inv X pins σ H s) (hf : ∀ b ∈ fp, FpOk X pins H b) (ho : ∀ b ∈ fp, ∃ o, s.heap.get? b = some o ∧ ∀ v, o.data ≠ .cell v) : Inv X (pins ++ pinsAt fp s.heap) σ H s :=
  I.pins_of fun p hp => (List.mem_append.mp hp).elim (fun z => I.pin p (List.mem_append_right _ z)) fun z => by
    obtain ⟨hb, e⟩ := of_pinsAt z
    obtain ⟨f0, f1, f2, _⟩ := hf p.1 hb
    obtain ⟨o, e', d⟩ := ho p.1 hb
    rw [e] at e'; cases e'
    exact ⟨e, f0, f1, f2, d⟩
theorem Inv.unpinned {pins pl : List (Addr × Obj)} {σ : St} {H : Hp} {s : Shared} (I : Inv X (pins ++ pl) σ H s) : Inv X pins σ H s := I.pins_of fun p hp => I.pin p (List.mem_append_right _ (List.mem_append_left _ hp))
theorem ps_for {iter : Expr} {body : List Stmt} {wi : TI} {g : TG} {tb : TS} {pos : Pos} (hp : PassesOwn (model X.prog X.w) X.A X.env X.xe) (hc : X.calm = true) (hi : PI X tg iter wi) (hg : PG X tg g) (hb : PSs X body tb)
    (hs : ∀ x, foldedSetIterable iter X.env x = pure x := by intro _; rfl) : PS X (.For tg iter body [] pos) (tFor wi g tb) := by
  intro pins s σ H D I h
  refine wpAny_For (thn (hi pins s σ H _ I h) fun v s1 h1 => thn h1 fun itv s2 h2 => ?_) hs
  obtain ⟨it, fp, tn, J, H2, e, I2, T, st2, f2, W, ⟨m0, w0⟩, turn⟩ := h2
  subst e
  -- what stays true of the iterator's objects through the loop
  have stat : ∀ {H' : Hp}, (∀ b ∈ fp, H' b = none) → ∀ b ∈ fp, FpOk X pins H' b := fun hn b hb => ⟨hn b hb, (f2 b hb).2⟩
  refine codeAny_forLoop_any (fun n s' => ∃ i σ' H', Inv X pins σ' H' s' ∧ tn i s'.heap ∧ (∀ b ∈ fp, H' b = none) ∧ W i n σ' H') ?_ m0 ⟨0, σ, H2, I2, st2, fun b hb => (f2 b hb).1, w0⟩
  rintro n s3 ⟨i, σ3, H3, I3, st3, fr3, w3⟩
  rcases turn i n σ3 H3 w3 with ⟨stop, qn⟩ | ⟨go, N, hN, step⟩
  · refine wpAny_passesOwn hp (thn (T.done X rfl rfl rfl hc i pins s3 σ3 H3 X.xe I3 (stat fr3) st3 stop) fun r s4 ⟨hr, I4⟩ => ?_)
    subst hr
    exact wpAny_execs_nil ⟨σ3, H3, I4, qn⟩
  · refine wpAny_passesOwn hp (thn (T.item X rfl rfl rfl hc i pins s3 σ3 H3 X.xe I3 (stat fr3) st3 go) fun r s4 ⟨u, hr, h4⟩ => ?_)
    subst hr
    refine wpAny_passesOwn hp (thn h4 fun _ s5 hh0 => ?_)
    obtain ⟨x, H5, I5, r5, y5, st5, fr5⟩ := hh0
    have I5' := I5.pinned (stat fr5) (T.obj _ _ st5)
    refine wpAny_passesOwn hp (thn (hg _ s5 σ3 H5 x u _ I5' r5 (step x H5 y5)) fun _ s6 hh0 => ?_)
    obtain ⟨σ6, H6, I6, q6⟩ := hh0
    refine wpAny_passesOwn hp (thn (hb _ s6 σ6 H6 _ I6 q6) fun f s7 q7 => ?_)
    have again : ∀ {σ7 : St} {H7 : Hp}, Inv X (pins ++ pinsAt fp s5.heap) σ7 H7 s7 → N σ7 H7 → ∃ m, m < n ∧ ∃ i σ' H', Inv X pins σ' H' s7 ∧ tn i s7.heap ∧ (∀ b ∈ fp, H' b = none) ∧ W i m σ' H' := fun {σ7 H7} I7 n7 => by
      obtain ⟨m', hm, w7⟩ := hN σ7 H7 n7
      refine ⟨m', hm, i + 1, σ7, H7, I7.unpinned, T.keep _ _ _ st5 fun b hb o e => (I7.pin (b, o) (List.mem_append_right _ (List.mem_append_right _ (mem_pinsAt hb e)))).1, fun b hb => ?_, w7⟩
      obtain ⟨o, e, d⟩ := T.obj _ _ st5 b hb
      exact (I7.pin (b, o) (List.mem_append_right _ (List.mem_append_right _ (mem_pinsAt hb e)))).2.1
    cases f with
    | next => obtain ⟨σ7, H7, I7, n7⟩ := q7; exact again I7 n7
    | cont => obtain ⟨σ7, H7, I7, n7⟩ := q7; exact again I7 n7
    | brk => obtain ⟨σ7, H7, I7, q7⟩ := q7; exact ⟨σ7, H7, I7.unpinned, q7⟩
    | ret v => obtain ⟨x7, σ7, H7, I7, r7, q7⟩ := q7; exact ⟨x7, σ7, H7, I7.unpinned, r7, q7⟩
end
end L2
namespace L2
open PySem PySem.Spec PyProof.Rows
noncomputable abbrev R2 := V → V → Hp → VK → Prop
noncomputable def OpR (X : Cx) (f : Value → Value → Sem Value) (r : R2) : Prop :=
  ∀ (pins : List (Addr × Obj)) (s : Shared) (σ : St) (H : Hp) (x y : V) (v u : Value) (Q : VK), Inv X pins σ H s → RelV x v → RelV y u → r x y H Q →
    wpAny (model X.prog X.w) X.A (f v u) (EP X pins σ Q) X.xe s
noncomputable def UnR (X : Cx) (f : Value → Sem Value) (r : V → Hp → VK → Prop) : Prop :=
  ∀ (pins : List (Addr × Obj)) (s : Shared) (σ : St) (H : Hp) (x : V) (v : Value) (Q : VK), Inv X pins σ H s → RelV x v → r x H Q →
    wpAny (model X.prog X.w) X.A (f v) (EP X pins σ Q) X.xe s
noncomputable def CallR (X : Cx) (f : Value) (r : List V → Hp → VK → Prop) : Prop :=
  ∀ (pins : List (Addr × Obj)) (s : Shared) (σ : St) (H : Hp) (xs : List V) (us : List Value) (Q : VK), Inv X pins σ H s → Vals xs us → r xs H Q →
    wpAny (model X.prog X.w) X.A (call f us) (EP X pins σ Q) X.xe s
noncomputable def TruR (X : Cx) (r : V → Hp → (Bool → Hp → Prop) → Prop) : Prop :=
  ∀ (pins : List (Addr × Obj)) (s : Shared) (σ : St) (H : Hp) (x : V) (v : Value) (Q : Bool → Hp → Prop), Inv X pins σ H s → RelV x v → r x H Q →
    wpAny (model X.prog X.w) X.A (truthy v) (TP X pins σ Q) X.xe s
noncomputable def tOp (r : R2) (ta tb : TE) : TE := fun σ H Q => ta σ H fun x H1 => tb σ H1 fun y H2 => r x y H2 Q
noncomputable def tUn (r : V → Hp → VK → Prop) (ta : TE) : TE := fun σ H Q => ta σ H fun x H1 => r x H1 Q
noncomputable def rI (C : Int → Int → Prop) (g : Int → Int → V) : R2 := fun x y H Q => ∃ i j, x = .int i ∧ y = .int j ∧ C i j ∧ Q (g i j) H
noncomputable def rI0 (g : Int → Int → V) : R2 := fun x y H Q => ∃ i j, x = .int i ∧ y = .int j ∧ Q (g i j) H
noncomputable def rU (g : Int → V) : V → Hp → VK → Prop := fun x H Q => ∃ i, x = .int i ∧ Q (g i) H
section
variable {X : Cx} {a b c : Expr} {ta tb tc : TE} {pos : Pos}
theorem binT (ha : PE X a ta) (hb : PE X b tb) {pins : List (Addr × Obj)} {s : Shared} {σ : St} {H : Hp} {R : V → V → Hp → Prop} (I : Inv X pins σ H s)
    (h : ta σ H fun x H1 => tb σ H1 fun y H2 => R x y H2) {Q : Value → Shared → Prop} {f : Value → Value → Sem Value}
    (hf : ∀ v u s2 x y H2, Inv X pins σ H2 s2 → RelV x v → RelV y u → R x y H2 → wpAny (model X.prog X.w) X.A (f v u) Q X.xe s2) :
    wpAny (model X.prog X.w) X.A (eval a X.env) (fun v s₁ => wpAny (model X.prog X.w) X.A (eval b X.env) (fun u s₂ => wpAny (model X.prog X.w) X.A (f v u) Q X.xe s₂) X.xe s₁) X.xe s := by
  refine thn (ha pins s σ H _ I h) fun v s1 hh0 => ?_
  obtain ⟨x, H1, I1, r1, q1⟩ := hh0
  refine thn (hb pins s1 σ H1 _ I1 q1) fun u s2 hh0 => ?_
  obtain ⟨y, H2, I2, r2, q2⟩ := hh0
  exact hf v u s2 x y H2 I2 r1 r2 q2
theorem pe_op {op : Operator} {r : R2} (ho : OpR X (binaryOp op) r) (ha : PE X a ta) (hb : PE X b tb) : PE X (.BinOp a op b pos) (tOp r ta tb) := by
  intro pins s σ H Q I h
  exact wpAny_BinOp (binT ha hb I h fun v u s2 x y H2 I2 rx ry q => ho pins s2 σ H2 x y v u Q I2 rx ry q)
theorem pe_un {op : UnaryOp} {r : V → Hp → VK → Prop} (ho : UnR X (unaryOp op) r) (ha : PE X a ta) : PE X (.UnaryOp op a pos) (tUn r ta) := by
  intro pins s σ H Q I h
  exact UnaryOp_ (thn (ha pins s σ H _ I h) fun v s1 ⟨x, H1, I1, r1, q1⟩ => ho pins s1 σ H1 x v Q I1 r1 q1)
theorem opI {f : Value → Value → Sem Value} {C : Int → Int → Prop} {g : Int → Int → Int}
    (rule : ∀ (i j : Int) (t u : Tok) (s : Shared) (Q : Value → Shared → Prop) (E : Value → Shared → Prop), C i j → Q (.int (g i j) s.toks) { s with toks := s.toks + 1 } → wpAny (model X.prog X.w) X.A (f (.int i t) (.int j u)) Q E s) :
    OpR X f (rI C fun i j => .int (g i j)) := by
  intro pins s σ H x y v u Q I rx ry h
  obtain ⟨i, j, rfl, rfl, hc, q⟩ := h
  obtain ⟨t, rfl⟩ := rx
  obtain ⟨t', rfl⟩ := ry
  exact rule i j t t' s _ _ hc ⟨.int (g i j), H, I.tok _, ⟨_, rfl⟩, q⟩
theorem opI0 {f : Value → Value → Sem Value} {g : Int → Int → Int}
    (rule : ∀ (i j : Int) (t u : Tok) (s : Shared) (Q : Value → Shared → Prop) (E : Value → Shared → Prop), Q (.int (g i j) s.toks) { s with toks := s.toks + 1 } → wpAny (model X.prog X.w) X.A (f (.int i t) (.int j u)) Q E s) :
    OpR X f (rI0 fun i j => .int (g i j)) := by
  intro pins s σ H x y v u Q I rx ry h
  obtain ⟨i, j, rfl, rfl, q⟩ := h
  obtain ⟨t, rfl⟩ := rx
  obtain ⟨t', rfl⟩ := ry
  exact rule i j t t' s _ _ ⟨.int (g i j), H, I.tok _, ⟨_, rfl⟩, q⟩
theorem opB0 {f : Value → Value → Sem Value} {g : Int → Int → Bool}
    (rule : ∀ (i j : Int) (t u : Tok) (s : Shared) (Q : Value → Shared → Prop) (E : Value → Shared → Prop), Q (.bool (g i j)) s → wpAny (model X.prog X.w) X.A (f (.int i t) (.int j u)) Q E s) :
    OpR X f (rI0 fun i j => .bl (g i j)) := by
  intro pins s σ H x y v u Q I rx ry h
  obtain ⟨i, j, rfl, rfl, q⟩ := h
  obtain ⟨t, rfl⟩ := rx
  obtain ⟨t', rfl⟩ := ry
  exact rule i j t t' s _ _ ⟨.bl (g i j), H, I, rfl, q⟩
noncomputable def CDiv (i j : Int) : Prop := 0 < j ∧ j < 1073741824
noncomputable def CMul (i j : Int) : Prop := (-(2 ^ 64) < i ∧ i < 2 ^ 64) ∨ (-(2 ^ 64) < j ∧ j < 2 ^ 64)
theorem CMul.ok {i j : Int} (h : CMul i j) : IntMulOk i j := by
  rcases h with ⟨h1, h2⟩ | ⟨h1, h2⟩
  · exact .of_left (intBits_le_64 h1 h2)
  · exact .of_right (intBits_le_64 h1 h2)
theorem op_add : OpR X (binaryOp .Add) (rI0 fun i j => .int (i + j)) := opI0 fun _ _ _ _ _ _ _ q => add_int q
theorem op_mul : OpR X (binaryOp .Mult) (rI CMul fun i j => .int (i * j)) := opI fun _ _ _ _ _ _ _ hc q => mul_int q hc.ok
theorem op_fdiv : OpR X (binaryOp .FloorDiv) (rI CDiv fun i j => .int (i / j)) := opI fun i j _ _ _ _ _ hc q => by
  have h1 : (0 : Int) < j := hc.1
  have h2 : j < 1073741824 := hc.2
  exact floordiv_int (by omega) (by rw [Int.fdiv_eq_ediv_of_nonneg i (by omega)]; exact q) (.inl (PyProof.noPylong_small (by omega)))
theorem op_mod : OpR X (binaryOp .Mod) (rI (fun _ j => 0 < j) fun i j => .int (i % j)) := opI fun i j _ _ _ _ _ hc q => by
  have h1 : (0 : Int) < j := hc
  exact mod_int' (by omega) (by rw [Int.fmod_eq_emod_of_nonneg i (by omega)]; exact q)
theorem unI {f : Value → Sem Value} {g : Int → Int}
    (rule : ∀ (i : Int) (t : Tok) (s : Shared) (Q : Value → Shared → Prop) (E : Value → Shared → Prop), Q (.int (g i) s.toks) { s with toks := s.toks + 1 } → wpAny (model X.prog X.w) X.A (f (.int i t)) Q E s) :
    UnR X f (rU fun i => .int (g i)) := by
  intro pins s σ H x v Q I rx h
  obtain ⟨i, rfl, q⟩ := h
  obtain ⟨t, rfl⟩ := rx
  exact rule i t s _ _ ⟨.int (g i), H, I.tok _, ⟨_, rfl⟩, q⟩
theorem un_neg : UnR X (unaryOp .USub) (rU fun i => .int (-i)) := unI fun _ _ _ _ _ q => neg_int q
end
section
variable {X : Cx} {a b c : Expr} {ta tb tc : TE} {pos : Pos}
theorem fin_bl {pins : List (Addr × Obj)} {σ : St} {H : Hp} {s : Shared} {Q : VK} {k k' : Bool} (I : Inv X pins σ H s) (q : Q (.bl k) H) (e : k = k') : EP X pins σ Q (.bool k') s := by
  subst e
  exact ⟨.bl k, H, I, rfl, q⟩
theorem op_lt : OpR X (compareOp .Lt) (rI0 fun i j => .bl (decide (i < j))) := opB0 fun _ _ _ _ _ _ _ q => lt_int q
theorem op_le : OpR X (compareOp .LtE) (rI0 fun i j => .bl (decide (i ≤ j))) := opB0 fun _ _ _ _ _ _ _ q => le_int q
theorem op_gt : OpR X (compareOp .Gt) (rI0 fun i j => .bl (decide (j < i))) := opB0 fun _ _ _ _ _ _ _ q => gt_int q
theorem op_isN : OpR X (compareOp .Is) (fun x y H Q => y = .non ∧ Q (.bl (decide (x = .non))) H) := by
  intro pins s σ H x y v u Q I rx ry h
  obtain ⟨rfl, q⟩ := h
  cases ry
  refine is_none_gen (fin_bl I q ?_)
  cases x <;> first
    | (cases rx; rfl)
    | (obtain ⟨t, rfl⟩ := rx; rfl)
theorem OpR.or {f : Value → Value → Sem Value} {r r' : R2} (h : OpR X f r) (h' : OpR X f r') : OpR X f (fun x y H Q => r x y H Q ∨ r' x y H Q) := by
  intro pins s σ H x y v u Q I rx ry q
  rcases q with q | q
  · exact h pins s σ H x y v u Q I rx ry q
  · exact h' pins s σ H x y v u Q I rx ry q
theorem nomark (b : Expr) {op : CmpOp} (h : op ≠ .In := by decide) (h2 : op ≠ .NotIn := by decide) : behindInMarks op b = false := by
  have e1 : (op == CmpOp.In) = false := by cases op <;> first | rfl | exact absurd rfl h
  have e2 : (op == CmpOp.NotIn) = false := by cases op <;> first | rfl | exact absurd rfl h2
  cases b <;> simp [behindInMarks, e1, e2]
theorem pe_cmpR {op : CmpOp} {r : R2} (ho : OpR X (compareOp op) r) (ha : PE X a ta) (hb : PE X b tb) (hm : behindInMarks op b = false) : PE X (.Compare a [op] [b] pos) (tOp r ta tb) := by
  intro pins s σ H Q I h
  exact wpAny_Compare1 (binT ha hb I h fun v u s2 x y H2 I2 rx ry q => ho pins s2 σ H2 x y v u Q I2 rx ry q) hm
noncomputable def tTest (t : TE) : TT := fun σ H Q => t σ H fun x H' => ∃ k, x = .bl k ∧ Q k H'
theorem pt_cmpR {op : CmpOp} {r : R2} (ho : OpR X (compareOp op) r) (ha : PE X a ta) (hb : PE X b tb) (hm : behindInMarks op b = false) : PT X (.Compare a [op] [b] pos) (tTest (tOp r ta tb)) := by
  intro pins s σ H Q I h
  refine wpAny_isTrue_Compare1 (thn (ha pins s σ H _ I h) fun v s1 ⟨x, H1, I1, r1, q1⟩ => thn (hb pins s1 σ H1 _ I1 q1) fun u s2 ⟨y, H2, I2, r2, q2⟩ =>
    thn (ho pins s2 σ H2 x y v u _ I2 r1 r2 q2) fun c s3 ⟨z, H3, I3, r3, k, e, q3⟩ => ?_) hm
  subst e
  cases r3
  exact wpAny_truthy_bool ⟨H3, I3, q3⟩
noncomputable def tChain (r r' : R2) (ta tb tc : TE) : TE := fun σ H Q => ta σ H fun x H1 => tb σ H1 fun y H2 => r x y H2 fun z H3 => ∃ k, z = .bl k ∧
  (if k = true then tc σ H3 fun w' H4 => r' y w' H4 Q else Q (.bl false) H3)
theorem pe_chain {op op' : CmpOp} {r r' : R2} (ho : OpR X (compareOp op) r) (ho' : OpR X (compareOp op') r') (ha : PE X a ta) (hb : PE X b tb) (hc : PE X c tc)
    (hm : lastMarks [op, op'] [b, c] = false := by with_unfolding_all rfl) : PE X (.Compare a [op, op'] [b, c] pos) (tChain r r' ta tb tc) := by
  intro pins s σ H Q I h
  refine Compare_chain (thn (ha pins s σ H _ I h) fun v s1 ⟨x, H1, I1, r1, q1⟩ => chain_link (thn (hb pins s1 σ H1 _ I1 q1) fun u s2 ⟨y, H2, I2, r2, q2⟩ =>
    thn (ho pins s2 σ H2 x y v u _ I2 r1 r2 q2) fun d s3 ⟨z, H3, I3, r3, k, e, q3⟩ => ?_)) hm
  subst e
  cases r3
  refine wpAny_truthy_bool ?_
  cases k with
  | false => exact ite_ff ⟨.bl false, H3, I3, rfl, q3⟩
  | true => exact ite_tt (chain_last (thn (hc pins s3 σ H3 _ I3 q3) fun w' s4 ⟨z', H4, I4, r4, q4⟩ => ho' pins s4 σ H4 y z' u w' Q I4 r2 r4 q4))
theorem pt_chain {op op' : CmpOp} {r r' : R2} (ho : OpR X (compareOp op) r) (ho' : OpR X (compareOp op') r') (ha : PE X a ta) (hb : PE X b tb) (hc : PE X c tc)
    (hm : lastMarks [op, op'] [b, c] = false := by with_unfolding_all rfl) : PT X (.Compare a [op, op'] [b, c] pos) (tTest (tChain r r' ta tb tc)) := by
  intro pins s σ H Q I h
  refine isTrue_chain (thn (ha pins s σ H _ I h) fun v s1 ⟨x, H1, I1, r1, q1⟩ => test_link (thn (hb pins s1 σ H1 _ I1 q1) fun u s2 ⟨y, H2, I2, r2, q2⟩ =>
    thn (ho pins s2 σ H2 x y v u _ I2 r1 r2 q2) fun d s3 ⟨z, H3, I3, r3, k, e, q3⟩ => ?_)) hm
  subst e
  cases r3
  refine wpAny_truthy_bool ?_
  cases k with
  | false =>
    obtain ⟨k', e', q'⟩ := q3
    cases e'
    exact ite_ff ⟨H3, I3, q'⟩
  | true =>
    refine ite_tt (test_last (thn (hc pins s3 σ H3 _ I3 q3) fun w' s4 ⟨z', H4, I4, r4, q4⟩ => thn (ho' pins s4 σ H4 y z' u w' _ I4 r2 r4 q4) fun d' s5 hh0 => ?_))
    obtain ⟨z2, H5, I5, r5, k2, e2, q5⟩ := hh0
    subst e2
    cases r5
    exact wpAny_truthy_bool ⟨H5, I5, q5⟩
noncomputable def TruV (K : PySem.W.Frag) (x : V) (H : Hp) (k : Bool) : Prop :=
  match x with
  | .non => k = false
  | .bl b => k = b
  | .int i => k = (i != 0)
  | .str y => y.length ≤ sizeLine ∧ k = ((y.length : Int) != 0)
  | .byt y => y.size ≤ sizeLine ∧ k = ((y.size : Int) != 0)
  | .ref p => (∃ xs, SqL K H p xs ∧ k = !xs.isEmpty) ∨ (∃ xs, SqT K H p xs ∧ k = !xs.isEmpty) ∨ ∃ kvs, H p = some (.dK kvs) ∧ k = !kvs.isEmpty
  | _ => False
theorem isEmpty_kv {κ : Type} {kvs : List (κ × V)} {vs : List (κ × Value)} (r : KV kvs vs) : (!vs.isEmpty) = !kvs.isEmpty := by
  cases r <;> rfl
theorem isEmpty_of {xs : List V} {its : List Value} (r : Vals xs its) : (!its.toArray.isEmpty) = !xs.isEmpty := by
  cases r <;> simp
theorem line63 : (sizeLine : Nat) < 2 ^ 63 := by rw [sizeLine_eq]; decide
theorem tru_ok : TruR X (fun x H Q => ∃ k, TruV X.K x H k ∧ Q k H) := by
  intro pins s σ H x v Q I rx h
  obtain ⟨k, e, q⟩ := h
  have hl := line63
  have hs : sizeLine = 16777216 := sizeLine_eq
  cases x with
  | non =>
    cases rx
    have e' : k = false := e
    subst e'
    exact truthy_none ⟨H, I, q⟩
  | bl b =>
    cases rx
    have e' : k = b := e
    subst e'
    exact wpAny_truthy_bool ⟨H, I, q⟩
  | int i =>
    obtain ⟨t, rfl⟩ := rx
    have e' : k = (i != 0) := e
    subst e'
    exact PySem.P.truthy_int ⟨H, I, q⟩
  | str y =>
    obtain ⟨t, rfl⟩ := rx
    obtain ⟨hy, e'⟩ : y.length ≤ sizeLine ∧ k = ((y.length : Int) != 0) := e
    subst e'
    exact PySem.P.truthy_str (by omega) ⟨H, I.tok _, q⟩
  | byt y =>
    obtain ⟨t, rfl⟩ := rx
    obtain ⟨hy, e'⟩ : y.size ≤ sizeLine ∧ k = ((y.size : Int) != 0) := e
    subst e'
    exact PySem.W.truthy_bytes (by omega) ⟨H, I.tok _, q⟩
  | ref p =>
    cases rx
    have e' : (∃ xs, SqL X.K H p xs ∧ k = !xs.isEmpty) ∨ (∃ xs, SqT X.K H p xs ∧ k = !xs.isEmpty) ∨ ∃ kvs, H p = some (.dK kvs) ∧ k = !kvs.isEmpty := e
    rcases e' with ⟨xs, hx, e'⟩ | ⟨xs, hx, e'⟩ | ⟨kvs, hx, e'⟩
    · subst e'
      obtain ⟨its, r, pl, hz⟩ := I.list hx
      have hlen := r.length
      exact wpAny_truthy_list pl.isList (by simp only [List.size_toArray]; omega) ⟨H, I.tok _, by rw [isEmpty_of r]; exact q⟩
    · subst e'
      obtain ⟨its, r, pl, hz⟩ := I.tuple hx
      have hlen := r.length
      exact truthy_tuple pl (by simp only [List.size_toArray]; omega) ⟨H, I.tok _, by rw [isEmpty_of r]; exact q⟩
    · subst e'
      obtain ⟨hz, hS, vs, r, m⟩ : kvs.length ≤ sizeLine ∧ (p == sysModules) = false ∧ ∃ vs, KV kvs vs ∧ s.heap.DictOf (mixKind X.prog X.w) p vs := I.hok p _ hx
      have hlen : kvs.length = vs.length := Paired.length r
      exact wpAny_truthy_dict hS m (by omega) ⟨H, I.tok _, by rw [isEmpty_kv r]; exact q⟩
  | _ => exact (show False from e).elim
theorem pt_truth (ha : PE X a ta) (he : ∀ whole, isTrue a X.env whole = (do let v ← whole; standAt a.pos; holding [v] (truthy v))) :
    PT X a (fun σ H Q => ta σ H fun x H' => ∃ k, TruV X.K x H' k ∧ Q k H') := by
  intro pins s σ H Q I h
  exact isTrue_plain (thn (ha pins s σ H _ I h) fun v s1 ⟨x, H1, I1, r1, q1⟩ => tru_ok pins s1 σ H1 x v Q I1 r1 q1) (he _)
theorem vals1 {x : V} {us : List Value} (r : Vals [x] us) : ∃ u, us = [u] ∧ RelV x u := by
  cases r with
  | cons r1 r2 => cases r2; exact ⟨_, rfl, r1⟩
theorem vals2 {x y : V} {us : List Value} (r : Vals [x, y] us) : ∃ u w', us = [u, w'] ∧ RelV x u ∧ RelV y w' := by
  cases r with
  | cons r1 r2 =>
    cases r2 with
    | cons r3 r4 => cases r4; exact ⟨_, _, rfl, r1, r3⟩
theorem call_max2 (hc : X.calm = true) : CallR X (.builtin "max") (fun xs H Q => ∃ i j, xs = [.int i, .int j] ∧ Q (.int (if j > i then j else i)) H) := by
  intro pins s σ H xs us Q I r h
  obtain ⟨i, j, rfl, q⟩ := h
  obtain ⟨u, w', rfl, ⟨t, rfl⟩, ⟨t', rfl⟩⟩ := vals2 r
  refine max_two_ints (I.ok.hd hc) fun h' tk k => ⟨_, H, I.kept k, ?_, q⟩
  by_cases hj : j > i
  · rw [if_pos hj, if_pos hj]; exact ⟨_, rfl⟩
  · rw [if_neg hj, if_neg hj]; exact ⟨_, rfl⟩
end
end L2
namespace L2
open PySem PySem.Spec PyProof.Rows
structure ObjM (h : Heap) (x dx C : Addr) (mA : Str → Option Value) : Prop where
  obj : h.get? x = some (PySem.W.instObj C dx)
  ns : h.Ns1 dx mA
  ne : dx ≠ x
theorem lookIn_ns {h : Heap} {dx : Addr} {mA : Str → Option Value} (n : h.Ns1 dx mA) : ∃ od, h.get? dx = some od ∧ ∀ name, PySem.W.lookIn name od = some (mA name) := by
  obtain ⟨o, es, ep, ho, hd, hk, _, hm⟩ := n
  refine ⟨o, ho, fun name => ?_⟩
  have e := hm name
  unfold nsFind findBy at e
  rw [← Array.find?_toList] at e
  unfold PySem.W.lookIn
  rw [hd]
  dsimp only
  split
  · rename_i y q
    rw [q] at e
    exact congrArg some e
  · rename_i q
    rw [q] at e
    have a : es.toList.any (·.refKey) = false := by
      rw [List.any_eq_false]
      intro y hy
      obtain ⟨z, t, hkey⟩ := hk y (Array.mem_toList_iff.mp hy)
      simp [DictEntry.refKey, hkey]
    have a' : ¬ es.toList.any (·.refKey) = true := by rw [a]; exact Bool.false_ne_true
    rw [if_neg a']
    exact congrArg some e
theorem ObjM.look {h : Heap} {x dx C : Addr} {mA : Str → Option Value} (I : ObjM h x dx C mA) : ∃ od, PySem.W.InstAt h x (PySem.W.instObj C dx) C (some od) ∧ ∀ name, PySem.W.lookIn name od = some (mA name) :=
  let ⟨od, ho, hl⟩ := lookIn_ns I.ns
  ⟨od, ⟨I.obj, rfl, rfl, ho⟩, hl⟩
section
variable {prog : Program} {w : World} {A : Around} {E : Value → Shared → Prop} {s : Shared} {K : PySem.W.Frag} {x dx C f : Addr} {mA : Str → Option Value} {name : Str} {v : Value}
end
section
variable {P : Program} {w : World} {H H' : Hp} {h h' : Heap} {a C dx : Addr} {fs fs' : List (Str × V)}
theorem ins_get (hok : HOk P w H h) (e : H a = some (.ins C dx fs)) : ∃ mA, ObjM h a dx C mA ∧ (∀ f, RelO (fs.lookup f) (mA f)) ∧ PySem.Within mA (fs.map (·.1)) ∧ fs.length ≤ 1000 ∧ H dx = some (.own a) := by
  obtain ⟨d, z, ne, ob, mA, n, r, q⟩ := (show ObjOk P w H h a (.ins C dx fs) from hok a _ e)
  exact ⟨mA, ⟨ob, n, ne⟩, r, q, z, d⟩
end
structure Cls (K : PySem.W.Frag) (C : Addr) : Prop where
  pg : PySem.W.plainGet K C Str.empty = true
  hd : PySem.W.hasDictIn K C = true
  po : PySem.W.plainOver K C = true
  sa : PySem.W.findIn K (.ref C) "__setattr__" = some (some (.builtin "object.__setattr__"))
theorem Cls.get {K : PySem.W.Frag} {C : Addr} (c : Cls K C) (f : Str) : PySem.W.plainGet K C f = true := c.pg
section
variable {X : Cx} {pins : List (Addr × Obj)} {σ : St} {H : Hp} {s : Shared} {a C dx : Addr} {fs : List (Str × V)} {f : Str} {v : V} {A : Around} {E : Value → Shared → Prop}
end
section
variable {X : Cx} {pins : List (Addr × Obj)} {σ : St} {H : Hp} {s : Shared} {A : Around} {E : Value → Shared → Prop} {Q : Value → Shared → Prop} {c : Value} {b : Bool}
inductive TyOf (K : PySem.W.Frag) (H : Hp) : V → Value → Prop where
  | non : TyOf K H .non (.type "NoneType")
  | bl (x : Bool) : TyOf K H (.bl x) (.type "bool")
  | int (i : Int) : TyOf K H (.int i) (.type "int")
  | str (x : Str) : TyOf K H (.str x) (.type "str")
  | flt (x : UInt64) : TyOf K H (.flt x) (.type "float")
  | lst {a : Addr} {xs : List V} (e : H a = some (.lst xs)) : TyOf K H (.ref a) (.type "list")
  | frz {a : Addr} {o : Obj} {xs : List V} (e : H a = some (.frz o (.lst xs))) : TyOf K H (.ref a) (.type "list")
  | tup {a : Addr} {xs : List V} (e : H a = some (.tup xs)) : TyOf K H (.ref a) (.type "tuple")
  | dK {a : Addr} {kvs : List (Key × V)} (e : H a = some (.dK kvs)) : TyOf K H (.ref a) (.type "dict")
  | dT {a : Addr} {kvs : List (List Key × V)} (e : H a = some (.dT kvs)) : TyOf K H (.ref a) (.type "dict")
  | ins {a C dx : Addr} {fs : List (Str × V)} (e : H a = some (.ins C dx fs)) (cl : Cls K C) (ha : PySem.W.findIn K (.ref C) "__class__" = some (some (.builtin "object.__class__")))
      (hn : PySem.W.specialIn K (.builtin "object.__class__") "__get__" = some (some (.builtin "getset_descriptor.__get__"))) (htk : PySem.W.takesIn K (.builtin "object.__class__") = some true)
      (hm : PySem.W.mroIn K C (.type "object") = some true) : TyOf K H (.ref a) (.ref C)
theorem isinst_ok {x : V} {u t : Value} (I : Inv X pins σ H s) (rx : RelV x u) (ty : TyOf X.K H x t) (e : PySem.W.kitOne X.K t c = some b) (h : ∀ tk, Q (.bool b) { s with toks := tk }) :
    wpAny (model X.prog X.w) A (call (.builtin "isinstance") [u, c]) Q E s := by
  cases ty with
  | non => cases (show u = Value.none from rx); exact PySem.W.kia_one PySem.W.kitx_none I.kIn True.intro e (fun z => nomatch z) h
  | bl y => cases (show u = Value.bool y from rx); exact PySem.W.kia_one PySem.W.kitx_bool I.kIn True.intro e (fun z => nomatch z) h
  | int i => obtain ⟨t, q⟩ := (show ∃ t, u = Value.int i t from rx); cases q; exact PySem.W.kia_one PySem.W.kitx_int I.kIn True.intro e (fun z => nomatch z) h
  | str y => obtain ⟨t, q⟩ := (show ∃ t, u = Value.str y t from rx); cases q; exact PySem.W.kia_one PySem.W.kitx_str I.kIn True.intro e (fun z => nomatch z) h
  | flt y => obtain ⟨t, q⟩ := (show ∃ t, u = Value.float y t from rx); cases q; exact PySem.W.kia_one PySem.W.kitx_float I.kIn True.intro e (fun z => nomatch z) h
  | @lst a xs ea =>
    cases (show u = Value.ref a from rx)
    obtain ⟨_, _, n, _, h1⟩ := (show ObjOk X.prog X.w H s.heap a (.lst xs) from I.hok a _ ea)
    exact PySem.W.kia_one PySem.W.kitx_list I.kIn ⟨_, h1, rfl⟩ e (fun z => nomatch z) h
  | @frz a ob xs ea =>
    cases (show u = Value.ref a from rx)
    obtain ⟨_, _, _, n, _, h1⟩ := (show ObjOk X.prog X.w H s.heap a (.frz ob (.lst xs)) from I.hok a _ ea)
    exact PySem.W.kia_one PySem.W.kitx_list I.kIn ⟨_, h1, rfl⟩ e (fun z => nomatch z) h
  | @tup a xs ea =>
    cases (show u = Value.ref a from rx)
    obtain ⟨_, _, _, p⟩ := (show ObjOk X.prog X.w H s.heap a (.tup xs) from I.hok a _ ea)
    obtain ⟨o, h1, h2, _⟩ := p
    exact PySem.W.kia_one PySem.W.kitx_tuple I.kIn ⟨o, h1, h2⟩ e (fun z => nomatch z) h
  | @dK a kvs ea =>
    cases (show u = Value.ref a from rx)
    obtain ⟨_, _, vs, _, p⟩ := (show ObjOk X.prog X.w H s.heap a (.dK kvs) from I.hok a _ ea)
    obtain ⟨o, es, ep, h1, h2, _⟩ := p
    exact PySem.W.kia_one PySem.W.kitx_dict I.kIn ⟨o, h1, h2.1⟩ e (fun z => nomatch z) h
  | @dT a kvs ea =>
    cases (show u = Value.ref a from rx)
    obtain ⟨_, _, xs, _, o, es, ep, h1, h2, _⟩ := (show ObjOk X.prog X.w H s.heap a (.dT kvs) from I.hok a _ ea)
    exact PySem.W.kia_one PySem.W.kitx_dict I.kIn ⟨o, h1, h2.1⟩ e (fun z => nomatch z) h
  | @ins a C dx fs ea cl ha hn htk hm =>
    cases (show u = Value.ref a from rx)
    obtain ⟨mA, O, _⟩ := ins_get I.hok ea
    obtain ⟨od, J, _⟩ := O.look
    exact PySem.W.kia_one (PySem.W.kitx_own (cl.get _) cl.hd ha hn htk hm) I.kIn J e (fun z => nomatch z) h
end
end L2
namespace L2
open PySem PySem.Spec PyProof.Rows
structure Room (k : Nat) (A : Around) : Prop where
  hd : A.handled = none
  dp : A.depth + 3 * k + 5 < recursionLimit
  un : A.units + 16 * k + 200 < cLine
theorem Room.mono {j k : Nat} {A : Around} (r : Room k A) (h : j ≤ k) : Room j A := ⟨r.hd, by have := r.dp; omega, by have := r.un; omega⟩
theorem Room.deeper {k : Nat} {A : Around} (r : Room (k + 1) A) (env : Env) : Room k (A.deeper env) :=
  ⟨r.hd, by have := r.dp; show A.depth + 1 + 3 * k + 5 < _; omega, by have := r.un; show A.units + 3 + 16 * k + 200 < _; omega⟩
theorem Room.depth {k : Nat} {A : Around} (r : Room k A) : A.depth < recursionLimit := by have := r.dp; omega
theorem Room.units {k : Nat} {A : Around} (r : Room k A) : A.units + 64 < cLine := by have := r.un; omega
noncomputable def tNil : TA := fun _ H Q => Q [] H
noncomputable def tCons (ta : TE) (tr : TA) : TA := fun σ H Q => ta σ H fun x H1 => tr σ H1 fun xs H2 => Q (x :: xs) H2
section
variable {X : Cx} {e : Expr} {es : List Expr} {te : TE} {t : TA} {pos : Pos}
theorem pa_nil : PA X [] tNil := fun _ _ _ _ H Q I h => Calls.spliced_nil ⟨[], H, I, .nil, h⟩
theorem pa_cons (ha : PE X e te) (hr : PA X es t) (hs : starEach (e :: es) X.env = (false, eval e X.env) :: starEach es X.env := by rfl) : PA X (e :: es) (tCons te t) := by
  intro pos pins s σ H Q I h
  rw [hs]
  show wpAny _ _ (spliced ((false, eval e X.env) :: backTo pos (starEach es X.env))) _ _ s
  refine Calls.spliced_cons (thn (ha pins s σ H _ I h) fun u s1 hh0 => ?_)
  obtain ⟨x, H1, I1, r1, q1⟩ := hh0
  exact thn (hr pos pins s1 σ H1 _ I1 q1) fun us s2 ⟨xs, H2, I2, r2, q2⟩ => ⟨x :: xs, H2, I2, .cons r1 r2, q2⟩
noncomputable def tTup (t : TA) : TE := fun σ H Q => t σ H fun xs H1 => xs.length ≤ sizeLine ∧ ∀ p, H1 p = none → Q (.ref p) (upd H1 p (.tup xs))
noncomputable def tLst (t : TA) : TE := fun σ H Q => t σ H fun xs H1 => xs.length ≤ sizeLine ∧ ∀ p, H1 p = none → Q (.ref p) (upd H1 p (.lst xs))
theorem pe_tup {x1} (h : PA X es t) : PE X (.Tuple es x1 pos) (tTup t) := by
  intro pins s σ H Q I hq
  refine wpAny_Tuple_spliced (thn (h pos pins s σ H _ I hq) fun us s1 ⟨xs, H1, I1, r, z, q⟩ => ⟨by rw [← r.length]; exact z, ?_⟩)
  have hf : H1 s1.heap.objs.size = none := I1.hok.fresh (Nat.le_refl _)
  refine ⟨.ref s1.heap.objs.size, upd H1 s1.heap.objs.size (.tup xs), I1.laid (t' := s1.toks) (fun b u e => Heap.get?_push_of_some _ e) (Nat.le_refl _) ?_, rfl, q _ hf⟩
  exact ⟨z, us, r, ⟨_, Heap.get?_push_size _ rfl, rfl, ⟨_, rfl⟩, rfl⟩⟩
theorem pe_lst (h : PA X es t) : PE X (.List es pos) (tLst t) := by
  intro pins s σ H Q I hq
  refine wpAny_List_spliced (thn (h pos pins s σ H _ I hq) fun us s1 ⟨xs, H1, I1, r, z, q⟩ => ⟨by rw [← r.length]; exact z, ?_⟩)
  have hf : H1 s1.heap.objs.size = none := I1.hok.fresh (Nat.le_refl _)
  refine ⟨.ref s1.heap.objs.size, upd H1 s1.heap.objs.size (.lst xs), I1.laid (t' := s1.toks) (fun b u e => Heap.get?_push_of_some _ e) (Nat.le_refl _) ?_, rfl, q _ hf⟩
  exact ⟨z, us, 0, r, Heap.get?_push_size _ rfl⟩
end
noncomputable abbrev Sp := List V → Hp → VK → XK → Prop
noncomputable abbrev CXT := List Env → Hp → Shared → XK → Value → Shared → Prop
structure Env0 (P : Program) (w : World) (K : PySem.W.Frag) (mg : Str → Option Value) (base : Heap) (A : Around) (outer : List Env) (s : Shared) (H : Hp) : Prop where
  frames : A.frames = some outer
  mod : Mod K mg base
  bs : ∀ b o, base.get? b = some o → s.heap.get? b = some o ∧ H b = none
  bsz : base.objs.size ≤ s.heap.objs.size
  funs : s.heap.FunFrames base outer
  frf : ∀ b ∈ frs outer, H b = none
  hok : HOk P w H s.heap
  bare : AllBare s.gens
noncomputable def CE (outer : List Env) (P : Program) (w : World) (H : Hp) (s : Shared) (Q : VK) (u : Value) (s' : Shared) : Prop :=
  ∃ v H', s'.os = s.os ∧ AllBare s'.gens ∧ Un (frs outer) [] H H' s.heap s'.heap ∧ HOk P w H' s'.heap ∧ RelV v u ∧ Q v H'
noncomputable def CR (CX : CXT) (outer : List Env) (P : Program) (w : World) (H : Hp) (s : Shared) (Q : VK) (E : XK) (r : Result) (s' : Shared) : Prop :=
  match r with
  | .ok (.ret u) => CE outer P w H s Q u s'
  | .ok _ => False
  | .error e => CX outer H s E e s'
structure FnOk (P : Program) (w : World) (K : PySem.W.Frag) (mg : Str → Option Value) (base : Heap) (CX : CXT) (k : Nat) (f : Addr) (fd : FuncData) (ps : List Str) (sp : Sp) : Prop where
  len : ∀ vs H Q E, sp vs H Q E → vs.length = ps.length
  run : ∀ (A : Around) (outer : List Env) (s : Shared) (H : Hp) (args : Args) (us : List Value) (vs : List V) (Q : VK) (E : XK), Room k A → Env0 P w K mg base A outer s H → BindsTo s fd args (ps.zip us) → Vals vs us → sp vs H Q E →
    codeAny (model P w) A (.call (.ref f) args) (CR CX outer P w H s Q E) s
section
variable {X : Cx} {pins : List (Addr × Obj)} {σ : St} {H : Hp} {s s' : Shared}
theorem Inv.env0 (I : Inv X pins σ H s) : Env0 X.prog X.w X.K X.mg X.base X.A X.stack s H :=
  ⟨I.ok.frames, I.ok.mod, I.bs, Nat.le_trans I.ok.bsz I.sz, I.stack, I.stkFree, I.hok, I.bare⟩
theorem Inv.after {Q : VK} {u : Value} (I : Inv X pins σ H s) (h : CE X.stack X.prog X.w H s Q u s') : EP X pins σ Q u s' := by
  obtain ⟨v, H', os, bare, un, hok, r, q⟩ := h
  obtain ⟨hh, g, d, t, os'⟩ := s'
  obtain rfl : os' = s.os := os
  exact ⟨v, H', I.call (h' := hh) (g' := g) (d' := d) (t' := t) (ch := []) un hok bare (fun b z => absurd z (by simp)), r, q⟩
end
noncomputable def tCall (sp : Sp) (dvs : List V) (E : XK) (t : TA) : TE := fun σ H Q => t σ H fun vs H1 => sp (vs ++ dvs) H1 Q E
noncomputable def Binds (K : PySem.W.Frag) (fd : FuncData) (ps : List Str) (ds : List Value) : Prop :=
  ∀ (s : Shared) (us : List Value), K.In s.heap → (us ++ ds).length = ps.length → BindsTo s fd ⟨us, []⟩ (ps.zip (us ++ ds))
theorem Binds.all {K : PySem.W.Frag} {fd : FuncData} {ps : List Str} (h : ∀ us : List Value, us.length = ps.length → bindArgs fd ⟨us, []⟩ = pure (ps.zip us)) : Binds K fd ps [] := fun s us _ hl => by
  rw [List.append_nil] at hl ⊢
  exact .of_eq (h us hl)
noncomputable def Passes (CX : CXT) (X : Cx) (E : XK) : Prop := ∀ (pins : List (Addr × Obj)) (σ : St) (H : Hp) (s : Shared) (e : Value) (s' : Shared), Inv X pins σ H s → CX X.stack H s E e s' → X.xe e s'
section
variable {X : Cx} {CX : CXT} {k : Nat} {f C : Addr} {fd : FuncData} {ps : List Str} {sp : Sp} {dvs : List V} {ds : List Value} {E : XK} {x m : Str} {p pos apos : Pos} {e o : Expr} {es : List Expr} {ta : TE} {t : TA}
theorem run_fn {pins : List (Addr × Obj)} {σ : St} {H : Hp} {s : Shared} {Q : VK} {us : List Value} {vs : List V} (F : FnOk X.prog X.w X.K X.mg X.base CX k f fd ps sp) (hr : Room k X.A) (hb : Binds X.K fd ps ds) (hd : Vals dvs ds) (hx : Passes CX X E)
    (I : Inv X pins σ H s) (r : Vals vs us) (h : sp (vs ++ dvs) H Q E) : wpAny (model X.prog X.w) X.A (call (.ref f) us) (EP X pins σ Q) X.xe s := by
  have r2 : Vals (vs ++ dvs) (us ++ ds) := r.append hd
  have hl : (us ++ ds).length = ps.length := by rw [← r2.length]; exact F.len _ _ _ _ h
  refine wpAny_call (codeAny_mono (F.run X.A X.stack s H ⟨us, []⟩ (us ++ ds) (vs ++ dvs) Q E hr I.env0 (hb s us I.kIn hl) r2 h) fun r s' hq => ?_)
  cases r with
  | error e => exact hx pins σ H s e s' I hq
  | ok fl =>
    cases fl with
    | ret u => exact I.after hq
    | next => exact False.elim hq
    | brk => exact False.elim hq
    | cont => exact False.elim hq
theorem pe_call (F : FnOk X.prog X.w X.K X.mg X.base CX k f fd ps sp) (hr : Room k X.A) (hg : Gl X x) (hm : X.mg x = some (.ref f)) (hk : PySem.W.keepIn X.K (.ref f) = true) (hb : Binds X.K fd ps ds) (hd : Vals dvs ds) (hx : Passes CX X E)
    (ha : PA X (e :: es) t) (hdb : (x == ("__debug__" : Str)) = false := by decide) (he : starEach (e :: es) X.env = (false, eval e X.env) :: starEach es X.env := by rfl) (hpl : (backTo pos (starEach es X.env)).any (·.1) = false := by rfl) :
    PE X (.Call (.Name x p) (e :: es) [] pos) (tCall sp dvs E t) := by
  intro pins s σ H Q I h
  refine wpAny_Call_Name_kw (ld_glob I hg hm ?_ hdb)
  refine PySem.W.callWith_K (h₀ := X.base) I.ok.mod.kin hk (thn (ha pos pins s σ H _ I h) fun us s1 ⟨vs, H1, I1, r, q⟩ => ⟨I1.kIn, ?_⟩) he hpl
  exact run_fn F hr hb hd hx I1 r q
theorem pe_call0 (F : FnOk X.prog X.w X.K X.mg X.base CX k f fd ps sp) (hr : Room k X.A) (hg : Gl X x) (hm : X.mg x = some (.ref f)) (hk : PySem.W.keepIn X.K (.ref f) = true) (hb : Binds X.K fd ps ds) (hd : Vals dvs ds) (hx : Passes CX X E)
    (hdb : (x == ("__debug__" : Str)) = false := by decide) : PE X (.Call (.Name x p) [] [] pos) (tCall sp dvs E tNil) := by
  intro pins s σ H Q I h
  refine wpAny_Call_Name_kw (ld_glob I hg hm ?_ hdb)
  exact PySem.W.callWith_K0 I.kIn hk (run_fn (us := []) F hr hb hd hx I .nil h)
end
structure FnScope (N P : List Str) (sc : Scope) : Prop where
  kind : sc.kind = .function
  co : sc.isCoroutine = false
  gen : sc.isGenerator = false
  nd : N.Nodup
  pre : N.take P.length = P
  par : ∀ x ∈ P, sc.names.lookup x = some .local ∨ sc.names.lookup x = some .cell
  nofree : ∀ y ∈ sc.names, y.2 ≠ .free
theorem bindL_out {kindOf : Str → Option NameKind} {x : Str} : ∀ {binds : List (Str × Value)} {m : Str → Option Value}, (∀ v, (x, v) ∉ binds) → bindL kindOf binds m x = m x
  | [], _, _ => rfl
  | (n, v) :: r, m, h => by
    unfold bindL
    rw [bindL_out fun w hw => h w (List.mem_cons_of_mem _ hw)]
    split
    · have : x ≠ n := by rintro rfl; exact h v List.mem_cons_self
      simp [this]
    · rfl
theorem bindC_out {kindOf : Str → Option NameKind} {x : Str} : ∀ {binds : List (Str × Value)} {m : Str → Option Value}, (∀ v, (x, v) ∉ binds) → bindC kindOf binds m x = m x
  | [], _, _ => rfl
  | (n, v) :: r, m, h => by
    unfold bindC
    rw [bindC_out fun w hw => h w (List.mem_cons_of_mem _ hw)]
    split
    · rfl
    · have : x ≠ n := by rintro rfl; exact h v List.mem_cons_self
      simp [this]
theorem bindL_get {kindOf : Str → Option NameKind} {x : Str} {v : Value} : ∀ {P : List Str} {vs : List Value} {i : Nat} {m : Str → Option Value}, P.Nodup → P[i]? = some x → vs[i]? = some v → kindOf x = some .local →
    bindL kindOf (P.zip vs) m x = some v
  | [], _, _, _, _, h, _, _ => by simp at h
  | _ :: _, [], _, _, _, _, h, _ => by simp at h
  | p :: P, w :: vs, 0, m, nd, h1, h2, hk => by
    simp at h1 h2; subst h1; subst h2
    show bindL kindOf ((p, w) :: P.zip vs) m p = _
    unfold bindL
    rw [bindL_out fun v hv => (List.nodup_cons.mp nd).1 (List.of_mem_zip hv).1, if_pos hk]
    simp
  | p :: P, w :: vs, i + 1, m, nd, h1, h2, hk => by
    show bindL kindOf ((p, w) :: P.zip vs) m x = _
    unfold bindL
    exact bindL_get (i := i) (List.nodup_cons.mp nd).2 (by simpa using h1) (by simpa using h2) hk
theorem bindC_get {kindOf : Str → Option NameKind} {x : Str} {v : Value} : ∀ {P : List Str} {vs : List Value} {i : Nat} {m : Str → Option Value}, P.Nodup → P[i]? = some x → vs[i]? = some v → kindOf x ≠ some .local →
    bindC kindOf (P.zip vs) m x = some v
  | [], _, _, _, _, h, _, _ => by simp at h
  | _ :: _, [], _, _, _, _, h, _ => by simp at h
  | p :: P, w :: vs, 0, m, nd, h1, h2, hk => by
    simp at h1 h2; subst h1; subst h2
    show bindC kindOf ((p, w) :: P.zip vs) m p = _
    unfold bindC
    rw [bindC_out fun v hv => (List.nodup_cons.mp nd).1 (List.of_mem_zip hv).1, if_neg hk]
    simp
  | p :: P, w :: vs, i + 1, m, nd, h1, h2, hk => by
    show bindC kindOf ((p, w) :: P.zip vs) m x = _
    unfold bindC
    exact bindC_get (i := i) (List.nodup_cons.mp nd).2 (by simpa using h1) (by simpa using h2) hk
noncomputable def start (N : List Str) (vs : List V) : St := vs.map some ++ List.replicate (N.length - vs.length) none
noncomputable def cxOf (CX : CXT) (P : Program) (w : World) (K : PySem.W.Frag) (mg : Str → Option Value) (base : Heap) (N : List Str) (qual : Str) (scope : Scope) (f : Addr) (cd : Value) (A : Around) (outer : List Env) (s : Shared) (H : Hp) (E : XK) : Cx where
  prog := P
  w := w
  K := K
  mg := mg
  base := base
  A := A.deeper (envOfC qual scope s.heap.objs.size f cd)
  N := N
  s₀ := s
  H₀ := H
  env := envOfC qual scope s.heap.objs.size f cd
  outer := outer
  stack := envOfC qual scope s.heap.objs.size f cd :: outer
  ex := []
  calm := true
  fn := fun _ => true
  pn := []
  xe := fun e s' => wpAny (model P w) (A.deeper (envOfC qual scope s.heap.objs.size f cd)) (leaving (envOfC qual scope s.heap.objs.size f cd) e) (fun _ s'' => CX outer H s E e s'') (fun e' s'' => CX outer H s E e' s'') s'
theorem cell_has {sc : Scope} {n : Nat} {x : Str} (h : sc.names.lookup x = some .cell) : ∃ c, (cellsFrom n sc.names []).lookup x = some c := by
  have q := PySem.W.cellsFrom_some sc.names n [] (.inl h)
  exact Option.isSome_iff_exists.mp q
theorem inv_start {CX : CXT} {P : Program} {w : World} {K : PySem.W.Frag} {mg : Str → Option Value} {base : Heap} {N ps : List Str} {qual : Str} {scope : Scope} {f : Addr} {cd : Value} {A : Around} {outer : List Env} {s s1 : Shared} {H : Hp} {E : XK} {us : List Value} {vs : List V}
    (S : FnScope N ps scope) (hd : A.handled = none) (e0 : Env0 P w K mg base A outer s H) (hl : vs.length = ps.length) (r : Vals vs us)
    (x : InCallC s s.heap.objs.size (bindL (envOfC qual scope s.heap.objs.size f cd).kindOf (ps.zip us) fun _ => none) (cellsFrom (s.heap.objs.size + 1) scope.names []) (bindC (envOfC qual scope s.heap.objs.size f cd).kindOf (ps.zip us) fun _ => none) s1) :
    Inv (cxOf CX P w K mg base N qual scope f cd A outer s H E) [] (start N vs) H s1 := by
  have hpl : ps.length ≤ N.length := by have := congrArg List.length S.pre; rw [List.length_take] at this; omega
  obtain ⟨h1, tk, rfl, hk⟩ := x.done
  have noA : ∀ b : Addr, b ∉ (cxOf CX P w K mg base N qual scope f cd A outer s H E).ex := fun b z => absurd (show b ∈ ([] : List Addr) from z) (by simp)
  refine ⟨⟨e0.mod, S.kind, rfl, rfl, Nat.le_refl _, fun y z c h1 h2 => ?_, fun y hy => ?_, fun y c _ h => ?_, fun _ => hd, Around.frames_deeper e0.frames, .inr ⟨rfl, rfl⟩, fun b z => absurd z (noA b), e0.bs, e0.bsz, fun b _ _ => noA b, fun b z => absurd z (noA b), e0.funs, e0.frf⟩,
    rfl, e0.bare, Un.kept hk, ⟨_, x.toInCall.ns, fun i y v h1 h2 h3 => ?_⟩, fun y c h => ⟨_, x.cell y c h⟩, e0.hok.fresh (Nat.le_refl _), fun y c h => ?_, fun p hp => absurd (show p ∈ ([] : List (Addr × Obj)) from hp) (by simp), e0.hok.kept hk, ?_⟩
  · exact name_of_addr x.apart (PySem.mem_of_lookup h1) (PySem.mem_of_lookup h2)
  · have hy : scope.names.lookup y = some .cell ∨ scope.names.lookup y = some .free := hy
    rcases hy with hy | hy
    · exact cell_has hy
    · exact absurd rfl (S.nofree _ (PySem.mem_of_lookup hy))
  · exact Nat.le_of_lt (x.above y c (PySem.mem_of_lookup h))
  · have hi : i < vs.length := by
      unfold start at h2
      by_cases hi : i < vs.length
      · exact hi
      · rw [List.getElem?_append_right (by simpa using hi)] at h2
        rw [List.getElem?_replicate] at h2
        split at h2 <;> cases h2
    have ha : vs[i]? = some v := by
      unfold start at h2
      rw [List.getElem?_append_left (by simpa using hi), List.getElem?_map] at h2
      cases e : vs[i]? with
      | none => rw [e] at h2; cases h2
      | some a => rw [e] at h2; cases h2; rfl
    obtain ⟨u, hu, rv⟩ := r.get ha
    have hp : ps[i]? = some y := by
      rw [← S.pre, List.getElem?_take_of_lt (by omega)]; exact h1
    have ndP : ps.Nodup := by rw [← S.pre]; exact S.nd.sublist (List.take_sublist _ _)
    refine ⟨u, rv, ?_⟩
    rcases S.par y (List.mem_of_getElem? hp) with k | k
    · exact .inl ⟨k, bindL_get ndP hp hu k⟩
    · obtain ⟨c, e⟩ := cell_has (n := s.heap.objs.size + 1) k
      refine .inr ⟨.inl k, c, e, ?_⟩
      have q := x.cell y c e
      rw [bindC_get ndP hp hu (by show scope.names.lookup y ≠ _; rw [k]; decide)] at q
      exact q
  · exact e0.hok.fresh (Nat.le_of_lt (x.above y c (PySem.mem_of_lookup h)))
  · unfold start
    show _ = N.length
    rw [List.length_append, List.length_map, List.length_replicate]
    omega
theorem fn_of {CX : CXT} {P : Program} {w : World} {K : PySem.W.Frag} {mg : Str → Option Value} {base : Heap} {k : Nat} {f : Addr} {name qual : Str} {params : Arguments} {body : List Stmt} {scope : Scope} {dV kV doc pm cdv ct oc : Value} {an od : Option Addr}
    {osl : Array (Option Value)} {N ps : List Str} {sp : Sp} (lk : K.lookup f = some ⟨oc, od, .func (PySem.W.fnOf name qual params body scope dV kV doc pm an cdv ct), osl⟩) (hcd : PySem.W.codeIn K cdv qual = true) (S : FnScope N ps scope)
    (len : ∀ vs H Q E, sp vs H Q E → vs.length = ps.length)
    (hbody : ∀ (A : Around) (outer : List Env) (s : Shared) (H : Hp) (vs : List V) (Q : VK) (E : XK), Room k (A.deeper (envOfC qual scope s.heap.objs.size f cdv)) → sp vs H Q E →
      ∃ t, PSs (cxOf CX P w K mg base N qual scope f cdv A outer s H E) body t ∧ t { nx := fun _ H' => Q .non H', rt := Q } (start N vs) H) :
    FnOk P w K mg base CX (k + 1) f (PySem.W.fnOf name qual params body scope dV kV doc pm an cdv ct) ps sp := by
  refine ⟨len, fun A outer s H args us vs Q E hr e0 hb r hsp => ?_⟩
  have hl := len _ _ _ _ hsp
  have KX : K.In s.heap := e0.mod.kin.keeps fun b o e => (e0.bs b o e).1
  have lim : s.heap.NoLimit := e0.mod.nolimit.keeps fun b o e => (e0.bs b o e).1
  have hkind : ∀ y ∈ ps.zip us, scope.names.lookup y.1 = some .local ∨ (scope.names.lookup y.1 = some .cell ∧ ((cellsFrom (s.heap.objs.size + 1) scope.names []).lookup y.1).isSome = true) := fun ⟨n, v⟩ hy => by
    rcases S.par n (List.of_mem_zip hy).1 with q | q
    · exact .inl q
    · exact .inr ⟨q, PySem.W.cellsFrom_some _ _ _ (.inl q)⟩
  refine codeAny_call_function hr.depth (KX _ _ lk) rfl S.co S.gen rfl (PySem.W.codeRec_of KX hcd) (hb _ _ _ _ ?_)
  refine wpAny_newFunctionEnv_cells S.kind hkind fun env he s1 x => ?_
  subst he
  refine ⟨lim.keeps x.toInCall.keep, codeAny_func ?_⟩
  obtain ⟨t, ht, hq⟩ := hbody A outer s H vs Q E (hr.deeper _) hsp
  have I : Inv (cxOf CX P w K mg base N qual scope f cdv A outer s H E) [] (start N vs) H s1 := inv_start S hr.hd e0 hl r x
  refine wpAny_mono (ht [] s1 (start N vs) H _ I hq) (fun fl s' hs => ?_) fun e s' hs => hs
  have fin : ∀ {σ' : St} {H' : Hp} {v : V} {u : Value}, Inv (cxOf CX P w K mg base N qual scope f cdv A outer s H E) [] σ' H' s' → RelV v u → Q v H' → CE outer P w H s Q u s' :=
    fun {σ' H' v u} J rv q => ⟨v, H', J.os, J.bare, J.base, J.hok, rv, q⟩
  cases fl with
  | ret u =>
    obtain ⟨v, σ', H', J, rv, q⟩ := hs
    exact fin J rv q
  | next =>
    obtain ⟨σ', H', J, q⟩ := hs
    exact fin (v := V.non) (u := Value.none) J rfl q
  | brk =>
    obtain ⟨_, _, _, q⟩ := hs
    exact False.elim q
  | cont =>
    obtain ⟨_, _, _, q⟩ := hs
    exact False.elim q
end L2
namespace L2
open PySem PySem.Spec PyProof.Rows
section
variable {X : Cx} {x : Str} {p pos : Pos} {e : Expr} {es : List Expr} {t : TA} {id T : String} {r : List V → Hp → VK → Prop}
noncomputable def tCB (r : List V → Hp → VK → Prop) (t : TA) : TE := fun σ H Q => t σ H fun vs H1 => r vs H1 Q
theorem pe_callB (hc : CallR X (.builtin id) r) (hg : Gl X x) (hm : X.mg x = none) (hv : bootBuiltins x = some (.builtin id)) (ha : PA X (e :: es) t) (hn : x ≠ "__name__" := by decide) (hdb : (x == ("__debug__" : Str)) = false := by decide)
    (he : starEach (e :: es) X.env = (false, eval e X.env) :: starEach es X.env := by rfl) (hpl : (backTo pos (starEach es X.env)).any (·.1) = false := by rfl) : PE X (.Call (.Name x p) (e :: es) [] pos) (tCB r t) := by
  intro pins s σ H Q I h
  refine wpAny_Call_Name_kw (ld_blt I hg hm hv ?_ hn hdb)
  exact PyProof.Rows.callWith_builtin1 (thn (ha pos pins s σ H _ I h) fun us s1 ⟨vs, H1, I1, r1, q1⟩ => hc pins s1 σ H1 vs us Q I1 r1 q1) he hpl
theorem pe_callTy (hc : CallR X (.type T) r) (hg : Gl X x) (hm : X.mg x = none) (hv : bootBuiltins x = some (.type T)) (ha : PA X (e :: es) t) (hn : x ≠ "__name__" := by decide) (hdb : (x == ("__debug__" : Str)) = false := by decide)
    (he : starEach (e :: es) X.env = (false, eval e X.env) :: starEach es X.env := by rfl) (hpl : (backTo pos (starEach es X.env)).any (·.1) = false := by rfl) : PE X (.Call (.Name x p) (e :: es) [] pos) (tCB r t) := by
  intro pins s σ H Q I h
  refine wpAny_Call_Name_kw (ld_blt I hg hm hv ?_ hn hdb)
  exact PyProof.Rows.callWith_type1 (thn (ha pos pins s σ H _ I h) fun us s1 ⟨vs, H1, I1, r1, q1⟩ => hc pins s1 σ H1 vs us Q I1 r1 q1) he hpl
end
end L2
namespace HT
open PySem PyProof.Rows
section
open PySem.SeqAt
open PySem.AutoSeq1 (wpAny_loadPart')
open PySem.MeetsSeq PySem.MeetsSeq2 PySem.MeetsSeq3
end
section
variable {prog : Program} {w : World} {A : Around} {E : Value → Shared → Prop} {s : Shared}
theorem cat_tup {t b : Addr} {vs ws : List Value} {Q : Value → Shared → Prop} (ht : IsTup s.heap t vs.toArray) (hb : IsTup s.heap b ws.toArray) (hv : vs ≠ [])
    (h1 : ws = [] → Q (.ref t) s) (h2 : ws ≠ [] → Q (.ref s.heap.objs.size) { s with heap := s.heap.push { cls := .type "tuple", data := .seq (vs ++ ws).toArray } })
    (hsz : vs.length + ws.length ≤ sizeLine) : wpAny (model prog w) A (binaryOp .Add (.ref t) (.ref b)) Q E s := by
  obtain ⟨⟨cls, dd, data, sl⟩, ho, hc, n, hd⟩ := id ht
  obtain ⟨⟨cls2, dd2, data2, sl2⟩, ho2, hc2, n2, hd2⟩ := id hb
  simp only at hc hd hc2 hd2
  subst hc hd hc2 hd2
  have e : vs.toArray ++ ws.toArray = (vs ++ ws).toArray := by simp
  by_cases hw : ws = []
  · exact concat_meets ⟨_, ho, rfl⟩ ⟨_, ho2, rfl⟩ noFill_tuple_add seq_tuple_add PySem.F.slot_tuple_add PySem.F.entry_tuple_add (PySem.F.args_tuple_add_2 _ _)
      (tuple_addW1 t b vs.toArray ws.toArray n n2 dd dd2 sl sl2 (by simpa using hv) (by simp [hw])) ⟨ho, ho2, h1 hw⟩
  · refine concat_meets ⟨_, ho, rfl⟩ ⟨_, ho2, rfl⟩ noFill_tuple_add seq_tuple_add PySem.F.slot_tuple_add PySem.F.entry_tuple_add (PySem.F.args_tuple_add_2 _ _)
      (tuple_addW2 t b vs.toArray ws.toArray n n2 dd dd2 sl sl2 (by simpa using hv) (by simpa using hw) (by rw [List.size_toArray, List.size_toArray]; exact hsz)) ⟨ho, ho2, ?_⟩
    rw [e]
    exact h2 hw
noncomputable def sIx (n d : Nat) : Option Int → Nat
  | none => d
  | some v => if v < 0 then (v + (n : Int)).toNat else min v.toNat n
theorem sIx_le (n d : Nat) (hd : d ≤ n) (o : Option Int) : sIx n d o ≤ n := by
  cases o with
  | none => exact hd
  | some v =>
    show (if v < 0 then (v + (n : Int)).toNat else min v.toNat n) ≤ n
    by_cases hv : v < 0
    · rw [if_pos hv]; omega
    · rw [if_neg hv]; exact Nat.min_le_right _ _
theorem clip_eq (v : Int) (n d : Nat) : (if v < 0 then max (v + (n : Int)) 0 else min v (n : Int)) = ((sIx n d (some v) : Nat) : Int) := by
  show (if v < 0 then max (v + (n : Int)) 0 else min v (n : Int)) = (((if v < 0 then (v + (n : Int)).toNat else min v.toNat n) : Nat) : Int)
  by_cases hv : v < 0
  · simp only [if_pos hv]; omega
  · simp only [if_neg hv]; omega
theorem adjust_gen (lo hi : Option Int) (n : Nat) : Builtin.Slice.sliceAdjust lo hi 1 (n : Int) = (((sIx n 0 lo : Nat) : Int), ((sIx n n hi : Nat) : Int)) := by
  have h1 : ¬ ((1 : Int) < 0) := by omega
  unfold Builtin.Slice.sliceAdjust
  simp only [h1, if_false]
  refine Prod.ext ?_ ?_
  · cases lo with
    | none => rfl
    | some v => exact clip_eq v n 0
  · cases hi with
    | none => rfl
    | some v => exact clip_eq v n n
theorem places_gen (i j : Nat) : Builtin.Slice.slicePlaces (i : Int) (j : Int) 1 = j - i := by
  unfold Builtin.Slice.slicePlaces
  have h1 : (1 : Int) > 0 := by omega
  simp only [h1, if_true, Int.ediv_one]
  split <;> omega
theorem slicePart_ {v : Value} {o : Option Int} {Q : Option Int → Shared → Prop} (p : IsPart v o) (h : Q o s) : wpAny (model prog w) A (Builtin.Slice.slicePartIndex v) Q E s := by
  cases p with
  | none => exact slicePart_none h
  | int i t => exact slicePart_int h
theorem sliceApplied_gen {sl : Addr} {vl vu : Value} {lo hi : Option Int} {n : Nat} {Q : Int × Int × Nat → Shared → Prop} (hs : s.heap.IsSliceOf sl vl vu .none) (pl : IsPart vl lo) (pu : IsPart vu hi)
    (h : Q (((sIx n 0 lo : Nat) : Int), 1, sIx n n hi - sIx n 0 lo) s) : wpAny (model prog w) A (Builtin.Slice.sliceApplied (.ref sl) (pure (n : Int))) Q E s := by
  obtain ⟨os, hos, hcs, hds⟩ := id hs
  unfold Builtin.Slice.sliceApplied Builtin.Slice.sliceFields
  refine wpAny_bind (wpAny_bind (wpAny_field hos hds (x := vl) rfl (wpAny_bind (wpAny_field hos hds (x := vu) rfl (wpAny_bind (wpAny_field hos hds (x := .none) rfl (wpAny_pure ?_)))))))
  refine wpAny_bind (slicePart_none ?_)
  show wpAny _ _ (if ((1 : Int) == 0) = true then _ else _) _ _ s
  rw [if_neg (by decide)]
  refine wpAny_bind (slicePart_ pl (wpAny_bind (slicePart_ pu (wpAny_bind (wpAny_pure ?_)))))
  show wpAny _ _ (match Builtin.Slice.sliceAdjust lo hi 1 (n : Int) with | (lo, hi) => pure (lo, (1 : Int), Builtin.Slice.slicePlaces lo hi 1)) _ _ s
  rw [adjust_gen lo hi n]
  show wpAny _ _ (pure (((sIx n 0 lo : Nat) : Int), (1 : Int), Builtin.Slice.slicePlaces ((sIx n 0 lo : Nat) : Int) ((sIx n n hi : Nat) : Int) 1)) _ _ s
  rw [places_gen]
  exact wpAny_pure h
theorem pick_gen (xs : Array Value) (i k : Nat) : ((List.range k).filterMap fun (m : Nat) => xs[((i : Int) + (m : Int) * 1).toNat]?).toArray = ((xs.toList.drop i).take k).toArray := by
  have e : (fun (m : Nat) => xs[((i : Int) + (m : Int) * 1).toNat]?) = fun m => xs[i + m]? := by
    funext m
    have : ((i : Int) + (m : Int) * 1).toNat = i + m := by omega
    rw [this]
  rw [e]
  have := pick_run xs i k
  rw [List.filterMap_map] at this
  have e2 : ((fun x => xs[x]?) ∘ fun x => i + x) = fun m => xs[i + m]? := rfl
  rw [e2] at this
  rw [this]
theorem getItem_tuple_cut {t sl : Addr} {items : Array Value} {vl vu : Value} {lo hi : Option Int} {Q : Value → Shared → Prop} (ht : IsTup s.heap t items) (hs : s.heap.IsSliceOf sl vl vu .none) (pl : IsPart vl lo) (pu : IsPart vu hi)
    (hw : ¬ (sIx items.size 0 lo = 0 ∧ sIx items.size items.size hi = items.size))
    (h : Q (.ref s.heap.objs.size) { s with heap := s.heap.push { cls := .type "tuple", data := .seq ((items.toList.drop (sIx items.size 0 lo)).take (sIx items.size items.size hi - sIx items.size 0 lo)).toArray } })
    (hsz : items.size ≤ sizeLine) : wpAny (model prog w) A (getItem (.ref t) (.ref sl)) Q E s := by
  have htake : sizeOk (.seq ((items.toList.drop (sIx items.size 0 lo)).take (sIx items.size items.size hi - sIx items.size 0 lo)).toArray) := by
    show ((items.toList.drop (sIx items.size 0 lo)).take (sIx items.size items.size hi - sIx items.size 0 lo)).toArray.size ≤ sizeLine
    rw [List.size_toArray, List.length_take, List.length_drop, Array.length_toList]
    omega
  have hj : sIx items.size items.size hi ≤ items.size := sIx_le _ _ (Nat.le_refl _) hi
  obtain ⟨os, hos, hcs, hds⟩ := id hs
  have hTs : s.TypeIs (.ref sl) "slice" := ⟨os, hos, hcs⟩
  unfold getItem
  try with_reducible refine wpAny_holding ?_
  first | refine wpAny_bind (wpAny_pure ?_) | skip
  refine wpAny_bind (wpAny_sequenceKey ht.typeIs (by decide) ?_)
  refine wpAny_bind (wpAny_callSpecial?_slot (name := Str.ofString "__getitem__") ht.typeIs PyProof.Rows.slot_tuple_getitem
    (wpAny_call_entry PyProof.Rows.slot_tuple_getitem ht.typeIs entry_tuple_getitem ?_ (args_tuple_getitem _ _)))
  show wpAny _ _ (Builtin.Tuple.tupleItemsOf (.ref t) >>= _) _ _ s
  refine wpAny_bind (tupleItemsOf_ ht ?_)
  refine wpAny_bind (wpAny_typeOf hTs ?_)
  rw [if_pos (by decide)]
  refine wpAny_bind (sliceApplied_gen hs pl pu ?_)
  have hno : ¬ ((((sIx items.size 0 lo : Nat) : Int) == 0 && (1 : Int) == 1 && (sIx items.size items.size hi - sIx items.size 0 lo) == items.size) = true) := by
    intro q
    rw [Bool.and_eq_true, Bool.and_eq_true] at q
    have q1 : ((sIx items.size 0 lo : Nat) : Int) = 0 := eq_of_beq q.1.1
    have q2 : sIx items.size items.size hi - sIx items.size 0 lo = items.size := eq_of_beq q.2
    exact hw ⟨by omega, by omega⟩
  show wpAny _ _ (if (((sIx items.size 0 lo : Nat) : Int) == 0 && (1 : Int) == 1 && (sIx items.size items.size hi - sIx items.size 0 lo) == items.size) = true then _ else _) _ _ s
  rw [if_neg hno, pick_gen]
  first
    | exact wpAny_bind (m := Builtin.Tuple.tupleExact _) (wpAny_newObj_type (wpAny_pure ⟨_, rfl, wpAny_pure h⟩) htake)
    | exact wpAny_bind (m := Builtin.Tuple.tupleExact _) (wpAny_newObj_type (wpAny_bind (wpAny_pure (wpAny_pure ⟨_, rfl, wpAny_pure h⟩))) htake)
    | exact wpAny_bind (wpAny_bind (m := Builtin.Tuple.tupleExact _) (wpAny_newObj_type (wpAny_pure (wpAny_pure ⟨_, rfl, wpAny_pure h⟩)) htake))
    | exact wpAny_bind (wpAny_bind (m := Builtin.Tuple.tupleExact _) (wpAny_newObj_type (wpAny_pure ⟨_, rfl, wpAny_pure h⟩) htake))
end
end HT
namespace L2
open PySem PySem.Spec PyProof.Rows
noncomputable abbrev TO := St → Hp → (Option Int → Hp → Prop) → Prop
noncomputable def PO (X : Cx) (e : Option Expr) (t : TO) : Prop :=
  ∀ (pins : List (Addr × Obj)) (s : Shared) (σ : St) (H : Hp) (Q : Option Int → Hp → Prop), Inv X pins σ H s → t σ H Q →
    wpAny (model X.prog X.w) X.A (evalPart e X.env) (fun u s' => ∃ o H', Inv X pins σ H' s' ∧ IsPart u o ∧ Q o H') X.xe s
noncomputable def tNoPart : TO := fun _ H Q => Q none H
noncomputable def tPart (t : TE) : TO := fun σ H Q => t σ H fun x H1 => ∃ i, x = .int i ∧ Q (some i) H1
section
variable {X : Cx} {e : Expr} {te : TE} {lo hi : Option Expr} {tl th : TO} {pos p2 : Pos}
theorem po_none : PO X none tNoPart := by
  intro pins s σ H Q I h
  rw [evalPart_none]
  exact wpAny_pure ⟨none, H, I, .none, h⟩
theorem po_some (h : PE X e te) : PO X (some e) (tPart te) := by
  intro pins s σ H Q I hw
  rw [evalPart_some]
  refine thn (h pins s σ H _ I hw) fun u s1 hh0 => ?_
  obtain ⟨x, H1, I1, r1, q1⟩ := hh0
  obtain ⟨i, rfl, q⟩ := q1
  obtain ⟨t, rfl⟩ := r1
  exact ⟨some i, H1, I1, .int i t, q⟩
noncomputable def SlR (X : Cx) (r : V → Option Int → Option Int → Hp → VK → Prop) : Prop :=
  ∀ (pins : List (Addr × Obj)) (s : Shared) (σ : St) (H : Hp) (x : V) (v vl vu : Value) (lo hi : Option Int) (sl : Addr) (Q : VK), Inv X pins σ H s → RelV x v → s.heap.IsSliceOf sl vl vu .none → IsPart vl lo → IsPart vu hi → r x lo hi H Q →
    ∃ T id, typeLookup (.type T) "__getitem__" = pure (some (.builtin id)) ∧ s.TypeIs v T ∧ wpAny (model X.prog X.w) X.A (getItem v (.ref sl)) (EP X pins σ Q) X.xe s
theorem SlR.or {r r' : V → Option Int → Option Int → Hp → VK → Prop} (h : SlR X r) (h' : SlR X r') : SlR X (fun x lo hi H Q => r x lo hi H Q ∨ r' x lo hi H Q) := by
  intro pins s σ H x v vl vu lo hi sl Q I rx hs pl pu q
  rcases q with q | q
  · exact h pins s σ H x v vl vu lo hi sl Q I rx hs pl pu q
  · exact h' pins s σ H x v vl vu lo hi sl Q I rx hs pl pu q
noncomputable def tSl (r : V → Option Int → Option Int → Hp → VK → Prop) (te : TE) (tl th : TO) : TE := fun σ H Q => te σ H fun x H1 => tl σ H1 fun l H2 => th σ H2 fun u H3 => r x l u H3 Q
theorem pe_slice {r : V → Option Int → Option Int → Hp → VK → Prop} (hr : SlR X r) (he : PE X e te) (hl : PO X lo tl) (hu : PO X hi th) : PE X (.Subscript e (.Slice lo hi none p2) pos) (tSl r te tl th) := by
  intro pins s σ H Q I h
  refine Subscript_ (thn (he pins s σ H _ I h) fun v s1 hh0 => ?_)
  obtain ⟨x, H1, I1, r1, q1⟩ := hh0
  refine wpAny_Slice (thn (hl pins s1 σ H1 _ I1 q1) fun vl s2 ⟨l, H2, I2, pl, q2⟩ => thn (hu pins s2 σ H2 _ I2 q2) fun vu s3 hh0 => ?_)
  obtain ⟨u, H3, I3, pu, q3⟩ := hh0
  rw [evalPart_none]
  refine wpAny_pure ?_
  have I4 : Inv X pins σ H3 { s3 with heap := s3.heap.push { cls := .type "slice", data := .fields #[vl, vu, .none] } } := I3.kept (t' := s3.toks) fun b ob q => Heap.get?_push_of_some _ q
  obtain ⟨T, id, hT, ht, hg⟩ := hr pins { s3 with heap := s3.heap.push { cls := .type "slice", data := .fields #[vl, vu, .none] } } σ H3 x v vl vu l u s3.heap.objs.size Q I4 r1 (Heap.IsSliceOf.new ..) pl pu q3
  show wpAny (model X.prog X.w) X.A (subscriptTail e (.Slice lo hi none p2) v (.ref s3.heap.objs.size)) (EP X pins σ Q) X.xe { s3 with heap := s3.heap.push { cls := .type "slice", data := .fields #[vl, vu, .none] } }
  exact tail_any (ops := [.ref s3.heap.objs.size, v]) ht hT hg (by with_unfolding_all rfl)
noncomputable def cutV (xs : List V) (lo hi : Option Int) : List V := (xs.drop (HT.sIx xs.length 0 lo)).take (HT.sIx xs.length xs.length hi - HT.sIx xs.length 0 lo)
theorem cutV_length (xs : List V) (lo hi : Option Int) : (cutV xs lo hi).length ≤ xs.length := by
  unfold cutV
  rw [List.length_take, List.length_drop]
  omega
noncomputable def rSlT (K : PySem.W.Frag) : V → Option Int → Option Int → Hp → VK → Prop := fun x lo hi H Q => ∃ a xs, x = .ref a ∧ SqT K H a xs ∧
  ¬ (HT.sIx xs.length 0 lo = 0 ∧ HT.sIx xs.length xs.length hi = xs.length) ∧ ∀ p, H p = none → Q (.ref p) (upd H p (.tup (cutV xs lo hi)))
theorem sl_tup : SlR X (rSlT X.K) := by
  intro pins s σ H x v vl vu lo hi sl Q I rx hs pl pu h
  obtain ⟨a, xs, rfl, hx, hw, q⟩ := h
  cases rx
  obtain ⟨its, r, ht, hz⟩ := I.tuple hx
  have hlen : its.toArray.size = xs.length := by rw [List.size_toArray]; exact r.length.symm
  refine ⟨"tuple", _, PyProof.Rows.slot_tuple_getitem.lookup, ht.typeIs, ?_⟩
  refine HT.getItem_tuple_cut ht hs pl pu (by rw [hlen]; exact hw) ?_ (by rw [hlen]; exact hz)
  rw [hlen]
  refine ⟨.ref s.heap.objs.size, _, I.laid (t' := s.toks) (o := .tup (cutV xs lo hi)) (fun b ob q => Heap.get?_push_of_some _ q) (Nat.le_refl _) ?_, rfl, q _ (I.hok.fresh (Nat.le_refl _))⟩
  exact ⟨Nat.le_trans (cutV_length xs lo hi) hz, _, (r.drop (HT.sIx xs.length 0 lo)).take (HT.sIx xs.length xs.length hi - HT.sIx xs.length 0 lo), IsTupD.new _ _⟩
noncomputable def rCatT (K : PySem.W.Frag) : R2 := fun x y H Q => ∃ a b xs ys, x = .ref a ∧ y = .ref b ∧ SqT K H a xs ∧ SqT K H b ys ∧ xs ≠ [] ∧ xs.length + ys.length ≤ sizeLine ∧
  (ys = [] → Q (.ref a) H) ∧ (ys ≠ [] → ∀ p, H p = none → Q (.ref p) (upd H p (.tup (xs ++ ys))))
theorem Vals.nil_iff {xs : List V} {us : List Value} (r : Vals xs us) : us = [] ↔ xs = [] := by
  cases r with
  | nil => simp
  | cons _ _ => simp
theorem op_catT : OpR X (binaryOp .Add) (rCatT X.K) := by
  intro pins s σ H x y v u Q I rx ry h
  obtain ⟨a, b, xs, ys, rfl, rfl, ha, hb, hx, hz, q1, q2⟩ := h
  cases rx
  cases ry
  obtain ⟨its, r1, p1, _⟩ := I.tuple ha
  obtain ⟨its2, r2, p2, _⟩ := I.tuple hb
  refine HT.cat_tup p1 p2 (fun z => hx (r1.nil_iff.mp z)) (fun z => ⟨.ref a, H, I, rfl, q1 (r2.nil_iff.mp z)⟩) (fun z => ?_) (by rw [← r1.length, ← r2.length]; exact hz)
  refine ⟨.ref s.heap.objs.size, _, I.laid (t' := s.toks) (o := .tup (xs ++ ys)) (fun b ob q => Heap.get?_push_of_some _ q) (Nat.le_refl _) ?_, rfl, q2 (fun w => z (r2.nil_iff.mpr w)) _ (I.hok.fresh (Nat.le_refl _))⟩
  exact ⟨by rw [List.length_append]; exact hz, _, r1.append r2, IsTupD.new _ _⟩
end
end L2
namespace L2
open PySem PySem.Spec PyProof.Rows
noncomputable def ixN (n : Nat) (i : Int) : Option Nat := if 0 ≤ i then (if i < n then some i.toNat else none) else if -(n : Int) ≤ i then some (i + n).toNat else none
noncomputable def atI {α : Type} (xs : List α) (i : Int) : Option α := (ixN xs.length i).bind fun j => xs[j]?
theorem ixN_seq {n : Nat} {i : Int} {j : Nat} (h : ixN n i = some j) : seqIndex? i n = some j ∧ j < n ∧ -(n : Int) ≤ i ∧ i < n := by
  unfold ixN at h
  by_cases h0 : 0 ≤ i
  · rw [if_pos h0] at h
    by_cases h1 : i < n
    · rw [if_pos h1] at h
      have e : i.toNat = j := Option.some.inj h
      exact ⟨by rw [seqIndex_of h0 h1, e], by omega, by omega, h1⟩
    · rw [if_neg h1] at h; cases h
  · rw [if_neg h0] at h
    by_cases h1 : -(n : Int) ≤ i
    · rw [if_pos h1] at h
      have e : (i + n).toNat = j := Option.some.inj h
      exact ⟨by rw [seqIndex_neg (by omega) h1, e], by omega, h1, by omega⟩
    · rw [if_neg h1] at h; cases h
theorem atI_get {α : Type} {xs : List α} {i : Int} {v : α} (h : atI xs i = some v) : ∃ j, seqIndex? i xs.length = some j ∧ xs[j]? = some v ∧ j < xs.length ∧ -(xs.length : Int) ≤ i ∧ i < xs.length := by
  unfold atI at h
  cases e : ixN xs.length i with
  | none => rw [e] at h; cases h
  | some j =>
    rw [e] at h
    obtain ⟨h1, h2, h3, h4⟩ := ixN_seq e
    exact ⟨j, h1, h, h2, h3, h4⟩
noncomputable def PlainIx (b : Expr) : Prop := ∀ o i, subscripted b false o i = operate [o, i] (getItem o i)
noncomputable def IxR (X : Cx) (r : R2) : Prop :=
  ∀ (value slice : Expr) (pins : List (Addr × Obj)) (s : Shared) (σ : St) (H : Hp) (x y : V) (v u : Value) (Q : VK), Inv X pins σ H s → RelV x v → RelV y u → r x y H Q →
    subscripted slice false v u = operate [v, u] (getItem v u) → wpAny (model X.prog X.w) X.A (subscriptTail value slice v u) (EP X pins σ Q) X.xe s
noncomputable def MtR (X : Cx) (id : String) (r : V → List V → Hp → VK → Prop) : Prop :=
  ∀ (pins : List (Addr × Obj)) (s : Shared) (σ : St) (H : Hp) (x : V) (xs : List V) (v : Value) (us : List Value) (Q : VK), Inv X pins σ H s → RelV x v → Vals xs us → r x xs H Q →
    wpAny (model X.prog X.w) X.A (call (.builtin id) (v :: us)) (EP X pins σ Q) X.xe s
section
variable {X : Cx} {a b : Expr} {ta tb : TE} {pos : Pos}
theorem IxR.or {r r' : R2} (h : IxR X r) (h' : IxR X r') : IxR X (fun x y H Q => r x y H Q ∨ r' x y H Q) := by
  intro value slice pins s σ H x y v u Q I rx ry q hs
  rcases q with q | q
  · exact h value slice pins s σ H x y v u Q I rx ry q hs
  · exact h' value slice pins s σ H x y v u Q I rx ry q hs
theorem pe_ix {r : R2} (hr : IxR X r) (ha : PE X a ta) (hb : PE X b tb) (hs : PlainIx b) : PE X (.Subscript a b pos) (tOp r ta tb) := by
  intro pins s σ H Q I h
  exact Subscript_ (binT ha hb I h fun v u s2 x y H2 I2 rx ry q => hr a b pins s2 σ H2 x y v u Q I2 rx ry q (hs _ _))
noncomputable def rIxL (K : PySem.W.Frag) : R2 := fun x y H Q => ∃ p xs i v, x = .ref p ∧ y = .int i ∧ SqL K H p xs ∧ atI xs i = some v ∧ Q v H
noncomputable def rIxT (K : PySem.W.Frag) : R2 := fun x y H Q => ∃ p xs i v, x = .ref p ∧ y = .int i ∧ SqT K H p xs ∧ atI xs i = some v ∧ Q v H
noncomputable def rIxS : R2 := fun x y H Q => ∃ z i c, x = .str z ∧ y = .int i ∧ z.length ≤ sizeLine ∧ atI z.cps.toList i = some c ∧ Q (.str ⟨#[c]⟩) H
theorem ix_list : IxR X (rIxL X.K) := by
  intro value slice pins s σ H x y v u Q I rx ry h hs
  obtain ⟨p, xs, i, z, rfl, rfl, hq, he, q⟩ := h
  cases rx
  obtain ⟨t, rfl⟩ := ry
  obtain ⟨its, r, pl, hz⟩ := I.list hq
  obtain ⟨j, h1, h2, h3, h4, h5⟩ := atI_get he
  obtain ⟨w, ew, rw'⟩ := r.get h2
  have hl := r.length
  have hn := line63
  have fin : EP X pins σ Q w s := ⟨z, H, I, rw', q⟩
  by_cases h0 : 0 ≤ i
  · have hj : i.toNat = j := by
      rw [seqIndex_of h0 h5] at h1
      exact Option.some.inj h1
    exact item_listR pl.isList h0 (by omega) (by rw [hj]; simpa using ew) fin hs
  · have hj : (i + (its.toArray.size : Int)).toNat = j := by
      rw [seqIndex_neg (by omega) h4] at h1
      rw [List.size_toArray, ← hl]
      exact Option.some.inj h1
    exact subscriptTail_builtinR (x := w) pl.isList.typeIs slot_list_getitem.lookup
      (wpAny_getItem_list_neg (Q := fun r s' => r = w ∧ EP X pins σ Q r s') pl.isList (by omega) (by rw [List.size_toArray] <;> omega) (by omega) (by rw [hj]; simpa using ew) ⟨rfl, fin⟩) hs
theorem ix_tup : IxR X (rIxT X.K) := by
  intro value slice pins s σ H x y v u Q I rx ry h hs
  obtain ⟨p, xs, i, z, rfl, rfl, hq, he, q⟩ := h
  cases rx
  obtain ⟨t, rfl⟩ := ry
  obtain ⟨its, r, pl, hz⟩ := I.tuple hq
  obtain ⟨j, h1, h2, h3, h4, h5⟩ := atI_get he
  obtain ⟨w, ew, rw'⟩ := r.get h2
  have hl := r.length
  have hn := line63
  have fin : EP X pins σ Q w s := ⟨z, H, I, rw', q⟩
  exact subscriptTail_builtinR (x := w) pl.typeIs slot_tuple_getitem.lookup
    (getItem_tuple (j := j) (Q := fun r s' => r = w ∧ EP X pins σ Q r s') pl (by omega) (by omega) (by rw [List.size_toArray, ← hl]; exact h1) (by simpa using ew) ⟨rfl, fin⟩) hs
theorem ix_str : IxR X rIxS := by
  intro value slice pins s σ H x y v u Q I rx ry h hs
  obtain ⟨z, i, c, rfl, rfl, hz, he, q⟩ := h
  obtain ⟨t, rfl⟩ := rx
  obtain ⟨t', rfl⟩ := ry
  obtain ⟨j, h1, h2, h3, h4, h5⟩ := atI_get he
  have hl : z.cps.toList.length = z.length := by simp [Str.length]
  rw [hl] at h1 h4 h5
  have hn := line63
  exact tail_any (typeIs_str s z t) slot_str_getitem.lookup (getItem_str (c := c) (by
    have e1 : decide (i < -(2 ^ 63 : Int)) = false := decide_eq_false (by omega)
    have e2 : decide (i ≥ 2 ^ 63) = false := decide_eq_false (by omega)
    rw [e1, e2, Bool.or_false]) (by rw [h1]; simpa using h2) ⟨.str ⟨#[c]⟩, H, I.tok _, ⟨_, rfl⟩, q⟩) hs
noncomputable def rIx (K : PySem.W.Frag) : R2 := fun x y H Q => rIxL K x y H Q ∨ rIxT K x y H Q ∨ rIxS x y H Q
theorem ix_seq : IxR X (rIx X.K) := ix_list.or (ix_tup.or ix_str)
theorem slice_bounds (lo hi : Option Int) (n : Nat) : (sliceBounds lo hi none n).1 = ((HT.sIx n 0 lo : Nat) : Int) ∧ (sliceBounds lo hi none n).2.1 = ((HT.sIx n n hi : Nat) : Int) ∧ (sliceBounds lo hi none n).2.2 = 1 := by
  refine ⟨?_, ?_, rfl⟩
  · cases lo with
    | none => simp [sliceBounds, HT.sIx]
    | some i =>
      simp only [sliceBounds, HT.sIx, Option.getD_none, show (1 : Int) > 0 by decide, if_true]
      by_cases h : i < 0
      · simp only [h, if_true] <;> omega
      · simp only [h, if_false] <;> omega
  · cases hi with
    | none => simp [sliceBounds, HT.sIx]
    | some i =>
      simp only [sliceBounds, HT.sIx, Option.getD_none, show (1 : Int) > 0 by decide, if_true]
      by_cases h : i < 0
      · simp only [h, if_true] <;> omega
      · simp only [h, if_false] <;> omega
theorem slicePick_cut (its : List Value) (lo hi : Option Int) : slicePick its.toArray lo hi none = ((its.drop (HT.sIx its.length 0 lo)).take (HT.sIx its.length its.length hi - HT.sIx its.length 0 lo)).toArray := by
  obtain ⟨h1, h2, h3⟩ := slice_bounds lo hi its.toArray.size
  unfold slicePick
  rw [h1, h2, h3]
  simp only [sliceRange_one, pick_run, List.size_toArray] <;> rfl
noncomputable def rSlL (K : PySem.W.Frag) : V → Option Int → Option Int → Hp → VK → Prop := fun x lo hi H Q => ∃ a xs, x = .ref a ∧ SqL K H a xs ∧ ∀ p, H p = none → Q (.ref p) (upd H p (.lst (cutV xs lo hi)))
theorem sl_list : SlR X (rSlL X.K) := by
  intro pins s σ H x v vl vu lo hi sl Q I rx hs pl pu h
  obtain ⟨a, xs, rfl, hx, q⟩ := h
  cases rx
  obtain ⟨its, r, ht, hz⟩ := I.list hx
  have hlen := r.length
  refine ⟨"list", _, slot_list_getitem.lookup, ht.isList.typeIs, ?_⟩
  refine wpAny_getItem_list_slice ht.isList hs pl pu .none (by simp) ?_ (by rw [List.size_toArray] <;> omega)
  rw [slicePick_cut, ← hlen]
  refine ⟨.ref s.heap.objs.size, _, I.laid (t' := s.toks) (o := .lst (cutV xs lo hi)) (fun b ob q => Heap.get?_push_of_some _ q) (Nat.le_refl _) ?_, rfl, q _ (I.hok.fresh (Nat.le_refl _))⟩
  exact ⟨Nat.le_trans (cutV_length xs lo hi) hz, _, 0, (r.drop (HT.sIx xs.length 0 lo)).take (HT.sIx xs.length xs.length hi - HT.sIx xs.length 0 lo), Heap.get?_push_size _ rfl⟩
theorem call_len_seq : CallR X (.builtin "len") (fun xs H Q => ∃ p ys, xs = [.ref p] ∧ (SqL X.K H p ys ∨ SqT X.K H p ys) ∧ Q (.int ys.length) H) := by
  intro pins s σ H xs us Q I r h
  obtain ⟨p, ys, rfl, hq, q⟩ := h
  obtain ⟨u, rfl, rx⟩ := vals1 r
  cases rx
  have hn := line63
  rcases hq with hq | hq
  · obtain ⟨its, r', pl, hz⟩ := I.list hq
    have hlen := r'.length
    exact Calls.call_len_list pl.isList (by simp only [List.size_toArray] <;> omega) ⟨.int ys.length, H, I.tok _, ⟨s.toks + 1, by rw [List.size_toArray, hlen]⟩, q⟩
  · obtain ⟨its, r', pl, hz⟩ := I.tuple hq
    have hlen := r'.length
    exact len_tuple pl (by simp only [List.size_toArray] <;> omega) ⟨.int ys.length, H, I.tok _, ⟨s.toks + 1, by rw [List.size_toArray, hlen]⟩, q⟩
theorem call_tuple_of : CallR X (.type "tuple") (fun xs H Q => ∃ p ys, xs = [.ref p] ∧ ((SqL X.K H p ys ∧ ∀ l, H l = none → Q (.ref l) (upd H l (.tup ys))) ∨ (SqT X.K H p ys ∧ Q (.ref p) H))) := by
  intro pins s σ H xs us Q I r h
  obtain ⟨p, ys, rfl, h⟩ := h
  obtain ⟨u, rfl, rx⟩ := vals1 r
  cases rx
  rcases h with ⟨hq, q⟩ | ⟨hq, q⟩
  · obtain ⟨its, r', pl, hz⟩ := I.list hq
    have hlen := r'.length
    refine call_tuple_list pl.isList (fun h' kp => ?_) (by simp only [List.size_toArray] <;> omega)
    have I1 : Inv X pins σ H { s with heap := h' } := I.kept (t' := s.toks) kp
    have I2 : Inv X pins σ (upd H h'.objs.size (.tup ys)) { s with heap := h'.push { cls := .type "tuple", data := .seq its.toArray } } :=
      I1.laid (t' := s.toks) (fun b o e => Heap.get?_push_of_some _ e) (Nat.le_refl _) (show ObjOk X.prog X.w _ _ _ (.tup ys) from ⟨hz, its, r', IsTupD.new _ _⟩)
    exact ⟨.ref h'.objs.size, _, I2, rfl, q _ (I1.hok.fresh (Nat.le_refl _))⟩
  · obtain ⟨its, r', pl, hz⟩ := I.tuple hq
    exact call_tuple_same pl ⟨.ref p, H, I, rfl, q⟩
noncomputable def tyV (K : PySem.W.Frag) (T : String) (x : V) (H : Hp) : Prop := match x with
  | .str _ => T = "str"
  | .int _ => T = "int"
  | .ref p => (T = "list" ∧ ∃ xs, SqL K H p xs) ∨ (T = "tuple" ∧ ((∃ o, K.lookup p = some o ∧ o.cls = .type "tuple" ∧ o.dict = none) ∨ ∃ xs, H p = some (.tup xs))) ∨
      (T = "dict" ∧ ((∃ kvs, H p = some (.dK kvs)) ∨ ∃ kvs, H p = some (.dT kvs))) ∨ (T = "set" ∧ ∃ S n, H p = some (.set S n))
  | _ => False
theorem tyV_is {pins : List (Addr × Obj)} {σ : St} {H : Hp} {s : Shared} {T : String} {x : V} {v : Value} (I : Inv X pins σ H s) (r : RelV x v) (ty : tyV X.K T x H) :
    s.TypeIs v T ∧ ∀ a, v = .ref a → ∃ ob, s.heap.get? a = some ob ∧ ob.dict = none := by
  cases x with
  | str z =>
    obtain ⟨t, rfl⟩ := r
    cases (show T = "str" from ty)
    exact ⟨typeIs_str s z t, fun _ e => nomatch e⟩
  | int i =>
    obtain ⟨t, rfl⟩ := r
    cases (show T = "int" from ty)
    exact ⟨typeIs_int s i t, fun _ e => nomatch e⟩
  | ref p =>
    cases r
    rcases ty with ⟨rfl, xs, hq⟩ | ⟨rfl, ⟨o, hk, hc, hd⟩ | ⟨xs, hk⟩⟩ | ⟨rfl, hk⟩ | ⟨rfl, S, n, hk⟩
    · obtain ⟨its, _, pl, _⟩ := I.list hq
      refine ⟨pl.isList.typeIs, fun a e => ?_⟩
      cases e
      obtain ⟨o, n, e, c, hd, _⟩ := pl
      exact ⟨o, e, hd⟩
    · refine ⟨⟨o, I.kIn p o hk, hc⟩, fun a e => ?_⟩
      cases e
      exact ⟨o, I.kIn _ o hk, hd⟩
    · obtain ⟨_, its, _, o, e, c, _, hd⟩ := (show ObjOk X.prog X.w H s.heap p (.tup xs) from I.hok p _ hk)
      refine ⟨⟨o, e, c⟩, fun a e2 => ?_⟩
      cases e2
      exact ⟨o, e, hd⟩
    · have z : ∃ o, s.heap.get? p = some o ∧ o.ExactDict := by
        rcases hk with ⟨kvs, hk⟩ | ⟨kvs, hk⟩
        · obtain ⟨_, _, _, _, o, _, _, e, ex, _⟩ := I.hok p _ hk
          exact ⟨o, e, ex⟩
        · obtain ⟨_, _, _, _, o, _, _, e, ex, _⟩ := I.hok p _ hk
          exact ⟨o, e, ex⟩
      obtain ⟨o, e, ex⟩ := z
      refine ⟨⟨o, e, ex.1⟩, fun a e2 => ?_⟩
      cases e2
      exact ⟨o, e, ex.2.1⟩
    · obtain ⟨o, _, _, _, e, ex, _⟩ := I.hok p _ hk
      refine ⟨⟨o, e, ex.1⟩, fun a e2 => ?_⟩
      cases e2
      exact ⟨o, e, ex.2.1⟩
  | _ => exact False.elim ty
noncomputable def tBM (K : PySem.W.Frag) (T : String) (r : V → List V → Hp → VK → Prop) (to : TE) (t : TA) : TE := fun σ H Q => to σ H fun x H1 => tyV K T x H1 ∧ t σ H1 fun xs H2 => r x xs H2 Q
variable {o e : Expr} {es : List Expr} {to : TE} {t : TA} {name : Str} {apos cpos : Pos} {T id : String} {r : V → List V → Hp → VK → Prop}
theorem pe_bm (pa : PlainAttrs T) (slot : Slot T name id) (hty : typeOf (.builtin id) = pure (.type "method_descriptor")) (hm : MtR X id r) (ho : PE X o to) (ha : PA X (e :: es) t)
    (hbase : attributeBase o name X.env (eval o X.env) = eval o X.env := by rfl)
    (hfew : ((backTo cpos (starEach (e :: es) X.env)).all (fun x => !x.1) && (backToKw cpos (keywordEach [] X.env)).all (fun x => x.1.isSome)
      && decide ((e :: es).length + ([] : List Keyword).length + (if ([] : List Keyword).isEmpty then 0 else 1) < 30)) = true := by rfl)
    (hline : (apos.endLine == cpos.line) = true := by rfl) (hs : starEach (e :: es) X.env = (false, eval e X.env) :: starEach es X.env := by rfl) (hplain : (backTo cpos (starEach es X.env)).any (·.1) = false := by rfl) :
    PE X (.Call (.Attribute o name apos) (e :: es) [] cpos) (tBM X.K T r to t) := by
  intro pins s σ H Q I h
  refine wpAny_Call_method_late hbase hfew hline rfl (thn (ho pins s σ H _ I h) fun v s1 hh0 => ?_)
  obtain ⟨x, H1, I1, r1, ty, q1⟩ := hh0
  obtain ⟨h1, h2⟩ := tyV_is I1 r1 ty
  refine ⟨T, id, pa, slot, hty, h1, h2, ?_⟩
  have hA := ha cpos pins s1 σ H1 _ I1 q1
  rw [hs] at hA ⊢
  refine Calls.callWith_builtin (by show (false || (backTo cpos (starEach es X.env)).any (·.1)) = false; rw [hplain] <;> rfl) (Calls.evalArgs_plain ?_)
  exact thn hA fun us s2 ⟨vs, H2, I2, r2, q2⟩ => hm pins s2 σ H2 x vs v us Q I2 r1 r2 q2
end
end L2
namespace L2
open PySem PySem.Spec PyProof.Rows
noncomputable def MtM (X : Cx) (id : String) (r : V → List V → Hp → VK → Prop) : Prop :=
  ∀ (pins : List (Addr × Obj)) (s : Shared) (σ : St) (H : Hp) (x : V) (xs : List V) (v : Value) (us : List Value) (Q : VK), Inv X pins σ H s → RelV x v → Vals xs us → r x xs H Q →
    wpAny (model X.prog X.w) X.A (call (.builtin id) (v :: us)) (EP X pins σ Q) X.xe s
theorem Vals.one : ∀ {x : V} {us : List Value}, Vals [x] us → ∃ u, us = [u] ∧ RelV x u
  | _, _, .cons r .nil => ⟨_, rfl, r⟩
theorem Vals.rep {xs : List V} {us : List Value} (h : Vals xs us) : ∀ k : Nat, Vals (List.replicate k xs).flatten (List.replicate k us).flatten
  | 0 => .nil
  | k + 1 => by
    rw [List.replicate_succ, List.replicate_succ, List.flatten_cons, List.flatten_cons]
    exact Vals.append h (Vals.rep h k)
theorem foldl_rep (its : List Value) : ∀ (k : Nat) (acc : List Value),
    List.foldl (fun x1 x2 => x1 ++ x2) acc.toArray (List.replicate k its.toArray) = (acc ++ (List.replicate k its).flatten).toArray
  | 0, acc => by simp
  | k + 1, acc => by
    have e : acc.toArray ++ its.toArray = (acc ++ its).toArray := by simp
    have e2 : (acc ++ its) ++ (List.replicate k its).flatten = acc ++ (List.replicate (k + 1) its).flatten := by
      rw [List.replicate_succ, List.flatten_cons, List.append_assoc]
    rw [← e2, ← foldl_rep its k (acc ++ its), ← e, List.replicate_succ, List.foldl_cons]
section
variable {X : Cx} {pins : List (Addr × Obj)} {σ : St} {H : Hp} {s : Shared} {l b : Addr} {xs ys zs : List V}
theorem Inv.lset {its its' : List Value} {n : Nat} {f : Array Value → Array Value} {t' : Nat} (I : Inv X pins σ H s) (hH : H l = some (.lst xs))
    (e : s.heap.get? l = some { cls := .type "list", data := .seq its.toArray n }) (hf : f its.toArray = its'.toArray) (hv : Vals ys its') (hz : ys.length ≤ sizeLine) :
    Inv X pins σ (upd H l (.lst ys)) { s with heap := s.heap.update l (Obj.mapSeq f), toks := t' } := by
  have q := PySem.IsL.update e f
  rw [hf] at q
  refine I.write (x := l) (e := l) (by rw [hH]; exact trivial) (.inl rfl) (fun b' u hb hu => (Heap.get?_update_other s.heap (Obj.mapSeq f) (Ne.symm hb)).trans hu) ⟨_, q⟩ ?_
  exact ⟨hz, its', _, hv, q⟩
theorem Inv.lnew {its : List Value} {t' : Nat} (I : Inv X pins σ H s) (hv : Vals ys its) (hz : ys.length ≤ sizeLine) :
    Inv X pins σ (upd H s.heap.objs.size (.lst ys)) { s with heap := s.heap.push { cls := .type "list", data := .seq its.toArray }, toks := t' } :=
  I.laid (fun _ _ q => Heap.get?_push_of_some _ q) (Nat.le_refl _) ⟨hz, its, 0, hv, Heap.get?_push_size _ rfl⟩
theorem Inv.fresh (I : Inv X pins σ H s) : H s.heap.objs.size = none := I.hok.fresh (Nat.le_refl _)
theorem Inv.lstM (I : Inv X pins σ H s) (hH : H l = some (.lst xs)) : xs.length ≤ sizeLine ∧ ∃ (its : List Value) (n : Nat), Vals xs its ∧ xs.length = its.length ∧ s.heap.get? l = some { cls := .type "list", data := .seq its.toArray n } := by
  obtain ⟨z, its, n, r, e⟩ := I.hok l _ hH
  exact ⟨z, its, n, r, r.length, e⟩
theorem notLongL {n : Nat} (h : n ≤ sizeLine) : Builtin.List.listTooLong n = false := by
  unfold Builtin.List.listTooLong
  exact decide_eq_false (by omega)
end
section
variable {X : Cx}
noncomputable def rAppend : V → List V → Hp → VK → Prop := fun x vs H Q => ∃ l xs y, x = .ref l ∧ vs = [y] ∧ H l = some (.lst xs) ∧ xs.length < sizeLine ∧ Q .non (upd H l (.lst (xs ++ [y])))
theorem mt_append : MtM X "list.append" rAppend := by
  intro pins s σ H x vs v us Q I rx rv h
  obtain ⟨l, xs, y, rfl, rfl, hH, hz, q⟩ := h
  cases rx
  obtain ⟨u, rfl, ru⟩ := rv.one
  obtain ⟨z, its, n, r, hl, e⟩ := I.lstM hH
  refine call_meets F.slot_list_append ⟨_, e, rfl⟩ F.entry_list_append (F.args_list_append_2 _ _) (PySem.list_append l its.toArray n u (by rw [List.size_toArray]; omega)) ⟨e, ?_⟩
  refine ⟨.non, _, I.lset (its' := its ++ [u]) hH e (by simp) (r.append (.cons ru .nil)) ?_, rfl, q⟩
  rw [List.length_append, List.length_singleton]
  omega
noncomputable def rExtend : V → List V → Hp → VK → Prop := fun x vs H Q => ∃ l b xs zs, x = .ref l ∧ vs = [.ref b] ∧ H l = some (.lst xs) ∧ H b = some (.lst zs) ∧ xs.length + zs.length ≤ sizeLine ∧ Q .non (upd H l (.lst (xs ++ zs)))
theorem mt_extend : MtM X "list.extend" rExtend := by
  intro pins s σ H x vs v us Q I rx rv h
  obtain ⟨l, b, xs, zs, rfl, rfl, hH, hB, hz, q⟩ := h
  cases rx
  obtain ⟨u, rfl, ru⟩ := rv.one
  cases ru
  obtain ⟨z, its, n, r, hl, e⟩ := I.lstM hH
  obtain ⟨z2, its2, n2, r2, hl2, e2⟩ := I.lstM hB
  have hsz : its.toArray.size + its2.toArray.size ≤ sizeLine := by rw [List.size_toArray, List.size_toArray]; omega
  have hlong : ¬ (!its.toArray.isEmpty && Builtin.List.listTooLong (its.toArray.size + its2.toArray.size)) = true := by
    rw [notLongL hsz, Bool.and_false]
    exact Bool.false_ne_true
  refine call_meets F.slot_list_extend ⟨_, e, rfl⟩ F.entry_list_extend (F.args_list_extend_2 _ _)
    (AutoSeq1.list_extend_list_list_0 l its.toArray n b its2.toArray n2 hlong (by rw [List.size_toArray]; omega) (by omega)) ⟨e, e2, ?_⟩
  refine ⟨.non, _, I.lset (its' := its ++ its2) hH e (by simp) (r.append r2) ?_, rfl, q⟩
  rw [List.length_append]
  omega
noncomputable def rRep : R2 := fun x y H Q => ∃ l k xs, x = .ref l ∧ y = .int k ∧ H l = some (.lst xs) ∧ -(2 ^ 63) ≤ k ∧ k < 2 ^ 63 ∧ xs.length * k.toNat ≤ sizeLine ∧
  ∀ p, H p = none → Q (.ref p) (upd H p (.lst (List.replicate k.toNat xs).flatten))
theorem len_rep {α : Type} (xs : List α) (k : Nat) : (List.replicate k xs).flatten.length = k * xs.length := by
  induction k with
  | zero => simp
  | succ k ih => rw [List.replicate_succ, List.flatten_cons, List.length_append, ih, Nat.succ_mul, Nat.add_comm]
theorem op_rep : OpR X (binaryOp .Mult) rRep := by
  intro pins s σ H x y v u Q I rx ry h
  obtain ⟨l, k, xs, rfl, rfl, hH, h1, h2, hz, q⟩ := h
  cases rx
  obtain ⟨t, rfl⟩ := ry
  obtain ⟨z, its, n, r, hl, e⟩ := I.lstM hH
  have hlen : its.toArray.size * k.toNat ≤ sizeLine := by rw [List.size_toArray, ← hl]; exact hz
  have hcap : ¬ its.toArray.size * k.toNat > (2 ^ 63 - 1) / 8 := by
    have : (sizeLine : Nat) ≤ (2 ^ 63 - 1) / 8 := by decide
    omega
  have hfit : ¬ (!Builtin.List.listFitsIndex k) = true := by
    rw [fitsIndex_both h1 h2]
    exact Bool.false_ne_true
  have hlong : ¬ Builtin.List.listTooLong (its.toArray.size * k.toNat) = true := by
    rw [notLongL hlen]
    exact Bool.false_ne_true
  have hnew : List.foldl (fun x1 x2 => x1 ++ x2) #[] (List.replicate (if its.toArray.isEmpty = true then 0 else k.toNat) its.toArray) = (List.replicate k.toNat its).flatten.toArray := by
    have f0 : ∀ m : Nat, List.foldl (fun x1 x2 => x1 ++ x2) #[] (List.replicate m its.toArray) = (List.replicate m its).flatten.toArray := fun m => by
      have := foldl_rep its m []
      rw [List.nil_append] at this
      exact this
    rw [f0]
    cases its with
    | nil => simp
    | cons a r' => rw [if_neg (by simp)]
  refine wpAny_binaryOp_repeat_ref (T := "list") (U := "int") (by decide) ⟨_, e, rfl⟩ (fun s' => typeIs_int s' k t) noFill_list_mul F.fills_int_mul F.slot_int_rmul repeat_list F.slot_int_index.lookup
    (call_meets F.slot_int_rmul (typeIs_int s k t) F.entry_int_rmul (F.args_int_rmul_2 _ _) (int___rmul___int_list k t l its.toArray n)
      ⟨e, rfl, ⟨_, e, rfl⟩, call_meets F.slot_list_mul ⟨_, e, rfl⟩ F.entry_list_mul (F.args_list_mul_2 _ _) (AutoListH.list___mul___list_int_3 l its.toArray n k t hfit hcap hlong) ⟨e, ?_⟩⟩)
  rw [hnew]
  exact ⟨.ref _, _, I.lnew (t' := s.toks) (r.rep k.toNat) (by rw [len_rep, Nat.mul_comm]; exact hz), rfl, q _ I.fresh⟩
end
end L2
namespace Att
open PySem PySem.W PySem.Calls PyProof.Rows
theorem ints_of_wellAll {P : Params} {h : Heap} : ∀ (ns : List Int) (vs : List Value), WellAll P h vs (ns.map WData.int) → IntsAre vs ns := by
  intro ns
  induction ns with
  | nil =>
    intro vs w
    rw [List.map_nil] at w
    cases w
    exact .nil
  | cons n ns ih =>
    intro vs w
    rw [List.map_cons] at w
    cases w with
    | cons a b =>
      cases a
      exact .cons _ _ (ih _ b)
theorem script_of {l : OpenLaw} {n : Nat} (hn : l.most = some n) {P : Params} {h : Heap} {args : List WData} {vals : List Value}
    (hpre : l.row.toRowW.claim.pre args = true) (hwl : WellAll P h vals args) :
    ∃ a vs ns, vals = [Value.ref a] ∧ args = [WData.list (ns.map WData.int)] ∧ h.get? a = some { cls := .type "list", data := .seq vs.toArray } ∧ IntsAre vs ns ∧ ns.length ≤ n := by
  have hsh : WShape.hasAll [] args [.list .int] = true := (pre_splitW hpre).1
  have hc : l.pre.holds [] { args := args } = true := (pre_splitW hpre).2
  obtain ⟨d, r, rfl, h1, h2⟩ := hasAllW_cons hsh
  obtain rfl := hasAllW_nil h2
  obtain ⟨xs, rfl, h3⟩ := hasW_list h1
  obtain ⟨ns, rfl⟩ := items_int h3
  have hlen : ns.length ≤ n := by
    unfold OpenLaw.pre at hc
    have h4 : (WTm.not (.lt (.lit (.int (n : Int))) (.len (.arg 0)))).holds [] { args := [.list (ns.map .int)] } = true := by
      have h4 := (holds_andW hc).1
      rw [hn] at h4
      exact h4
    have h5 := condW_of h4 (w_not (w_lt w_lit (w_len_list (w_arg rfl))))
    rw [List.length_map] at h5
    refine Nat.le_of_not_lt fun q => ?_
    have q' : (n : Int) < ((ns.length : Nat) : Int) := by omega
    first
      | (rw [decide_eq_true q'] at h5; exact absurd h5 (by decide))
      | (simp at h5; omega)
  cases hwl with
  | cons w1 w2 =>
    cases w2
    cases w1 with
    | list ho hall => exact ⟨_, _, ns, rfl, rfl, ho, ints_of_wellAll ns _ hall, hlen⟩
theorem post_true (l : OpenLaw) (args : List WData) : l.row.toRowW.claim.post args (.bool true) args = true :=
  postW_of (r := l.row.toRowW) (X := (true == true))
    (show WShape.has [] (.bool true) .bool = true by first | rfl | decide | simp [WShape.has, WShape.arms, WShape.armsAll])
    (show (WTm.eq .res (.lit (.bool true))).value [] { args := args, res := some (.bool true), after := args } = some (.bool (true == true)) from w_eq_bool (w_res rfl) w_lit) rfl
theorem attach_call {l : OpenLaw} {n : Nat} {q : Program} {loose : List Str} {XP : (Str → Option Value) → Heap → Prop} {YP : World → Heap → Prop} {d : DefRec}
    (hn : l.most = some n) (hdf : d.params.defaults = [])
    (call : ∀ (w : World) (s₀ s₁ : Shared) (mg mb : Str → Option Value) (fa : Addr) (o : Obj) (pm cd doc : Value) (a : Addr) (vs : List Value) (ns : List Int),
      Ground q loose [] XP w s₀ mg mb s₁.heap → YP w s₁.heap →
      s₁.heap.get? fa = some o → o.data = .func (docDef d.name d.params d.body d.scope pm cd doc) → s₁.heap.CodeRec cd d.name → mg d.name = some (.ref fa) →
      s₁.heap.get? a = some { cls := .type "list", data := .seq vs.toArray } → IntsAre vs ns → ns.length ≤ n → s₁.gens = #[] →
      codeAny (model l.prog w) callerA (.call (.ref fa) ⟨[.ref a], []⟩) (fun r s' => r = .ok (.ret (.bool true)) ∧ OldK s₁.heap s'.heap ∧ s'.os = s₁.os ∧ AllBare s'.gens) s₁) :
    WalkO q loose XP YP l.row.toRowW d [] (fun f vs => PySem.call f vs) := by
  intro w s₀ s₁ mg mb G Y fa o pm cd doc dV kV ho hd hcd hD hmg hg args vals as hpre hlay hrd hwl hlo
  obtain rfl : dV = .none := Dflts.none hD hdf
  obtain rfl : kV = .none := Dflts.noKw hD
  obtain ⟨a, vs, ns, rfl, rfl, hobj, hints, hlen⟩ := script_of hn hpre hwl
  refine enter_call (codeAny_mono (call w s₀ s₁ mg mb fa o pm cd doc a vs ns G Y ho (fd_plain hd) hcd hmg hobj hints hlen hg) fun r s' hq => ?_)
  obtain ⟨rfl, h2, h3, h4⟩ := hq
  exact ⟨.inl ⟨.bool true, .bool true, [], rfl, fun _ => rfl, .bool true, post_true l _, fun _ => ⟨List.Pairwise.nil, fun _ hm => (nomatch hm)⟩⟩, h2, h3, h4⟩
section
variable {prog : Program} {w : World} {A : Around} {E : Value → Shared → Prop} {s : Shared} {K : Frag}
end
end Att
namespace L2
open PySem PySem.Spec PyProof.Rows
theorem vals_ints : ∀ {vs : List Value} {ns : List Int}, IntsAre vs ns → Vals (ns.map V.int) vs
  | _, _, .nil => .nil
  | _, _, .cons n t h => .cons ⟨t, rfl⟩ (vals_ints h)
end L2
namespace L2
open PySem PySem.Spec PyProof.Rows
end L2
namespace L2
open PySem PySem.Spec PyProof.Rows
noncomputable def defArgs (s : Stmt) : Arguments := match s with
  | .FunctionDef _ a _ _ _ _ _ _ _ _ => a
  | _ => { posonlyargs := [], args := [], vararg := none, kwonlyargs := [], kw_defaults := [], kwarg := none, defaults := [] }
noncomputable def defBody (s : Stmt) : List Stmt := match s with
  | .FunctionDef _ _ b _ _ _ _ _ _ _ => b
  | _ => []
noncomputable def defScope (s : Stmt) : Scope := match s with
  | .FunctionDef _ _ _ _ _ _ sc _ _ _ => sc
  | _ => { kind := .function, names := [], isGenerator := false, isCoroutine := false }
noncomputable abbrev CX0 : CXT := fun _ _ _ _ _ _ => False
noncomputable abbrev E0 : XK := fun _ _ _ => False
theorem pass0 {X : Cx} : Passes CX0 X E0 := fun _ _ _ _ _ _ _ h => h.elim
structure Fun (K : PySem.W.Frag) (x qual : Str) (st : Stmt) (f : Addr) (fd : FuncData) : Prop where
  ex : ∃ (oc : Value) (od : Option Addr) (kV doc pm : Value) (an : Option Addr) (cdv ct : Value) (osl : Array (Option Value)),
    fd = PySem.W.fnOf x qual (defArgs st) (defBody st) (defScope st) .none kV doc pm an cdv ct ∧ K.lookup f = some ⟨oc, od, .func fd, osl⟩ ∧ PySem.W.codeIn K cdv qual = true
  kp : PySem.W.keepIn K (.ref f) = true
section
variable {P : Program} {w : World} {K : PySem.W.Frag} {mg : Str → Option Value} {base : Heap}
theorem Fun.ok {x qual : Str} {st : Stmt} {f : Addr} {fd : FuncData} {N ps : List Str} {k : Nat} {sp : Sp} (F : Fun K x qual st f fd) (S : FnScope N ps (defScope st)) (len : ∀ vs H Q E, sp vs H Q E → vs.length = ps.length)
    (hbody : ∀ (cdv : Value) (A : Around) (outer : List Env) (s : Shared) (H : Hp) (vs : List V) (Q : VK) (E : XK), Room k (A.deeper (envOfC qual (defScope st) s.heap.objs.size f cdv)) → sp vs H Q E →
      ∃ t, PSs (cxOf CX0 P w K mg base N qual (defScope st) f cdv A outer s H E).nox (defBody st) t ∧ t { nx := fun _ H' => Q .non H', rt := Q } (start N vs) H) : FnOk P w K mg base CX0 (k + 1) f fd ps sp := by
  obtain ⟨oc, od, kV, doc, pm, an, cdv, ct, osl, rfl, lk, hcd⟩ := F.ex
  refine fn_of lk hcd S len fun A outer s H vs Q E hr hsp => ?_
  obtain ⟨t, h, q⟩ := hbody cdv A outer s H vs Q E hr hsp
  exact ⟨t, h.nox, q⟩
theorem Fun.binds {x qual : Str} {st : Stmt} {f : Addr} {fd : FuncData} {ps : List Str} (F : Fun K x qual st f fd)
    (h : ∀ (kV doc pm : Value) (an : Option Addr) (cdv ct : Value) (us : List Value), us.length = ps.length → bindArgs (PySem.W.fnOf x qual (defArgs st) (defBody st) (defScope st) .none kV doc pm an cdv ct) ⟨us, []⟩ = pure (ps.zip us)) : Binds K fd ps [] := by
  obtain ⟨oc, od, kV, doc, pm, an, cdv, ct, osl, rfl, lk, hcd⟩ := F.ex
  exact .all (h kV doc pm an cdv ct)
theorem fun_mk {x qual : Str} {st : Stmt} {f : Addr} {oc : Value} {od an : Option Addr} {osl : Array (Option Value)} {kV doc pm cdv ct : Value} (l : K.lookup f = some ⟨oc, od, .func (PySem.W.fnOf x qual (defArgs st) (defBody st) (defScope st) .none kV doc pm an cdv ct), osl⟩)
    (c : PySem.W.codeIn K cdv qual = true) (k : PySem.W.keepIn K (.ref f) = true) : Fun K x qual st f (PySem.W.fnOf x qual (defArgs st) (defBody st) (defScope st) .none kV doc pm an cdv ct) := ⟨⟨oc, od, kV, doc, pm, an, cdv, ct, osl, rfl, l, c⟩, k⟩
end
theorem hu_of {A : Around} {k : Nat} (hr : Room k A) : A.units + 1 < cLine := Nat.lt_of_le_of_lt (Nat.add_le_add_left (by decide : 1 ≤ 64) _) hr.units
theorem small1000 {n : Nat} (h : n ≤ 1000) : n < sizeLine := Nat.lt_of_le_of_lt h (by decide)
section
variable {X : Cx}
theorem pv (i : Nat) {x : Str} {pos : Pos} (hN : X.N[i]? = some x := by rfl) (hv : Vis X.env.scope x := by first | exact Or.inl rfl | exact Or.inr (Or.inl rfl) | exact Or.inr (Or.inr rfl)) (hd : (x == ("__debug__" : Str)) = false := by decide)
    (hcd : (x == ("__classdict__" : Str)) = false := by decide) : PE X (.Name x pos) (tVar i) := pe_var hN hv hd hcd
end
end L2
set_option Elab.async false
set_option linter.all false
set_option maxRecDepth 100000
namespace L2
open PySem PySem.Spec PyProof.Rows
section
variable {κ : Type} [DecidableEq κ]
noncomputable def valV (kvs : List (κ × V)) (k : κ) : Option V := (kvs.find? fun kv => decide (kv.1 = k)).map (·.2)
noncomputable def putK (kvs : List (κ × V)) (k : κ) (v : V) : List (κ × V) :=
  if (kvs.any fun kv => decide (kv.1 = k)) = true then kvs.map (fun kv => if kv.1 = k then (kv.1, v) else kv) else kvs ++ [(k, v)]
theorem valV_pos {p : κ × V} {r : List (κ × V)} {k : κ} (e : p.1 = k) : valV (p :: r) k = some p.2 := by simp [valV, List.find?_cons, e]
theorem valV_neg {p : κ × V} {r : List (κ × V)} {k : κ} (e : ¬ p.1 = k) : valV (p :: r) k = valV r k := by simp [valV, List.find?_cons, e]
theorem length_putK (kvs : List (κ × V)) (k : κ) (v : V) : (putK kvs k v).length ≤ kvs.length + 1 := by
  unfold putK
  split
  · rw [List.length_map]; omega
  · rw [List.length_append, List.length_cons, List.length_nil]; omega
theorem RelO.getD {o : Option V} {u : Option Value} {d : V} {d' : Value} (r : RelO o u) (rd : RelV d d') : RelV (o.getD d) (u.getD d') := by
  cases o with
  | none => cases u with
    | none => exact rd
    | some _ => exact (show False from r).elim
  | some _ => cases u with
    | none => exact (show False from r).elim
    | some _ => exact r
theorem KV.val {kvs : List (κ × V)} {vs : List (κ × Value)} (r : KV kvs vs) (k : κ) : RelO (valV kvs k) (valueAt vs k) := by
  unfold KV at r
  induction r with
  | nil => exact True.intro
  | @cons p q ps qs h t ih =>
    obtain ⟨h1, h2⟩ := h
    by_cases e : p.1 = k
    · have e' : q.1 = k := h1.symm.trans e
      have b : valueAt (q :: qs) k = some q.2 := by simp [valueAt, List.find?_cons, e']
      rw [valV_pos e, b]; exact h2
    · have e' : ¬ q.1 = k := fun z => e (h1.trans z)
      have b : valueAt (q :: qs) k = valueAt qs k := by simp [valueAt, List.find?_cons, e']
      rw [valV_neg e, b]; exact ih
theorem KV.any {kvs : List (κ × V)} {vs : List (κ × Value)} (r : KV kvs vs) (k : κ) : (kvs.any fun kv => decide (kv.1 = k)) = vs.any fun kv => decide (kv.1 = k) := by
  unfold KV at r
  induction r with
  | nil => rfl
  | cons h t ih => rw [List.any_cons, List.any_cons, ih, h.1]
theorem KV.repl {kvs : List (κ × V)} {vs : List (κ × Value)} (r : KV kvs vs) (k : κ) {y : V} {u : Value} (ry : RelV y u) :
    KV (kvs.map fun kv => if kv.1 = k then (kv.1, y) else kv) (vs.map fun kv => if kv.1 = k then (kv.1, u) else kv) := by
  unfold KV at r ⊢
  induction r with
  | nil => exact .nil
  | @cons p q ps qs h t ih =>
    rw [List.map_cons, List.map_cons]
    refine .cons ?_ ih
    obtain ⟨h1, h2⟩ := h
    by_cases e : p.1 = k
    · rw [if_pos e, if_pos (h1.symm.trans e)]; exact ⟨h1, ry⟩
    · rw [if_neg e, if_neg (fun z => e (h1.trans z))]; exact ⟨h1, h2⟩
theorem KV.put {kvs : List (κ × V)} {vs : List (κ × Value)} (r : KV kvs vs) (k : κ) {y : V} {u : Value} (ry : RelV y u) : KV (putK kvs k y) (stored vs k u) := by
  unfold putK stored
  rw [r.any k]
  by_cases e : (vs.any fun kv => decide (kv.1 = k)) = true
  · rw [if_pos e, if_pos e]; exact r.repl k ry
  · rw [if_neg e, if_neg e]; exact Paired.snoc r ⟨rfl, ry⟩
end
theorem kV_is {P : Program} {w : World} {k : Key} {u : Value} (r : RelV (kV k) u) : (mixKind P w).is k u = true := by
  cases k with
  | inl i => obtain ⟨t, e⟩ := (show ∃ t, u = Value.int i t from r); subst e; exact mixKind_int P w i t
  | inr x => obtain ⟨t, e⟩ := (show ∃ t, u = Value.str x t from r); subst e; exact mixKind_str P w x t
theorem items_are {P : Program} {w : World} : ∀ {ks : List Key} {us : List Value}, Vals (ks.map kV) us → ItemsAre (mixKind P w) ks us
  | [], _, r => by rw [List.map_nil] at r; cases r; exact .nil
  | k :: ks, _, r => by
    rw [List.map_cons] at r
    cases r with
    | cons h t => exact .cons (kV_is h) (items_are t)
noncomputable abbrev KT (H : Hp) : List (List Key × V) → List (List Key × Addr × Value) → Prop := Paired fun p q => p.1 = q.1 ∧ H q.2.1 = some (.tup (p.1.map kV)) ∧ RelV p.2 q.2.2
theorem KT.val {H : Hp} {kvs : List (List Key × V)} {xs : List (List Key × Addr × Value)} (r : KT H kvs xs) (k : List Key) : RelO (valV kvs k) ((atKey xs k).map (·.2)) := by
  induction r with
  | nil => exact True.intro
  | @cons p q ps qs h t ih =>
    obtain ⟨h1, _, h2⟩ := h
    by_cases e : p.1 = k
    · have e' : q.1 = k := h1.symm.trans e
      have b : atKey (q :: qs) k = some q.2 := by simp [atKey, List.find?_cons, e']
      rw [valV_pos e, b]; exact h2
    · have e' : ¬ q.1 = k := fun z => e (h1.trans z)
      have b : atKey (q :: qs) k = atKey qs k := by simp [atKey, List.find?_cons, e']
      rw [valV_neg e, b]; exact ih
section
variable {P : Program} {w : World} {H : Hp} {h : Heap} {a : Addr}
theorem rd_of {u : HO} (ok : HOk P w H h) (e : Rd H a u) : ObjOk P w H h a u := e.ok ok
theorem dk_rd {kvs : List (Key × V)} (ok : HOk P w H h) (e : Rd H a (.dK kvs)) : kvs.length ≤ sizeLine ∧ (a == sysModules) = false ∧ ∃ vs, KV kvs vs ∧ h.DictOf (mixKind P w) a vs :=
  show ObjOk P w H h a (.dK kvs) from rd_of ok e
theorem dk_of {kvs : List (Key × V)} (ok : HOk P w H h) (e : H a = some (.dK kvs)) : kvs.length ≤ sizeLine ∧ (a == sysModules) = false ∧ ∃ vs, KV kvs vs ∧ h.DictOf (mixKind P w) a vs := dk_rd ok (.inl e)
theorem key_of {ks : List Key} (ok : HOk P w H h) (e : H a = some (.tup (ks.map kV))) : (tupleKind (mixKind P w)).is h ks a := by
  obtain ⟨_, its, r, o, h1, h2, ⟨n, h3⟩, _⟩ := (show ObjOk P w H h a (.tup (ks.map kV)) from ok a _ e)
  exact ⟨o, its.toArray, n, h1, h2, h3, by simpa using items_are r⟩
theorem dt_rd {kvs : List (List Key × V)} (ok : HOk P w H h) (e : Rd H a (.dT kvs)) : kvs.length ≤ sizeLine ∧ (a == sysModules) = false ∧
    ∃ xs, KT H kvs xs ∧ h.DictOfH (tupleKind (mixKind P w)) a xs := by
  obtain ⟨z, y, xs, r, o, es, ep, h1, h2, h3, h4, h5⟩ := (show ObjOk P w H h a (.dT kvs) from rd_of ok e)
  refine ⟨z, y, xs, r, o, es, ep, h1, h2, h3, h4, fun x hx => ?_, h5⟩
  have all : ∀ {l : List (List Key × V)} {m : List (List Key × Addr × Value)}, KT H l m → ∀ x ∈ m, (tupleKind (mixKind P w)).is h x.1 x.2.1 := by
    intro l m q
    induction q with
    | nil => intro x hx; exact nomatch hx
    | @cons p q ps qs hq t ih =>
      intro x hx
      rcases List.mem_cons.mp hx with e | hx
      · subst e
        exact key_of ok (by rw [← hq.1]; exact hq.2.1)
      · exact ih x hx
  exact all r x hx
end
noncomputable def DGet (H : Hp) (a : Addr) (y : V) (r : Option V) : Prop :=
  (∃ kvs k, Rd H a (.dK kvs) ∧ y = kV k ∧ r = valV kvs k) ∨ ∃ kvs k b, Rd H a (.dT kvs) ∧ y = .ref b ∧ H b = some (.tup (k.map kV)) ∧ r = valV kvs k
theorem DGet.k {H : Hp} {a : Addr} {kvs : List (Key × V)} {k : Key} (e : H a = some (.dK kvs)) : DGet H a (kV k) (valV kvs k) := .inl ⟨kvs, k, .inl e, rfl, rfl⟩
section
variable {X : Cx} {pins : List (Addr × Obj)} {σ : St} {H : Hp} {s : Shared} {a : Addr} {y v : V} {u r : Value} {o : Option V} {A : Around} {E : Value → Shared → Prop}
theorem Inv.big (I : Inv X pins σ H s) : sysModules < s.heap.objs.size := by
  have h : mainGlobals < s.heap.objs.size := (I.mod.glob.keeps I.bk).lt
  exact Nat.lt_trans (by decide) h
theorem d_write {h' : Heap} {t' : Nat} {ob : HO} (I : Inv X pins σ H s) (mu : Mut (H a)) (hs : Heap.SameBut a s.heap h') (he : ∃ q, h'.get? a = some q) (new : ObjOk X.prog X.w (upd H a ob) h' a ob) :
    Inv X pins σ (upd H a ob) { s with heap := h', toks := t' } :=
  I.write (x := a) (e := a) mu (.inl rfl) (fun b q hb z => (hs.2 b hb).trans z) he new
theorem dk_new {P : Program} {w : World} {H' : Hp} {h' : Heap} {kvs : List (Key × V)} {vs : List (Key × Value)} (z : kvs.length ≤ sizeLine) (hd : (a == sysModules) = false) (rel : KV kvs vs) (dd : h'.DictOf (mixKind P w) a vs) :
    ObjOk P w H' h' a (.dK kvs) := ⟨z, hd, vs, rel, dd⟩
end
theorem dk_empty {P : Program} {w : World} {H : Hp} (h : Heap) (hb : sysModules < h.objs.size) : ObjOk P w H (h.push { cls := .type "dict", data := .dict #[] }) h.objs.size (.dK []) :=
  ⟨Nat.zero_le _, beq_eq_false_iff_ne.mpr (Ne.symm (Nat.ne_of_lt hb)), [], .nil, Heap.DictOf.new h⟩
noncomputable def tPairs : List (TE × TE) → St → Hp → (List (V × V) → Hp → Prop) → Prop
  | [], _, H, Q => Q [] H
  | (tk, tv) :: r, σ, H, Q => tk σ H fun x H1 => tv σ H1 fun y H2 => tPairs r σ H2 fun ps H3 => Q ((x, y) :: ps) H3
noncomputable abbrev VV : List (V × V) → List (Value × Value) → Prop := Paired fun p q => RelV p.1 q.1 ∧ RelV p.2 q.2
noncomputable def PPs (X : Cx) (pos : Pos) (keys : List (Option Expr)) (values : List Expr) (trs : List (TE × TE)) : Prop :=
  ∀ (pins : List (Addr × Obj)) (s : Shared) (σ : St) (H : Hp) (Q : List (V × V) → Hp → Prop), Inv X pins σ H s → tPairs trs σ H Q →
    wpAny (model X.prog X.w) X.A (evalPairs (pairTrees keys values X.env pos)) (fun vs s' => ∃ ps H', Inv X pins σ H' s' ∧ VV ps vs ∧ Q ps H') X.xe s
theorem pps_nil {X : Cx} {pos : Pos} : PPs X pos [] [] [] := fun pins s σ H Q I h => pairTrees_nil_walk ⟨[], H, I, .nil, h⟩
theorem pps_cons {X : Cx} {pos : Pos} {k v : Expr} {ks : List (Option Expr)} {vs : List Expr} {tk tv : TE} {trs : List (TE × TE)} (hk : PE X k tk) (hv : PE X v tv) (hr : PPs X pos ks vs trs) :
    PPs X pos (some k :: ks) (v :: vs) ((tk, tv) :: trs) := fun pins s σ H Q I h =>
  pairTrees_cons_walk (thn (hk pins s σ H _ I h) fun u s1 ⟨x, H1, I1, rx, q1⟩ => thn (hv pins s1 σ H1 _ I1 q1) fun w2 s2 ⟨y, H2, I2, ry, q2⟩ =>
    thn (hr pins s2 σ H2 _ I2 q2) fun ws s3 ⟨ps, H3, I3, rel, q3⟩ => ⟨(x, y) :: ps, H3, I3, .cons ⟨rx, ry⟩ rel, q3⟩)
noncomputable def mergeK (kvs more : List (Key × V)) : List (Key × V) := more.foldl (fun acc kv => putK acc kv.1 kv.2) kvs
theorem KV.merge : ∀ {more : List (Key × V)} {rs : List (Key × Value)} {kvs : List (Key × V)} {vs : List (Key × Value)}, KV more rs → KV kvs vs → KV (mergeK kvs more) (merged vs rs) := by
  intro more rs kvs vs r
  unfold KV at r
  induction r generalizing kvs vs with
  | nil => intro q; exact q
  | @cons p q ps qs h t ih =>
    intro r0
    have e : KV (putK kvs p.1 p.2) (stored vs q.1 q.2) := by
      have := r0.put p.1 h.2
      rw [← h.1]; exact this
    exact ih e
theorem length_mergeK : ∀ (more kvs : List (Key × V)), (mergeK kvs more).length ≤ kvs.length + more.length
  | [], kvs => by show kvs.length ≤ kvs.length + 0; omega
  | p :: r, kvs => by
    have h1 := length_mergeK r (putK kvs p.1 p.2)
    have h2 := length_putK kvs p.1 p.2
    show (mergeK (putK kvs p.1 p.2) r).length ≤ _
    rw [List.length_cons]; omega
theorem carries_of {P : Program} {w : World} : ∀ {kvs : List (Key × V)} {ws : List (Value × Value)}, VV (kvs.map fun kv => (kV kv.1, kv.2)) ws → ∃ rs, Carries (mixKind P w) ws rs ∧ KV kvs rs
  | [], _, r => by rw [List.map_nil] at r; cases r; exact ⟨[], True.intro, .nil⟩
  | p :: kvs, _, r => by
    rw [List.map_cons] at r
    cases r with
    | @cons a b as bs h t =>
      obtain ⟨rs, c, q⟩ := carries_of (P := P) (w := w) t
      obtain ⟨b1, b2⟩ := b
      exact ⟨(p.1, b2) :: rs, ⟨kV_is h.1, rfl, c⟩, .cons ⟨rfl, h.2⟩ q⟩
noncomputable def tDisp (trs : List (TE × TE)) : TE := fun σ H Q => ∀ p, H p = none → tPairs trs σ (upd H p (.dK [])) fun ps H2 => H2 p = some (.dK []) ∧ ∃ kvs : List (Key × V), ps = kvs.map (fun kv => (kV kv.1, kv.2)) ∧ kvs.length ≤ 15 ∧ Q (.ref p) (upd H2 p (.dK (mergeK [] kvs)))
theorem pe_disp {X : Cx} {pos : Pos} {keys : List (Option Expr)} {values : List Expr} {trs : List (TE × TE)} (h : PPs X pos keys values trs) (hall : keys.all (·.isSome) = true) (hl : keys.length = values.length) (h0 : keys ≠ [])
    (h15 : keys.length ≤ 15) : PE X (.Dict keys values pos) (tDisp trs) := by
  intro pins s σ H Q I q
  have hn := I.hok.fresh (Nat.le_refl s.heap.objs.size)
  have I1 := I.laid (a := s.heap.objs.size) (o := .dK []) (h' := s.heap.push { cls := .type "dict", data := .dict #[] }) (t' := s.toks) (fun _ _ q => Heap.get?_push_of_some _ q) (Nat.le_refl _) (dk_empty s.heap I.big)
  refine wpAny_Dict_walk (knd := mixKind X.prog X.w) hall hl h0 h15 (thn (h pins _ σ _ _ I1 (q _ hn)) fun ws s2 hh0 => ?_)
  obtain ⟨ps, H2, I2, rel, e, kvs, ep, lk, q2⟩ := hh0
  subst ep
  obtain ⟨rs, c, rk⟩ := carries_of (P := X.prog) (w := X.w) rel
  obtain ⟨z, hd, vs0, r0, dd⟩ := dk_of I2.hok e
  cases r0
  refine ⟨rs, c, dd, fun h' dd' hs => ⟨.ref s.heap.objs.size, _, ?_, rfl, q2⟩⟩
  have hz : (mergeK [] kvs).length ≤ sizeLine := by
    have h1 := length_mergeK kvs []
    rw [List.length_nil] at h1
    rw [sizeLine_eq]; omega
  have he : ∃ q, h'.get? s.heap.objs.size = some q := let ⟨q, _, _, hq, _⟩ := dd'; ⟨q, hq⟩
  exact d_write I2 (by rw [e]; exact True.intro) hs he (dk_new hz hd (rk.merge .nil) dd')
structure M2 (X : Cx) (o : Expr) (m : Str) (apos : Pos) (e f : Expr) (cpos : Pos) : Prop where
  base : attributeBase o m X.env (eval o X.env) = eval o X.env
  few : ((backTo cpos (starEach [e, f] X.env)).all (fun x => !x.1) && (backToKw cpos (keywordEach [] X.env)).all (fun x => x.1.isSome)
    && decide (([e, f] : List Expr).length + ([] : List Keyword).length + (if ([] : List Keyword).isEmpty then 0 else 1) < 30)) = true
  line : (apos.endLine == cpos.line) = true
  trees : backTo cpos (starEach [e, f] X.env) = [(false, eval e X.env), (false, eval f X.env)]
noncomputable def IsD (H : Hp) (a : Addr) : Prop := (∃ kvs, Rd H a (.dK kvs)) ∨ ∃ kvs, Rd H a (.dT kvs)
theorem isD_at {X : Cx} {pins : List (Addr × Obj)} {σ : St} {H : Hp} {s : Shared} {a : Addr} (I : Inv X pins σ H s) (d : IsD H a) :
    s.TypeIs (.ref a) "dict" ∧ (∀ b, Value.ref a = .ref b → ∃ ob, s.heap.get? b = some ob ∧ ob.dict = none) ∧ (a == sysModules) = false := by
  rcases d with ⟨kvs, e⟩ | ⟨kvs, e⟩
  · obtain ⟨_, hd, vs, _, dd⟩ := dk_rd I.hok e
    refine ⟨dd.typeIs, fun b q => ?_, hd⟩
    cases q
    obtain ⟨ob, _, _, h1, h2, _⟩ := dd
    exact ⟨ob, h1, h2.2.1⟩
  · obtain ⟨_, hd, xs, _, dd⟩ := dt_rd I.hok e
    refine ⟨dd.typeIs, fun b q => ?_, hd⟩
    cases q
    obtain ⟨ob, _, _, h1, h2, _⟩ := dd
    exact ⟨ob, h1, h2.2.1⟩
section
variable {X : Cx} {pins : List (Addr × Obj)} {σ : St} {H : Hp} {s : Shared} {a : Addr} {y d : V} {u r : Value} {o : Option V} {A : Around} {E : Value → Shared → Prop}
theorem d_get2 {Q : Value → Shared → Prop} (hu : A.units + 1 < cLine) (I : Inv X pins σ H s) (g : DGet H a y o) (ry : RelV y u) (rd : RelV d r) (h : ∀ w' s', Inv X pins σ H s' → RelV (o.getD d) w' → Q w' s') :
    wpAny (model X.prog X.w) A (call (.builtin "dict.get") [.ref a, u, r]) Q E s := by
  rcases g with ⟨kvs, k, e, ey, l⟩ | ⟨kvs, k, b, e, ey, eb, l⟩
  · subst ey
    obtain ⟨z, hd, vs, rel, dd⟩ := dk_rd I.hok e
    refine call_meetsIn PySem.F.slot_dict_get dd.typeIs PySem.F.entry_dict_get (PySem.F.args_dict_get_3 _ _ _) (meets_dict_get_default (mixKind X.prog X.w) a (kV_is ry) hd r) ⟨_, dd.mapOf, h _ _ (I.tok _) ?_⟩
    rw [l]
    exact (rel.val k).getD rd
  · subst ey
    cases (show u = Value.ref b from ry)
    obtain ⟨z, hd, xs, rel, dd⟩ := dt_rd I.hok e
    refine call_meetsIn PySem.F.slot_dict_get dd.typeIs PySem.F.entry_dict_get (PySem.F.args_dict_get_3 _ _ _) (meetsH_dict_get_default (tupleKind (mixKind X.prog X.w)) a b hd r) ⟨tupleKind_room_in1 hu, k, xs, key_of I.hok eb, dd, h _ _ (I.tok _) ?_⟩
    rw [l]
    exact (rel.val k).getD rd
end
noncomputable def tDGet2 (td ty tx : TE) : TE := fun σ H Q => td σ H fun x H1 => ∃ a, x = .ref a ∧ IsD H1 a ∧ ty σ H1 fun y H2 => tx σ H2 fun z H3 => ∃ o, DGet H3 a y o ∧ Q (o.getD z) H3
section
variable {X : Cx} {o e f : Expr} {apos cpos : Pos} {td ty tx : TE}
theorem pe_dget2 (hu : X.A.units + 1 < cLine) (ho : PE X o td) (he : PE X e ty) (hf : PE X f tx) (m : M2 X o "get" apos e f cpos) : PE X (.Call (.Attribute o "get" apos) [e, f] [] cpos) (tDGet2 td ty tx) := by
  intro pins s σ H Q I h
  refine wpAny_Call_method m.base m.few m.line PySem.F.plainAttrs_dict PySem.F.slot_dict_get PySem.F.type_dict_get (thn (ho pins s σ H _ I h) fun u s1 hh0 => ?_)
  obtain ⟨x, H1, I1, rx, a, ex, d, q1⟩ := hh0
  subst ex
  obtain rfl : u = Value.ref a := rx
  obtain ⟨t1, t2, _⟩ := isD_at I1 d
  refine ⟨t1, t2, ?_⟩
  rw [m.trees]
  refine Calls.callWith_builtin rfl (Calls.evalArgs_plain (Calls.spliced_cons (thn (he pins s1 σ H1 _ I1 q1) fun iv s2 ⟨y, H2, I2, ry, q2⟩ =>
    Calls.spliced_cons (thn (hf pins s2 σ H2 _ I2 q2) fun fv s3 ⟨z, H3, I3, rz, ov, g, q3⟩ => Calls.spliced_nil ?_))))
  exact d_get2 hu I3 g ry rz fun w' s4 I4 rw' => ⟨_, H3, I4, rw', q3⟩
end
end L2
set_option Elab.async false
set_option linter.all false
set_option maxRecDepth 100000
namespace L2
open PySem PySem.Spec PyProof.Rows
theorem compLoop_gen {prog : Program} {w : World} {A : Around} {R : Result → Shared → Prop} {s : Shared} {elt target iter : Expr} {ifs : List Expr} {scope : Scope} {pos : Pos} {it acc : Value} {env : Env} (I : Nat → Shared → Prop)
    (turn : ∀ n s, I n s → wpAny (model prog w) A (pyNext it) (fun r s₁ => match r with
      | none => R (.ok .next) s₁
      | some v => wpAny (model prog w) A (letOwnedTupleGo target it v) (fun _ s₁' => wpAny (model prog w) A (assign target env v) (fun _ s₂ =>
          wpAny (model prog w) A (forIn ifs true fun c r => if r = true then do let ok ← isTrue c env (eval c env); pure (ForInStep.yield ok) else pure (ForInStep.yield r)) (fun ok s₃ =>
            if ok = true then wpAny (model prog w) A (eval elt env) (fun x s₄ =>
              wpAny (model prog w) A (call (.builtin "list.append") [acc, x]) (fun _ s₅ => ∃ m, m < n ∧ I m s₅) (fun _ _ => False) s₄) (fun _ _ => False) s₃
            else ∃ m, m < n ∧ I m s₃) (fun _ _ => False) s₂) (fun _ _ => False) s₁') (fun _ _ => False) s₁) (fun _ _ => False) s)
    (n : Nat) (h : I n s) : codeAny (model prog w) A (.compLoop (.ListComp elt [⟨target, iter, ifs, 0⟩] scope pos) 0 it acc env) R s := by
  refine codeAny_loop rfl I (fun n s hI => ?_) n h
  show wpAny _ A ((compTurn (.ListComp elt [⟨target, iter, ifs, 0⟩] scope pos) 0 it acc env).onRaise (fun x => do noteFrame x env; theTreesLotGoes x)) _ _ s
  refine wpAny_noted ?_
  rw [compTurn_list]
  refine wpAny_bind (wpAny_standAt (wpAny_bind (wpAny_mono (turn n s hI) (fun r s₁ h₁ => ?_) fun _ _ h' => h'.elim)))
  cases r with
  | none => exact wpAny_pure h₁
  | some v =>
    refine wpAny_bind (wpAny_mono h₁ (fun _ s₁' h₁' => ?_) fun _ _ h' => h'.elim)
    refine wpAny_bind (wpAny_mono h₁' (fun _ s₂ h₂ => wpAny_bind (wpAny_mono h₂ (fun ok s₃ h₃ => ?_) fun _ _ h' => h'.elim)) fun _ _ h' => h'.elim)
    cases ok with
    | false => exact wpAny_pure ⟨rfl, h₃⟩
    | true =>
      exact wpAny_bind (wpAny_bind (wpAny_mono h₃ (fun x s₄ h₄ => wpAny_bind (wpAny_mono h₄ (fun _ s₅ h₅ => wpAny_pure (wpAny_pure ⟨rfl, h₅⟩)) fun _ _ h' => h'.elim)) fun _ _ h' => h'.elim))
theorem newEnv_comp {M : Model} {A : Around} {E : Value → Shared → Prop} {s : Shared} {scope : Scope} {globals : Addr} {cl : List (Str × Addr)} {qual : Str} {outer : Env} {Q : Env → Shared → Prop}
    (hQ : Q (newEnv scope s.heap.objs.size globals (cellsFrom (s.heap.objs.size + 1) scope.names cl) qual none .none (some outer) builtinsNs)
      { s with heap := pushCells (s.heap.push { cls := .type "dict", data := .dict #[] }) scope.names }) :
    wpAny M A (newFunctionEnv scope globals cl [] qual none .none (some outer)) Q E s := by
  simp only [newFunctionEnv, Option.isSome_some, if_true]
  refine wpAny_bind (wpAny_alloc ?_)
  refine wpAny_bind (wpAny_layCells _ (fun name kind cells => by cases hkc : kind == NameKind.cell <;> simp [hkc]) _ _ _ _ ?_)
  rw [show ({ s with heap := s.heap.push { cls := .type "dict", data := .dict #[] } } : Shared).heap.objs.size = s.heap.objs.size + 1 from Heap.size_push ..]
  refine wpAny_bind ?_
  rw [List.forIn_nil]
  exact wpAny_pure (wpAny_pure hQ)
noncomputable def freesOf (cells : List (Str × Addr)) : List (Str × NameKind) → List (Str × Addr) → List (Str × Addr)
  | [], acc => acc
  | (n, k) :: r, acc => if k == .free then (match cells.lookup n with
      | some c => freesOf cells r ((n, c) :: acc)
      | none => freesOf cells r acc) else freesOf cells r acc
theorem closureFor_eq {scope : Scope} {env : Env} (h : ∀ y ∈ scope.names, y.2 = .free → ∃ c, env.cells.lookup y.1 = some c) : closureFor scope env = pure (freesOf env.cells scope.names []) := by
  unfold closureFor
  have key : ∀ (names : List (Str × NameKind)) (acc : List (Str × Addr)), (∀ y ∈ names, y.2 = .free → ∃ c, env.cells.lookup y.1 = some c) →
      (forIn names acc (fun (x : Str × NameKind) (r : List (Str × Addr)) => (match x with
        | (name, kind) => if (kind == NameKind.free) = true then do
            let c ← cellOf env name
            pure (ForInStep.yield ((name, c) :: r))
          else pure (ForInStep.yield r) : Sem (ForInStep (List (Str × Addr)))))) = (pure (freesOf env.cells names acc) : Sem (List (Str × Addr))) := by
    intro names
    induction names with
    | nil => intro acc _; rfl
    | cons y r ih =>
      intro acc hh
      obtain ⟨n, kd⟩ := y
      rw [List.forIn_cons]
      unfold freesOf
      by_cases hk : (kd == NameKind.free) = true
      · obtain ⟨c, hc⟩ := hh (n, kd) List.mem_cons_self (by simpa using hk)
        have hc' : env.cells.lookup n = some c := hc
        simp only [hk, if_true, hc']
        have e : cellOf env n = pure c := by unfold cellOf; rw [hc']
        rw [e]
        exact ih ((n, c) :: acc) fun z hz => hh z (List.mem_cons_of_mem _ hz)
      · simp only [hk]
        exact ih acc fun z hz => hh z (List.mem_cons_of_mem _ hz)
  exact (congrArg (fun m => m >>= fun cs => (pure cs : Sem (List (Str × Addr)))) (key scope.names [] h)).trans rfl
theorem freesOf_sub {cells : List (Str × Addr)} : ∀ {names : List (Str × NameKind)} {acc : List (Str × Addr)}, (∀ y c, (y, c) ∈ acc → cells.lookup y = some c) → ∀ y c, (y, c) ∈ freesOf cells names acc → cells.lookup y = some c
  | [], _, h, y, c, m => h y c m
  | (n, k) :: r, acc, h, y, c, m => by
    unfold freesOf at m
    split at m
    · split at m
      · rename_i c' e
        refine freesOf_sub (acc := (n, c') :: acc) (fun z d hz => ?_) y c m
        rcases List.mem_cons.mp hz with q | q
        · cases q; exact e
        · exact h z d q
      · exact freesOf_sub h y c m
    · exact freesOf_sub h y c m
theorem freesOf_acc {cells : List (Str × Addr)} : ∀ {names : List (Str × NameKind)} {acc : List (Str × Addr)} {y : Str}, (acc.lookup y).isSome = true → ((freesOf cells names acc).lookup y).isSome = true
  | [], _, _, h => h
  | (n, k) :: r, acc, y, h => by
    unfold freesOf
    split
    · split
      · refine freesOf_acc ?_
        rw [List.lookup_cons]
        split
        · rfl
        · exact h
      · exact freesOf_acc h
    · exact freesOf_acc h
theorem freesOf_has {cells : List (Str × Addr)} {y : Str} {c : Addr} (hc : cells.lookup y = some c) : ∀ {names : List (Str × NameKind)} {acc : List (Str × Addr)}, (y, NameKind.free) ∈ names → ((freesOf cells names acc).lookup y).isSome = true
  | (n, k) :: r, acc, h => by
    unfold freesOf
    rcases List.mem_cons.mp h with q | q
    · cases q
      simp only [hc]
      rw [if_pos (by rfl)]
      refine freesOf_acc ?_
      rw [List.lookup_cons, beq_self_eq_true]
      rfl
    · split
      · split
        · exact freesOf_has hc q
        · exact freesOf_has hc q
      · exact freesOf_has hc q
theorem cellsFrom_mem : ∀ {names : List (Str × NameKind)} {h : Heap} {acc : List (Str × Addr)} {y : Str} {c : Addr}, (y, c) ∈ cellsFrom h.objs.size names acc → (y, c) ∈ acc ∨ (h.objs.size ≤ c ∧ (pushCells h names).IsCell c none)
  | [], _, _, _, _, m => .inl m
  | (n, k) :: r, h, acc, y, c, m => by
    unfold cellsFrom at m
    unfold pushCells
    split at m
    · rename_i hk
      rw [if_pos hk]
      have m' : (y, c) ∈ cellsFrom (h.push { cls := .type "cell", data := .cell none }).objs.size r ((n, h.objs.size) :: acc) := by rw [Heap.size_push]; exact m
      rcases cellsFrom_mem m' with q | ⟨q1, q2⟩
      · rcases List.mem_cons.mp q with e | q
        · cases e
          refine .inr ⟨Nat.le_refl _, _, pushCells_keeps _ _ _ _ (Heap.get?_push_size _ rfl), rfl⟩
        · exact .inl q
      · rw [Heap.size_push] at q1
        exact .inr ⟨by omega, q2⟩
    · rename_i hk
      rw [if_neg hk]
      exact cellsFrom_mem m
theorem cellsFrom_inj : ∀ {names : List (Str × NameKind)} {n : Nat} {acc : List (Str × Addr)}, (∀ y c, (y, c) ∈ acc → c < n) → (∀ x y c, (x, c) ∈ acc → (y, c) ∈ acc → x = y) → ∀ x y c, (x, c) ∈ cellsFrom n names acc → (y, c) ∈ cellsFrom n names acc → x = y
  | [], _, _, _, h => h
  | (nm, k) :: r, n, acc, hlt, h => by
    unfold cellsFrom
    split
    · refine cellsFrom_inj (n := n + 1) (acc := (nm, n) :: acc) (fun y c m => ?_) (fun x y c m1 m2 => ?_)
      · rcases List.mem_cons.mp m with e | m
        · cases e; exact Nat.lt_succ_self _
        · exact Nat.lt_succ_of_lt (hlt y c m)
      · rcases List.mem_cons.mp m1 with e1 | m1 <;> rcases List.mem_cons.mp m2 with e2 | m2
        · cases e1; cases e2; rfl
        · cases e1; exact absurd (hlt y _ m2) (Nat.lt_irrefl _)
        · cases e2; exact absurd (hlt x _ m1) (Nat.lt_irrefl _)
        · exact h x y c m1 m2
    · exact cellsFrom_inj hlt h
theorem cellsFrom_loA {lo : Nat} {y : Str} : ∀ {names : List (Str × NameKind)} {n : Nat} {acc : List (Str × Addr)}, lo ≤ n → (∀ c, acc.lookup y = some c → lo ≤ c) → ∀ c, (cellsFrom n names acc).lookup y = some c → lo ≤ c
  | [], _, _, _, h => h
  | (nm, k) :: r, n, acc, hn, h => by
    unfold cellsFrom
    split
    · refine cellsFrom_loA (n := n + 1) (by omega) fun c e => ?_
      rw [List.lookup_cons] at e
      split at e
      · cases e; exact hn
      · exact h c e
    · exact cellsFrom_loA hn h
theorem cellsFrom_lo {lo : Nat} {y : Str} : ∀ {names : List (Str × NameKind)} {n : Nat} {acc : List (Str × Addr)}, lo ≤ n → (y, NameKind.cell) ∈ names → ∀ c, (cellsFrom n names acc).lookup y = some c → lo ≤ c
  | (nm, k) :: r, n, acc, hn, h => by
    unfold cellsFrom
    rcases List.mem_cons.mp h with q | q
    · cases q
      rw [if_pos (by rfl)]
      refine cellsFrom_loA (n := n + 1) (by omega) fun c e => ?_
      rw [List.lookup_cons, beq_self_eq_true] at e
      cases e; exact hn
    · split
      · exact cellsFrom_lo (n := n + 1) (by omega) q
      · exact cellsFrom_lo hn q
theorem cellsFrom_other {y : Str} : ∀ {names : List (Str × NameKind)} {n : Nat} {acc : List (Str × Addr)}, (y, NameKind.cell) ∉ names → (cellsFrom n names acc).lookup y = acc.lookup y
  | [], _, _, _ => rfl
  | (nm, k) :: r, n, acc, h => by
    unfold cellsFrom
    split
    · rename_i hk
      rw [cellsFrom_other (fun z => h (List.mem_cons_of_mem _ z)), List.lookup_cons]
      have hne : (y == nm) = false := by
        cases e : y == nm with
        | false => rfl
        | true =>
          have e1 : y = nm := beq_iff_eq.mp e
          have e2 : k = NameKind.cell := by simpa using hk
          exact absurd (by rw [e1, ← e2]; exact List.mem_cons_self) h
      rw [hne]
    · exact cellsFrom_other fun z => h (List.mem_cons_of_mem _ z)
noncomputable def relab (env : Env) (y : Str) (k : NameKind) : NameKind := if (k == NameKind.free && env.scope.kind == .function && env.kindOf y == some .cell) then .cell else k
theorem relabel_lookup {env : Env} {y : Str} : ∀ (names : List (Str × NameKind)), (names.map fun (n, k) => if (k == NameKind.free && env.scope.kind == .function && env.kindOf n == some .cell) then (n, NameKind.cell) else (n, k)).lookup y = (names.lookup y).map (relab env y)
  | [] => rfl
  | (n, k) :: r => by
    have ih := relabel_lookup (env := env) (y := y) r
    show List.lookup y ((if (k == NameKind.free && env.scope.kind == .function && env.kindOf n == some .cell) = true then (n, NameKind.cell) else (n, k)) :: _) = _
    cases hx : y == n with
    | true =>
      have e := beq_iff_eq.mp hx
      subst e
      rw [List.lookup_cons, List.lookup_cons]
      by_cases hc : (k == NameKind.free && env.scope.kind == .function && env.kindOf y == some .cell) = true
      · simp only [relab, hc, if_true, beq_self_eq_true, Option.map_some]
      · simp only [relab, hc, beq_self_eq_true, Option.map_some]
        simp
    | false =>
      by_cases hc : (k == NameKind.free && env.scope.kind == .function && env.kindOf n == some .cell) = true
      · rw [if_pos hc, List.lookup_cons, List.lookup_cons]; simp only [hx]; exact ih
      · rw [if_neg hc, List.lookup_cons, List.lookup_cons]; simp only [hx]; exact ih
theorem mem_names {l : List (Str × NameKind)} (hn : (l.map (·.1)).Nodup) {y : Str} {k : NameKind} (h : (y, k) ∈ l) : l.lookup y = some k := by
  induction l with
  | nil => cases h
  | cons p r ih =>
    rw [List.lookup_cons]
    rcases List.mem_cons.mp h with e | h
    · rw [← e, beq_self_eq_true]
    · have hne : y ≠ p.1 := fun e => by
        have := (List.nodup_cons.mp hn).1
        exact this (by show p.1 ∈ _; rw [← e]; exact List.mem_map.mpr ⟨(y, k), h, rfl⟩)
      have : (y == p.1) = false := by simpa using hne
      rw [this]
      exact ih (List.nodup_cons.mp hn).2 h
noncomputable def compEnv (scope : Scope) (env : Env) (C : Addr) : Env :=
  { newEnv scope C env.globals (cellsFrom (C + 1) scope.names (freesOf env.cells scope.names [])) env.qual none .none (some env) builtinsNs with scope := relabel scope env }
noncomputable def compCx (X : Cx) (N' : List Str) (scope : Scope) (C : Addr) (s : Shared) (H : Hp) (fp : List Addr) : Cx where
  prog := X.prog
  w := X.w
  K := X.K
  mg := X.mg
  base := X.base
  A := X.A
  N := N'
  s₀ := s
  H₀ := H
  env := compEnv scope X.env C
  outer := X.stack
  stack := X.stack
  ex := fp
  fn := fun y => scope.names.lookup y == some .cell
  calm := X.calm
  pn := []
  xe := fun _ _ => False
structure CompOk (X : Cx) (k : Nat) (N' : List Str) (scope : Scope) : Prop where
  kind : scope.kind = .function
  names : (scope.names.map (·.1)).Nodup
  len : N'.length = X.N.length + k
  frees : (scope.names.all fun y => y.2 != .free || X.env.kindOf y.1 == some .cell || X.env.kindOf y.1 == some .free) = true
  outs : ((N'.zip X.N).all fun p => (p.1 == p.2 && scope.names.lookup p.1 == some .free) || scope.names.lookup p.1 == none || scope.names.lookup p.1 == some .globalImplicit) = true
theorem CompOk.free {X : Cx} {k : Nat} {N' : List Str} {scope : Scope} (S : CompOk X k N' scope) {y : Str} (h : (y, NameKind.free) ∈ scope.names) : X.env.kindOf y = some .cell ∨ X.env.kindOf y = some .free := by
  have := List.all_eq_true.mp S.frees (y, NameKind.free) h
  simp only [Bool.or_eq_true, bne_iff_ne, ne_eq, beq_iff_eq] at this
  rcases this with (h1 | h1) | h1
  · exact absurd trivial h1
  · exact .inl h1
  · exact .inr h1
theorem CompOk.out {X : Cx} {k : Nat} {N' : List Str} {scope : Scope} (S : CompOk X k N' scope) {i : Nat} {y : Str} (hi' : i < X.N.length) (h : N'[i]? = some y) (hv : Vis (relabel scope X.env) y) : X.N[i]? = some y ∧ scope.names.lookup y = some .free := by
  have e2 : X.N[i]? = some X.N[i] := by simp [hi']
  have m : (y, X.N[i]) ∈ N'.zip X.N := List.mem_of_getElem? (i := i) (by rw [List.getElem?_zip_eq_some]; exact ⟨h, e2⟩)
  have := List.all_eq_true.mp S.outs _ m
  simp only [Bool.or_eq_true, Bool.and_eq_true, beq_iff_eq] at this
  have hl : (relabel scope X.env).names.lookup y = (scope.names.lookup y).map (relab X.env y) := relabel_lookup _
  rcases this with (⟨h1, h2⟩ | h1) | h1
  · exact ⟨by rw [e2, ← h1], h2⟩
  · rw [h1] at hl
    rcases hv with z | z | z <;> (rw [hl] at z; cases z)
  · rw [h1] at hl
    have hr : relab X.env y .globalImplicit = .globalImplicit := rfl
    rw [Option.map_some, hr] at hl
    rcases hv with z | z | z <;> (rw [hl] at z; cases z)
end L2
set_option Elab.async false
set_option linter.all false
set_option maxRecDepth 100000
namespace L2
open PySem PySem.Spec PyProof.Rows
theorem Un.updNew {fs ex : List Addr} {P : Program} {w : World} {H H' : Hp} {h h' : Heap} {D : Addr} {o : HO} (u : Un fs ex H H' h h') (hok : HOk P w H h) (hD : h.objs.size ≤ D) : Un fs ex H (upd H' D o) h h' := by
  have ne : ∀ b ob, h.get? b = some ob → b ≠ D := fun b ob e z => absurd (Nat.lt_of_lt_of_le (Heap.lt_size e) hD) (by rw [z]; exact Nat.lt_irrefl _)
  have ne' : ∀ b x, H b = some x → b ≠ D := fun b x e z => absurd (Nat.lt_of_lt_of_le (hok.lt e) hD) (by rw [z]; exact Nat.lt_irrefl _)
  refine ⟨u.keep, u.slot, fun b ob e n hx => ?_, u.there, fun b xs e => ?_, fun b ob x e => ?_, fun b ps e => ?_⟩
  · rw [upd_ne (ne b ob e)]; exact u.free b ob e n hx
  · rw [upd_ne (ne' b _ e)]; exact u.tups b xs e
  · rw [upd_ne (ne' b _ e)]; exact u.frzs b ob x e
  · rw [upd_ne (ne' b _ e)]; exact u.tbls b ps e
theorem HOk.add {P : Program} {w : World} {H : Hp} {h : Heap} {D : Addr} {o : HO} (x : HOk P w H h) (hn : H D = none) (new : ObjOk P w (upd H D o) h D o) : HOk P w (upd H D o) h := fun b u e => by
  by_cases hb : b = D
  · subst hb; rw [upd_same] at e; cases e; exact new
  · rw [upd_ne hb] at e
    exact (x b u e).stay (fun c v _ q => q) (fun c q => by rw [upd_ne (ne_of_none q hn)]; exact q) fun c xs q => by rw [upd_ne (ne_of_none q hn)]; exact q
noncomputable def PTs (X : Cx) (ifs : List Expr) (t : TT) : Prop :=
  ∀ (pins : List (Addr × Obj)) (s : Shared) (σ : St) (H : Hp) (Q : Bool → Hp → Prop), Inv X pins σ H s → t σ H Q →
    wpAny (model X.prog X.w) X.A (forIn ifs true fun c r => if r = true then do let ok ← isTrue c X.env (eval c X.env); pure (ForInStep.yield ok) else pure (ForInStep.yield r)) (TP X pins σ Q) X.xe s
noncomputable def tYes : TT := fun _ H Q => Q true H
theorem pts_nil {X : Cx} : PTs X [] tYes := fun pins s σ H Q I h => wpAny_tests_nil ⟨H, I, h⟩
theorem pts_one {X : Cx} {c : Expr} {t : TT} (h : PT X c t) : PTs X [c] t := fun pins s σ H Q I q => wpAny_tests_one (h pins s σ H Q I q)
noncomputable def CompR (k : Nat) (g : TG) (tt : TT) (te : TE) (σ : St) (J : It) (H : Hp) (Fin : List V → Hp → Prop) : Prop :=
  ∃ W : Nat → Nat → List V → Hp → Prop, (∃ m, W 0 m [] H) ∧ ∀ i m ys H2, W i m ys H2 → ys.length ≤ sizeLine ∧
    ((J.stop i H2 ∧ Fin ys H2) ∨ (J.go i H2 ∧ ys.length < sizeLine ∧ ∀ x H3, J.yld i H2 x H3 → g x (σ ++ List.replicate k none) H3 fun σ4 H4 => (∃ τ, σ4 = σ ++ τ ∧ τ.length = k) ∧
      tt σ4 H4 fun b H5 => if b = true then te σ4 H5 fun v H6 => ∃ m', m' < m ∧ W (i + 1) m' (ys ++ [v]) H6 else ∃ m', m' < m ∧ W (i + 1) m' ys H5))
noncomputable def tComp (k : Nat) (wi : TI) (g : TG) (tt : TT) (te : TE) : TE := fun σ H Q => wi σ H fun J H1 => CompR k g tt te σ J H1 fun ys H2 => ∀ p, H2 p = none → Q (.ref p) (upd H2 p (.lst ys))
noncomputable def lsO (us : List Value) (n : Nat) : Obj := { cls := .type "list", data := .seq us.toArray n }
theorem weakT {X : Cx} {pins : List (Addr × Obj)} {τ σ : St} {H : Hp} {s : Shared} (I : Inv X pins (σ ++ τ) H s) : Inv X pins (σ ++ List.replicate τ.length none) H s :=
  I.weak (by simp) fun i v e => by
    by_cases hi : i < σ.length
    · rw [List.getElem?_append_left hi] at e ⊢
      exact e
    · rw [List.getElem?_append_right (by omega), List.getElem?_replicate] at e
      split at e <;> cases e
section
variable {X : Cx} {k : Nat} {N' : List Str} {scope : Scope} {pins : List (Addr × Obj)} {σ : St} {H2 : Hp} {s2 : Shared} {fp : List Addr}
noncomputable abbrev compHeap (scope : Scope) (s2 : Shared) : Heap := pushCells ((s2.heap.push (lsO [] 0)).push { cls := .type "dict", data := .dict #[] }) scope.names
theorem comp_inv (S : CompOk X k N' scope) (I2 : Inv X pins σ H2 s2) (f2 : ∀ b ∈ fp, FpOk X pins H2 b) (hfp : ∀ b ∈ fp, b < s2.heap.objs.size) :
    Inv (compCx X N' scope (s2.heap.objs.size + 1) s2 H2 fp) [(s2.heap.objs.size, lsO [] 0)] (σ ++ List.replicate k none) H2 { s2 with heap := compHeap scope s2 } := by
  have e1 : (s2.heap.push (lsO [] 0)).objs.size = s2.heap.objs.size + 1 := Heap.size_push ..
  have e2 : ((s2.heap.push (lsO [] 0)).push { cls := .type "dict", data := .dict #[] }).objs.size = s2.heap.objs.size + 1 + 1 := by rw [Heap.size_push, e1]
  have keep : ∀ b o, s2.heap.get? b = some o → (compHeap scope s2).get? b = some o := fun b o e => pushCells_keeps _ _ b o (Heap.get?_push_of_some _ (Heap.get?_push_of_some _ e))
  have hsub : ∀ y c, (y, c) ∈ freesOf X.env.cells scope.names [] → X.env.cells.lookup y = some c := freesOf_sub (fun _ _ m => nomatch m)
  have cmem : ∀ y c, (y, c) ∈ cellsFrom (s2.heap.objs.size + 1 + 1) scope.names (freesOf X.env.cells scope.names []) → X.env.cells.lookup y = some c ∨ (s2.heap.objs.size + 1 + 1 ≤ c ∧ (compHeap scope s2).IsCell c none) := fun y c m => by
    have m' : (y, c) ∈ cellsFrom ((s2.heap.push (lsO [] 0)).push { cls := .type "dict", data := .dict #[] }).objs.size scope.names (freesOf X.env.cells scope.names []) := by rw [e2]; exact m
    rcases cellsFrom_mem m' with q | ⟨q1, q2⟩
    · exact .inl (hsub y c q)
    · rw [e2] at q1; exact .inr ⟨q1, q2⟩
  have clt : ∀ y c, X.env.cells.lookup y = some c → c < s2.heap.objs.size := fun y c e => by obtain ⟨v, z⟩ := I2.cell y c e; exact z.lt
  have hl : ∀ y, (relabel scope X.env).names.lookup y = (scope.names.lookup y).map (relab X.env y) := fun y => relabel_lookup _
  have ok : (compCx X N' scope (s2.heap.objs.size + 1) s2 H2 fp).Ok := by
    refine ⟨I2.ok.mod, S.kind, I2.ok.glob, I2.ok.blt, Nat.le_succ _, fun x y c h1 h2 => ?_, fun x hx => ?_, fun x c hf h => ?_, I2.ok.hd, I2.ok.frames, .inl rfl, fun b hb => ⟨?_, fun x c h z => ?_⟩, I2.bs, Nat.le_trans I2.ok.bsz I2.sz, fun b o e hb => ?_, fun b hb z => ?_, I2.stack, I2.stkFree⟩
    · refine cellsFrom_inj (n := s2.heap.objs.size + 1 + 1) (names := scope.names) (acc := freesOf X.env.cells scope.names []) (fun y c m => ?_) (fun x y c m1 m2 => ?_) x y c (PySem.mem_of_lookup h1) (PySem.mem_of_lookup h2)
      · exact Nat.lt_of_lt_of_le (clt y c (hsub y c m)) (by omega)
      · exact I2.ok.inj x y c (hsub x c m1) (hsub y c m2)
    · have hx' : (relabel scope X.env).names.lookup x = some .cell ∨ (relabel scope X.env).names.lookup x = some .free := hx
      rw [hl x] at hx'
      have : scope.names.lookup x = some .cell ∨ scope.names.lookup x = some .free := by
        cases e : scope.names.lookup x with
        | none => rw [e] at hx'; rcases hx' with z | z <;> cases z
        | some kd =>
          rw [e, Option.map_some] at hx'
          cases kd <;> first
            | exact .inl rfl
            | exact .inr rfl
            | (rcases hx' with z | z <;> (have z' := Option.some.inj z; unfold relab at z'; simp at z'))
      rcases this with q | q
      · exact Option.isSome_iff_exists.mp (PySem.W.cellsFrom_some scope.names (s2.heap.objs.size + 1 + 1) _ (.inl q))
      · have qm := PySem.mem_of_lookup q
        have hk := S.free qm
        obtain ⟨c, hc⟩ := I2.ok.has x hk
        exact Option.isSome_iff_exists.mp (PySem.W.cellsFrom_some scope.names (s2.heap.objs.size + 1 + 1) _ (.inr (freesOf_has hc qm)))
    · have hf' : (scope.names.lookup x == some .cell) = true := hf
      have := cellsFrom_lo (lo := s2.heap.objs.size) (n := s2.heap.objs.size + 1 + 1) (acc := freesOf X.env.cells scope.names []) (by omega) (PySem.mem_of_lookup (beq_iff_eq.mp hf')) c h
      exact this
    · have := hfp b hb
      show b ≠ s2.heap.objs.size + 1
      exact Nat.ne_of_lt (Nat.lt_of_lt_of_le this (Nat.le_succ _))
    · have q := hfp b hb
      rcases cmem x c (PySem.mem_of_lookup h) with w | ⟨w, _⟩
      · exact (f2 b hb).2.2.2.2.1 x c w z
      · subst z; exact absurd (Nat.lt_of_lt_of_le q (Nat.le_trans (by omega) w)) (Nat.lt_irrefl _)
    · rcases (f2 b hb).2.2.2.1 with z | z
      · exact I2.ok.noex b o e z
      · have := Heap.lt_size e
        have := I2.ok.bsz
        exact absurd (Nat.lt_of_lt_of_le (Heap.lt_size e) (Nat.le_trans I2.ok.bsz z)) (Nat.lt_irrefl _)
    · rcases List.mem_cons.mp (I2.stkSub b z) with q | q
      · exact (f2 b hb).2.1 q
      · exact (f2 b hb).2.2.1 q
  obtain ⟨m, hn, hloc⟩ := id I2.loc
  refine ⟨ok, rfl, I2.bare, Un.kept keep, ⟨fun _ => none, ?_, fun i y v h1 h2 h3 => ?_⟩, fun y c h => ?_, I2.hok.fresh (Nat.le_succ _), fun y c h => ?_, fun p hp => ?_, I2.hok.kept keep, ?_⟩
  · have := (Heap.Ns.new (s2.heap.push (lsO [] 0)) (.type "dict")).keeps (pushCells_keeps scope.names _)
    rw [e1] at this
    exact this
  · by_cases hi : i < σ.length
    · have h3' : Vis (relabel scope X.env) y := h3
      obtain ⟨o1, o2⟩ := S.out (by rw [← I2.len]; exact hi) h1 h3'
      have hk := S.free (PySem.mem_of_lookup o2)
      have hs : σ[i]? = some (some v) := by
        rw [List.getElem?_append_left hi] at h2
        exact h2
      obtain ⟨u, r, l⟩ := hloc i y v o1 hs (.inr hk)
      refine ⟨u, r, ?_⟩
      rcases l with ⟨l, _⟩ | ⟨_, c, hc, hcell⟩
      · rcases hk with z | z <;> (rw [l] at z; cases z)
      · refine .inr ⟨?_, c, ?_, hcell.keeps keep⟩
        · show (relabel scope X.env).names.lookup y = some .cell ∨ (relabel scope X.env).names.lookup y = some .free
          rw [hl y, o2, Option.map_some]
          unfold relab
          split
          · exact .inl rfl
          · exact .inr rfl
        · show (cellsFrom (s2.heap.objs.size + 1 + 1) scope.names (freesOf X.env.cells scope.names [])).lookup y = some c
          rw [cellsFrom_other (fun z => by have := mem_names S.names z; rw [o2] at this; cases this)]
          obtain ⟨c', hc'⟩ := Option.isSome_iff_exists.mp (freesOf_has (acc := []) hc (PySem.mem_of_lookup o2))
          have := hsub y c' (PySem.mem_of_lookup hc')
          rw [hc] at this; cases this
          exact hc'
    · rw [List.getElem?_append_right (by omega), List.getElem?_replicate] at h2
      split at h2 <;> cases h2
  · rcases cmem y c (PySem.mem_of_lookup h) with w | ⟨_, w⟩
    · obtain ⟨v, z⟩ := I2.cell y c w
      exact ⟨v, z.keeps keep⟩
    · exact ⟨_, w⟩
  · rcases cmem y c (PySem.mem_of_lookup h) with w | ⟨w, _⟩
    · exact I2.freeC y c w
    · exact I2.hok.fresh (by omega)
  · have e : p = (s2.heap.objs.size, lsO [] 0) := by
      have : p ∈ [(s2.heap.objs.size, lsO [] 0)] := hp
      simpa using this
    subst e
    refine ⟨pushCells_keeps _ _ _ _ (Heap.get?_push_of_some _ (Heap.get?_push_size _ rfl)), I2.hok.fresh (Nat.le_refl _), ?_, fun z => ?_, fun v z => nomatch z⟩
    · show s2.heap.objs.size ≠ s2.heap.objs.size + 1
      omega
    · have z' : s2.heap.objs.size ∈ frs X.stack := z
      rcases List.mem_cons.mp (I2.stkSub _ z') with q | q
      · exact absurd I2.lt (by rw [← q]; exact Nat.lt_irrefl _)
      · exact I2.nofs (Nat.le_refl _) q
  · rw [List.length_append, List.length_replicate, I2.len]
    exact S.len.symm
theorem comp_out {us : List Value} {n : Nat} {ys : List V} {H' : Hp} {s' : Shared} {σ' : St} {C : Addr} (I2 : Inv X pins σ H2 s2) (f2 : ∀ b ∈ fp, FpOk X pins H2 b)
    (I3 : Inv (compCx X N' scope C s2 H2 fp) [(s2.heap.objs.size, lsO us n)] σ' H' s') (r : Vals ys us) (hz : ys.length ≤ sizeLine) : Inv X pins σ (upd H' s2.heap.objs.size (.lst ys)) s' := by
  obtain ⟨e, hn, _⟩ := I3.pin (s2.heap.objs.size, lsO us n) (List.mem_append_right _ (List.mem_singleton.mpr rfl))
  have u : Un (frs X.stack) fp H2 H' s2.heap s'.heap := I3.base
  exact I2.call' (ch := fp) I3.os (u.updNew I2.hok (Nat.le_refl _)) (I3.hok.add hn ⟨hz, us, n, r, e⟩) I3.bare fun b hb => ⟨(f2 b hb).2.2.2.1, (f2 b hb).2.1, (f2 b hb).2.2.2.2⟩
end
theorem comp_run {X : Cx} {k : Nat} {N' : List Str} {scope : Scope} {pins : List (Addr × Obj)} {σ : St} {H2 : Hp} {s2 : Shared} {fp : List Addr} {elt tg iter : Expr} {ifs : List Expr} {pos : Pos} {it : Addr} {tn : Nat → Heap → Prop} {J : It} {g : TG} {tt : TT} {te : TE} {Fin : List V → Hp → Prop} {E : Value → Shared → Prop} {RR : Value → Addr → Result → Shared → Prop}
    (hc : X.calm = true) (S : CompOk X k N' scope) (hg : ∀ C s H fp, PG (compCx X N' scope C s H fp) tg g) (ht : ∀ C s H fp, PTs (compCx X N' scope C s H fp) ifs tt) (he : ∀ C s H fp, PE (compCx X N' scope C s H fp) elt te)
    (I2 : Inv X pins σ H2 s2) (T : Turn X.prog X.w X.K tg J fp it tn) (st2 : tn 0 s2.heap) (f2 : ∀ b ∈ fp, FpOk X pins H2 b) (R : CompR k g tt te σ J H2 Fin)
    (hRR : ∀ C ys H' s' m', Inv X pins σ (upd H' s2.heap.objs.size (.lst ys)) s' → s'.heap.Ns C m' → H' s2.heap.objs.size = none → upd H' s2.heap.objs.size (.lst ys) C = none → C ≠ X.env.locals → X.s₀.heap.objs.size ≤ C → s2.heap.objs.size < C →
      Fin ys H' → RR (.ref s2.heap.objs.size) C (.ok .next) s') :
    wpAny (model X.prog X.w) X.A (newList []) (fun acc s₃ => wpAny (model X.prog X.w) X.A (newFunctionEnv scope X.env.globals (freesOf X.env.cells scope.names []) [] X.env.qual none .none (some X.env)) (fun cenv s₄ =>
      codeAny (model X.prog X.w) X.A (.compStart (.ListComp elt [⟨tg, iter, ifs, 0⟩] scope pos) 0 (.ref it) acc { cenv with scope := relabel scope X.env }) (RR acc cenv.locals) s₄) E s₃) E s2 := by
  refine wpAny_newObj_type (newEnv_comp ?_)
  have e1 : (s2.heap.push (lsO [] 0)).objs.size = s2.heap.objs.size + 1 := Heap.size_push ..
  have hfp : ∀ b ∈ fp, b < s2.heap.objs.size := fun b hb => by obtain ⟨o, e, _⟩ := T.obj _ _ st2 b hb; exact Heap.lt_size e
  obtain ⟨W, ⟨m0, w0⟩, turn⟩ := R
  have I3 := comp_inv S I2 f2 hfp
  have st3 : tn 0 (compHeap scope s2) := T.keep _ _ _ st2 fun b hb o e => pushCells_keeps _ _ b o (Heap.get?_push_of_some _ (Heap.get?_push_of_some _ e))
  have hDC : s2.heap.objs.size ≠ s2.heap.objs.size + 1 := by omega
  -- what stays true of the iterator's objects
  have stat : ∀ {H' : Hp} {us : List Value} {n : Nat}, (∀ b ∈ fp, H' b = none) → ∀ b ∈ fp, FpOk (compCx X N' scope (s2.heap.objs.size + 1) s2 H2 fp) [(s2.heap.objs.size, lsO us n)] H' b := fun {H' us n} hn b hb => by
    have q := I3.ok.exf b hb
    refine ⟨hn b hb, q.1, I3.ok.exfs b hb, .inl hb, q.2, fun p hp z => ?_⟩
    have hp' : p ∈ [(s2.heap.objs.size, lsO us n)] := hp
    have e : p = (s2.heap.objs.size, lsO us n) := by simpa using hp'
    subst e
    have := hfp b hb
    have z' : s2.heap.objs.size = b := z
    exact absurd this (by rw [z']; exact Nat.lt_irrefl _)
  have loop : ∀ it', it' = Value.ref it → codeAny (model X.prog X.w) X.A (.compLoop (.ListComp elt [⟨tg, iter, ifs, 0⟩] scope pos) 0 it' (.ref s2.heap.objs.size) (compEnv scope X.env (s2.heap.objs.size + 1))) (RR (.ref s2.heap.objs.size) (s2.heap.objs.size + 1)) { s2 with heap := compHeap scope s2 } := by
    rintro _ rfl
    refine compLoop_gen (fun n s' => ∃ i ys us cnt H', Inv (compCx X N' scope (s2.heap.objs.size + 1) s2 H2 fp) [(s2.heap.objs.size, lsO us cnt)] (σ ++ List.replicate k none) H' s' ∧ tn i s'.heap ∧ (∀ b ∈ fp, H' b = none) ∧ Vals ys us ∧ W i n ys H') ?_ m0
      ⟨0, [], [], 0, H2, I3, st3, fun b hb => (f2 b hb).1, .nil, w0⟩
    rintro n s3 ⟨i, ys, us, cnt, H3, J3, st, fr, r3, w3⟩
    obtain ⟨hz, hw⟩ := turn i n ys H3 w3
    rcases hw with ⟨stop, fin⟩ | ⟨go, hlt, step⟩
    · refine thn (T.done (compCx X N' scope (s2.heap.objs.size + 1) s2 H2 fp) rfl rfl rfl hc i _ s3 _ H3 _ J3 (stat fr) st stop) fun rr s4 ⟨hr, I4⟩ => ?_
      subst hr
      obtain ⟨m', hn', _⟩ := id I4.loc
      obtain ⟨eD, nD, _⟩ := I4.pin (s2.heap.objs.size, lsO us cnt) (List.mem_append_right _ (List.mem_singleton.mpr rfl))
      refine hRR (s2.heap.objs.size + 1) ys H3 s4 m' (comp_out I2 f2 I4 r3 hz) hn' nD ?_ ?_ ?_ (Nat.lt_succ_self _) fin
      · rw [upd_ne (Ne.symm hDC)]; exact I4.free
      · exact Ne.symm (Nat.ne_of_lt (Nat.lt_of_lt_of_le I2.lt (Nat.le_succ _)))
      · have := I2.sz; omega
    · refine thn (T.item (compCx X N' scope (s2.heap.objs.size + 1) s2 H2 fp) rfl rfl rfl hc i _ s3 _ H3 _ J3 (stat fr) st go) fun rr s4 ⟨u, hr, h4⟩ => ?_
      subst hr
      refine thn h4 fun _ s5 hh0 => ?_
      obtain ⟨x, H5, I5, r5, y5, st5, fr5⟩ := hh0
      have I5' := I5.pinned (stat fr5) (T.obj _ _ st5)
      refine thn (hg _ _ _ _ _ s5 _ H5 x u _ I5' r5 (step x H5 y5)) fun _ s6 ⟨σ6, H6, I6, ⟨τ, e6, l6⟩, q6⟩ => ?_
      subst e6
      refine thn (ht _ _ _ _ _ s6 _ H6 _ I6 q6) fun ok s7 hh0 => ?_
      obtain ⟨H7, I7, q7⟩ := hh0
      have kept : ∀ {s' : Shared} {H' : Hp} {σ' : St}, Inv (compCx X N' scope (s2.heap.objs.size + 1) s2 H2 fp) ([(s2.heap.objs.size, lsO us cnt)] ++ pinsAt fp s5.heap) σ' H' s' → tn (i + 1) s'.heap ∧ ∀ b ∈ fp, H' b = none := fun {s' H' σ'} I' => by
        refine ⟨T.keep _ _ _ st5 fun b hb o e => (I'.pin (b, o) (List.mem_append_right _ (List.mem_append_right _ (mem_pinsAt hb e)))).1, fun b hb => ?_⟩
        obtain ⟨o, e, d⟩ := T.obj _ _ st5 b hb
        exact (I'.pin (b, o) (List.mem_append_right _ (List.mem_append_right _ (mem_pinsAt hb e)))).2.1
      cases ok with
      | false =>
        rw [if_neg (by decide)] at q7 ⊢
        obtain ⟨m', hm, w7⟩ := q7
        have := weakT I7.unpinned
        rw [l6] at this
        exact ⟨m', hm, i + 1, ys, us, cnt, H7, this, (kept I7).1, (kept I7).2, r3, w7⟩
      | true =>
        rw [if_pos rfl] at q7 ⊢
        refine thn (he _ _ _ _ _ s7 _ H7 _ I7 q7) fun u8 s8 hh0 => ?_
        obtain ⟨v, H8, I8, r8, m', hm, w8⟩ := hh0
        obtain ⟨eD, nD, neD, nfD, dD⟩ := I8.pin (s2.heap.objs.size, lsO us cnt) (List.mem_append_right _ (List.mem_append_left _ (List.mem_singleton.mpr rfl)))
        refine append_at eD (fun h9 hs9 hD9 => ?_) (hsz := by rw [List.size_toArray, ← r3.length]; exact Nat.le_of_lt hlt)
        have Ia := I8.pins_of (pins' := pinsAt fp s5.heap) fun p hp => I8.pin p (List.mem_append_right _ (List.mem_append_right _ hp))
        have nfp : ∀ p ∈ pinsAt fp s5.heap, p.1 ≠ s2.heap.objs.size := fun p hp z => by
          have := hfp p.1 (of_pinsAt hp).1
          exact absurd this (by rw [z]; exact Nat.lt_irrefl _)
        have Ib := Ia.turned (h' := h9) (t' := s8.toks) (it := s2.heap.objs.size) (fun b o hb e => hs9.extBut b o hb e) nD neD (.inr (Nat.le_refl _)) (fun y c h z => by
            obtain ⟨vv, o, ho, hd⟩ := I8.cell y c h
            rw [z, eD] at ho
            cases ho
            cases hd) (fun p hp => nfp p (by
            have hp' : p ∈ [] ++ pinsAt fp s5.heap := hp
            simpa using hp'))
        have Ic := Ib.pins_of (pins' := [(s2.heap.objs.size, lsO (us ++ [u8]) (cnt + 1))]) fun p hp => by
          have e : p = (s2.heap.objs.size, lsO (us ++ [u8]) (cnt + 1)) := by simpa using hp
          subst e
          refine ⟨?_, nD, neD, nfD, fun v z => nomatch z⟩
          show h9.get? s2.heap.objs.size = _
          rw [hD9]
          unfold lsO
          simp
        have Id := weakT Ic
        rw [l6] at Id
        have kp := kept I8
        refine ⟨m', hm, i + 1, ys ++ [v], us ++ [u8], cnt + 1, H8, Id, T.keep _ _ _ kp.1 fun b hb o e => hs9.extBut b o (fun z => by
          have := hfp b hb
          have z' : b = s2.heap.objs.size := z
          exact absurd this (by rw [z']; exact Nat.lt_irrefl _)) e, kp.2, Vals.append r3 (.cons r8 .nil), w8⟩
  have hC : (s2.heap.push { cls := .type "list", dict := none, data := .seq ([] : List Value).toArray }).objs.size = s2.heap.objs.size + 1 := Heap.size_push ..
  have fin := codeAny_compStart_list (loop _ rfl) (T.self X.A 0 _ _ _ st3 (loop _ rfl))
  dsimp only at fin ⊢
  rw [hC]
  exact fin
theorem CompOk.locs {X : Cx} {k : Nat} {N' : List Str} {scope : Scope} (S : CompOk X k N' scope) : ∀ y ∈ scope.names, y.2 = .local → scope.names.lookup y.1 = some .local := fun y hy e => by
  obtain ⟨n, kd⟩ := y
  have e' : kd = .local := e
  subst e'
  exact mem_names S.names hy
theorem ns_ne_cell {h : Heap} {C c : Addr} {m : Str → Option Value} {v : Option Value} (hn : h.Ns C m) (hc : h.IsCell c v) : c ≠ C := fun z => by
  obtain ⟨o, es, ep, ho, hd, _⟩ := hn
  obtain ⟨o', ho', hd'⟩ := hc
  rw [z, ho] at ho'
  cases ho'
  rw [hd] at hd'
  cases hd'
section
variable {X : Cx} {k : Nat} {N' : List Str} {scope : Scope} {elt tg iter : Expr} {ifs : List Expr} {pos : Pos} {wi : TI} {g : TG} {tt : TT} {te : TE}
theorem pe_comp (hc : X.calm = true) (S : CompOk X k N' scope) (hi : PI X tg iter wi) (hg : ∀ C s H fp, PG (compCx X N' scope C s H fp) tg g) (ht : ∀ C s H fp, PTs (compCx X N' scope C s H fp) ifs tt) (he : ∀ C s H fp, PE (compCx X N' scope C s H fp) elt te)
    (hs : ∀ x, foldedSetIterable iter X.env x = pure x := by intro _; rfl) : PE X (.ListComp elt [⟨tg, iter, ifs, 0⟩] scope pos) (tComp k wi g tt te) := by
  intro pins s σ H Q I h
  rw [eval_ListComp]
  refine wpAny_comprehension_free (use := none) rfl hs (closureFor_eq fun y hy e => ?_) S.kind S.locs (thn (hi pins s σ H _ I h) fun v s1 h1 => thn h1 fun itv s2 h2 => ?_)
  · obtain ⟨n, kd⟩ := y
    have e' : kd = .free := e
    subst e'
    exact I.ok.has n (S.free hy)
  · obtain ⟨it, fp, tn, J, H2, e, I2, T, st2, f2, R⟩ := h2
    subst e
    refine comp_run hc S hg ht he I2 T st2 f2 R ?_
    intro C ys H' s' m' I' hn hD hCn hCL hCs hCD fin
    refine ⟨m', hn, fun h' hs' => ⟨.ref s2.heap.objs.size, _, I'.turned (h' := h') (t' := s'.toks) (it := C) (fun b o hb e => hs'.extBut b o hb e) hCn hCL (.inr hCs) (fun x c h => ?_) (fun p hp z => ?_), rfl, fin _ hD⟩⟩
    · obtain ⟨v, q⟩ := I'.cell x c h
      exact ns_ne_cell hn q
    · have := Heap.lt_size (I2.pin p hp).1
      exact absurd (Nat.lt_trans this hCD) (by rw [z]; exact Nat.lt_irrefl _)
end
end L2
set_option Elab.async false
set_option linter.all false
set_option maxRecDepth 100000
namespace L3
open PySem PySem.Spec PyProof.Rows PySem.W L2
section
variable {prog : Program} {w : World} {A : Around} {E : Value → Shared → Prop} {s : Shared} {K : Frag} {x C : Addr} {ox : Obj}
structure XAt (h : Heap) (x : Addr) (ox : Obj) (C : Addr) : Prop where
  at_ : h.get? x = some ox
  cls : ox.cls = .ref C
theorem XAt.type {M : Model} {h : Heap} (I : XAt h x ox C) : Looks M h (typeOf (.ref x)) (.ref C) := I.cls ▸ (Looks.ld I.at_).andThen .now
structure XCls (K : Frag) (C : Addr) : Prop where
  ci : (clsIn K C).isSome = true
  ga : findIn K (.ref C) "__getattribute__" = some (some (.builtin "BaseException.__getattribute__"))
  gt : findIn K (.ref C) "__getattr__" = some none
  cl : findIn K (.ref C) "__class__" = some (some (.builtin "object.__class__"))
  cg : specialIn K (.builtin "object.__class__") "__get__" = some (some (.builtin "getset_descriptor.__get__"))
  ct : takesIn K (.builtin "object.__class__") = some true
  mo : mroIn K C (.type "object") = some true
  mb : mroIn K C (.type "BaseException") = some true
theorem xc_find {M : Model} {h : Heap} (X : K.In h) (I : XAt h x ox C) (XC : XCls K C) : Looks M h (Builtin.ObjectAttr.find (.ref x) (.ref C) "__class__") (.bind (.builtin "getset_descriptor.__get__") (.builtin "object.__class__")) := by
  have L1 := looks_findIn (M := M) X XC.cl
  have L2 : Looks M h (Builtin.ObjectAttr.getOf (some (.builtin "object.__class__"))) _ := looks_specialIn (M := M) X XC.cg
  have L3 := looks_takesIn (M := M) X XC.ct
  exact L1.andThen (L2.andThen ((show Looks M h (Builtin.ObjectAttr.dataDescriptor? (some (.builtin "object.__class__")) (some (.builtin "getset_descriptor.__get__"))) (some ((.builtin "getset_descriptor.__get__"), (.builtin "object.__class__"))) from L3.andThen .now).andThen (Looks.tag .now)))
theorem xc_classget {tp : Value} {R : Result → Shared → Prop} (X : K.In s.heap) (I : XAt s.heap x ox C) (hm : mroIn K C (.type "object") = some true)
    (h : R (.ok (.ret (.ref C))) s) : codeAny (model prog w) A (.call (.builtin "getset_descriptor.__get__") ⟨[.builtin "object.__class__", .ref x, tp], []⟩) R s := by
  obtain ⟨hh, g, dr, t, os⟩ := s
  have L0 := I.type (M := model prog w)
  have L1 := looks_mroIn (M := model prog w) X hm
  refine codeAny_call_builtin KF.slot_gs.plain KF.entry_gs (KF.slot_gs.check _ _ _ _ _ _ _ _ KF.type_class (KF.args_gs _ _ _) ?_)
  unfold Builtin.«getset_descriptor.__get__» Builtin.Getset_descriptor.descrGet
  rw [dga_obj]
  refine wpAny_bind (wpAny_pure ?_)
  unfold Builtin.Getset_descriptor.descrGetter Builtin.Getset_descriptor.descrCheckInstance Builtin.Getset_descriptor.descrNameAndClass isInstance
  simp only [KF.owner_class]
  repeat lk
  refine ⟨Code.quiet_builtin _ (by decide +kernel), codeAny_builtin KF.entry_class ?_⟩
  unfold Builtin.«object.__class__» shownTypeOf
  repeat lk
  exact h
theorem xc_check {M : Model} {nameV : Value} {Q : Unit → Shared → Prop} (X : K.In s.heap) (I : XAt s.heap x ox C) (XC : XCls K C) (hq : Q () s) : wpAny M A (checkBuiltinCall "BaseException.__getattribute__" ⟨[.ref x, nameV], []⟩) Q E s := by
  obtain ⟨hh, g, d, t, os⟩ := s
  have L0 := I.type (M := M)
  have L1 := looks_mroIn (M := M) X XC.mb
  have hk : builtinKind "BaseException.__getattribute__" = some .slot := by decide +kernel
  have hsplit : splitId "BaseException.__getattribute__" = some ("BaseException", "__getattribute__") := by decide +kernel
  have ha := PySem.F.args_bexc_ga (.ref x) nameV
  simp only [checkBuiltinCall, hk, hsplit]
  unfold isInstance
  repeat lk
  exact hq
theorem xc_ga {tk : Tok} {R : Result → Shared → Prop} (X : K.In s.heap) (I : XAt s.heap x ox C) (XC : XCls K C) (h : R (.ok (.ret (.ref C))) s) :
    codeAny (model prog w) A (.call (.builtin "BaseException.__getattribute__") ⟨[.ref x, .str "__class__" tk], []⟩) R s := by
  refine codeAny_call_builtin PySem.F.excAttr_ValueError.ga.plain PySem.F.entry_bexc_ga (xc_check X I XC ?_)
  obtain ⟨hh, g, d, t, os⟩ := s
  have L0 := I.type (M := model prog w)
  have L1 := xc_find (M := model prog w) X I XC
  show wpAny _ _ (Builtin.«object.__getattribute__» ⟨[.ref x, .str "__class__" tk], []⟩) _ _ _
  refine wpAny_bind (wpAny_pure ?_)
  refine wpAny_bind (wpAny_pure ?_)
  refine wpAny_bind (L0.at (wpAny_bind (L1.at ?_)))
  show wpAny _ _ (holding [.builtin "object.__class__"] (call (.builtin "getset_descriptor.__get__") [.builtin "object.__class__", .ref x, .ref C]) >>= ret) _ _ _
  exact wpAny_bind (wpAny_holding (wpAny_call (xc_classget X I XC.mo (wpAny_pure h))))
theorem xc_class {Q : Option Value → Shared → Prop} (X : K.In s.heap) (I : XAt s.heap x ox C) (XC : XCls K C) (h : Q (some (.ref C)) { s with toks := s.toks + 1 }) : wpAny (model prog w) A (getAttr? (.ref x) "__class__") Q E s := by
  obtain ⟨hh, g, d, t, os⟩ := s
  have L0 := I.type (M := model prog w)
  have L1 := looks_findIn (M := model prog w) X XC.ga
  have L2 := looks_findIn (M := model prog w) X XC.gt
  have f3 := PySem.F.excAttr_ValueError.ga.bind (.ref x)
  unfold getAttr? getAttrBy? getAttrBy
  refine wpAny_bind (wpAny_mkText (wpAny_bind (wpAny_attempt (wpAny_holding (wpAny_bind (L0.at (wpAny_bind (L1.at ?_))))))))
  show wpAny _ _ (getAttrByItsOwn _ _ _ _ _ _) _ _ _
  unfold getAttrByItsOwn
  refine wpAny_bind (L2.at ?_)
  refine wpAny_bind (wpAny_attempt (wpAny_holding ?_))
  show wpAny _ _ (boundAndCalled _ _ _) _ _ _
  unfold boundAndCalled
  rw [f3]
  refine wpAny_bind (wpAny_pure ?_)
  show wpAny _ _ (call (.builtin "BaseException.__getattribute__") [.ref x, .str "__class__" t]) _ _ _
  refine wpAny_call (xc_ga (s := ⟨hh, g, d, t + 1, os⟩) X I XC ?_)
  exact handed_on rfl (wpAny_pure h)
theorem looks_isType {M : Model} {h : Heap} {D : Addr} (X : K.In h) (e : (clsIn K D).isSome = true) : Looks M h (isType (.ref D)) true := by
  unfold clsIn at e
  split at e
  · rename_i c' d' cd' sl' ho
    intro A' Q' E' s' k q
    unfold isType loadHead
    exact wpAny_bind (wpAny_loadPart (k _ _ (X _ _ ho)) (wpAny_pure q))
  · cases e
theorem xc_nested {c : Value} {dep : Int} {tk : Tok} {Q : Fin → Shared → Prop} (X : K.In s.heap) (I : XAt s.heap x ox C) (XC : XCls K C) (hty : Looks (model prog w) s.heap (typeOf c) (.type "type")) (his : Looks (model prog w) s.heap (isType c) true)
    (hne : (Value.ref C == c) = false) (hsub : Looks (model prog w) s.heap (isSubtype (.ref C) c) false) (h : Q (.done (.ret (.bool false))) { s with toks := s.toks + 1 }) :
    wpAny (model prog w) A (Builtin.«isinstance.nested» ⟨[.ref x, c, .int dep tk], []⟩) Q E s := by
  have hisD := looks_isType (M := model prog w) X XC.ci
  obtain ⟨h0, g, d, tt, os⟩ := s
  have L0 := I.type (M := model prog w)
  have LI : Looks (model prog w) h0 (isInstance (.ref x) c) false := L0.andThen hsub
  unfold Builtin.«isinstance.nested»
  refine wpAny_bind (L0.at ?_)
  rw [if_neg (fun q => by rw [hne] at q; exact Bool.noConfusion q)]
  refine wpAny_bind (hty.at ?_)
  rw [if_pos (by decide)]
  k_delta "plainIsInstance"
  refine wpAny_bind (wpAny_bind (his.at ?_))
  simp only [Bool.not_true, Bool.false_eq_true, if_false]
  refine wpAny_bind (LI.at ?_)
  simp only [Bool.false_eq_true, if_false]
  refine wpAny_bind (xc_class X I XC ?_)
  refine wpAny_bind (hisD.at ?_)
  simp only [Bool.not_true, Bool.false_eq_true, if_false]
  refine wpAny_bind (wpAny_rule ?_)
  refine hsub.at ?_
  first
    | exact wpAny_pure h
    | exact wpAny_pure (wpAny_pure h)
    | exact wpAny_bind (wpAny_pure (wpAny_pure h))
theorem xc_no {D : Addr} {Q : Value → Shared → Prop} (X : K.In s.heap) (I : XAt s.heap x ox C) (XC : XCls K C) (e : kin_not K C D = true) (h : Q (.bool false) { s with toks := s.toks + 1 }) : wpAny (model prog w) A (call (.builtin "isinstance") [.ref x, .ref D]) Q E s := by
  unfold kin_not at e
  rw [Bool.and_eq_true, Bool.and_eq_true, Bool.and_eq_true] at e
  obtain ⟨⟨⟨e0, e1⟩, e2⟩, e3⟩ := e
  have hne : (Value.ref C == Value.ref D) = false := Bool.eq_false_iff.mpr fun q => of_decide_eq_true e0 (Value.ref.inj (beq_iff_eq.mp q))
  exact call_isinstance (S := fun _ R s => (K.In s.heap ∧ XAt s.heap x ox C) ∧ R (.ok (.ret (.bool false))) { s with toks := s.toks + 1 })
    (fun _ _ _ _ _ hs => isinstance_outer (xc_nested hs.1.1 hs.1.2 XC (looks_typeIn hs.1.1 (beq_iff_eq.mp e2)) (looks_isType hs.1.1 e1) hne (looks_subIn hs.1.1 (beq_iff_eq.mp e3)) hs.2) (by intro q; cases q)) ⟨⟨X, I⟩, h⟩
theorem xc_yes {D : Addr} {Q : Value → Shared → Prop} (X : K.In s.heap) (I : XAt s.heap x ox C) (e : isIn K (.ref C) D = true) (h : Q (.bool true) s) : wpAny (model prog w) A (call (.builtin "isinstance") [.ref x, .ref D]) Q E s :=
  isi_call X (fun M => I.type) e (by intro q; cases q) h
theorem xc_yesT {T : String} {Q : Value → Shared → Prop} (X : K.In s.heap) (I : XAt s.heap x ox C) (hty : typeOf (.type T) = pure (.type "type")) (e : subIn K (.ref C) (.type T) = some true) (h : Q (.bool true) s) : wpAny (model prog w) A (call (.builtin "isinstance") [.ref x, .type T]) Q E s :=
  call_isinstance (S := fun _ R s => (K.In s.heap ∧ XAt s.heap x ox C) ∧ R (.ok (.ret (.bool true))) s) (fun prog w A R s hs => isinstance_outer (by
    obtain ⟨⟨X, I⟩, h⟩ := hs
    obtain ⟨h0, g, d, tt, os⟩ := s
    have L0 := I.type (M := model prog w)
    have LI : Looks (model prog w) h0 (isInstance (.ref x) (.type T)) true := L0.andThen (looks_subIn X e)
    have hT : Looks (model prog w) h0 (typeOf (.type T)) (.type "type") := Looks.of_pure hty
    have hI : Looks (model prog w) h0 (isType (.type T)) true := Looks.of_pure rfl
    unfold Builtin.«isinstance.nested»
    refine wpAny_bind (L0.at ?_)
    rw [if_neg (fun q => by cases beq_iff_eq.mp q)]
    refine wpAny_bind (hT.at ?_)
    rw [if_pos (by decide)]
    k_delta "plainIsInstance"
    refine wpAny_bind (wpAny_bind (hI.at ?_))
    simp only [Bool.not_true, Bool.false_eq_true, if_false]
    refine wpAny_bind (LI.at ?_)
    simp only [if_true]
    exact wpAny_pure (wpAny_pure h)) (by intro q; cases q)) ⟨⟨X, I⟩, h⟩
theorem xc_noT {T : String} {Q : Value → Shared → Prop} (X : K.In s.heap) (I : XAt s.heap x ox C) (XC : XCls K C) (hty : typeOf (.type T) = pure (.type "type")) (e : subIn K (.ref C) (.type T) = some false) (h : Q (.bool false) { s with toks := s.toks + 1 }) : wpAny (model prog w) A (call (.builtin "isinstance") [.ref x, .type T]) Q E s :=
  call_isinstance (S := fun _ R s => (K.In s.heap ∧ XAt s.heap x ox C) ∧ R (.ok (.ret (.bool false))) { s with toks := s.toks + 1 })
    (fun _ _ _ _ _ hs => isinstance_outer (xc_nested hs.1.1 hs.1.2 XC (Looks.of_pure hty) (Looks.of_pure rfl) (Bool.eq_false_iff.mpr fun q => by cases beq_iff_eq.mp q) (looks_subIn hs.1.1 e) hs.2) (by intro q; cases q)) ⟨⟨X, I⟩, h⟩
end
def bmV : List Value := [.type "ValueError", .type "Exception", .type "BaseException", .type "object"]
structure XKls (K : Frag) (nm : Str) (C : Addr) : Prop where
  ns : nsIn K mainGlobals nm = some (some (.ref C))
  xc : XCls K C
  ex : excIn K C bmV "ValueError.__new__" = true
  ve : subIn K (.ref C) (.type "ValueError") = some true
  no : ∀ T ∈ ["int", "bool", "tuple", "list", "str"], subIn K (.ref C) (.type T) = some false
noncomputable def XO (K : Frag) (nm : Str) (ob : Obj) : Prop := ∃ C, ob.cls = .ref C ∧ XKls K nm C
end L3
set_option Elab.async false
set_option linter.all false
set_option maxRecDepth 100000
namespace L3
open PySem PySem.Spec PyProof.Rows L2
theorem fa_slot : Slot "function" "__getattribute__" "object.__getattribute__" :=
  .of (owner := "object") (n := "__getattribute__") (by rw [typeLookup_type, builtinLookup_eq_fast]; kernel_rfl) (by decide +kernel) (by decide +kernel) (by decide +kernel)
    (by first | exact .inl (by decide +kernel) | exact .inr (by decide +kernel)) (by rw [isSubtype_type]; kernel_rfl)
theorem fa_look : typeLookup (.type "function") "__class__" = pure (some (.builtin "object.__class__")) := by rw [typeLookup_type, builtinLookup_eq_fast]; kernel_rfl
theorem fa_sub : isSubtype (.type "function") (.type (".".intercalate ("object.__class__".cutAt '.').dropLast)) = pure true := by
  rw [PySem.F.owner_object_class, isSubtype_type]; kernel_rfl
theorem fa_entry : entryFor table "object.__getattribute__" = some Builtin.«object.__getattribute__» := entryFor_of_tree (by kernel_rfl)
theorem fa_args (a b : Value) : argsOk "object.__getattribute__" ⟨[a, b], []⟩ := by unfold argsOk; kernel_rfl
section
variable {prog : Program} {w : World} {A : Around} {E : Value → Shared → Prop} {s : Shared} {a : Addr}
theorem fa_get {R : Result → Shared → Prop} (hT : s.TypeIs (.ref a) "function") (hq : R (.ok (.ret (.type "function"))) s) :
    codeAny (model prog w) A (.call (.builtin "getset_descriptor.__get__") ⟨[.builtin "object.__class__", .ref a, .type "function"], []⟩) R s := by
  obtain ⟨h, g, d, t, os⟩ := s
  have h5 : (⟨h, g, d, t, os⟩ : Shared).TypeIs (.builtin "object.__class__") "getset_descriptor" := PySem.F.typeOf_object_class
  have f8 := fa_sub
  refine codeAny_call_builtin PySem.F.slot_gs_get.plain PySem.F.entry_gs_get (PySem.F.slot_gs_get.check _ _ _ _ _ _ _ _ h5 (PySem.F.args_gs_get _ _ _) ?_)
  repeat (any_goals (first | assumption | wp_step))
  refine ⟨Code.quiet_builtin _ (by decide +kernel), codeAny_builtin PySem.F.entry_object_class ?_⟩
  repeat (any_goals (first | assumption | wp_step))
theorem fa_class {Q : Option Value → Shared → Prop} (hT : s.TypeIs (.ref a) "function") (hq : Q (some (.type "function")) { s with toks := s.toks + 1 }) : wpAny (model prog w) A (getAttr? (.ref a) "__class__") Q E s := by
  obtain ⟨h, g, d, t, os⟩ := s
  have hT1 : ∀ t', (⟨h, g, d, t', os⟩ : Shared).TypeIs (.ref a) "function" := fun _ => hT
  have en : ∀ {tk : Tok} {t' : Nat} {Q : Fin → Shared → Prop} {E : Value → Shared → Prop} {A : Around}, Q (.done (.ret (.type "function"))) ⟨h, g, d, t', os⟩ →
      wpAny (model prog w) A (Builtin.«object.__getattribute__» ⟨[.ref a, .str "__class__" tk], []⟩) Q E ⟨h, g, d, t', os⟩ := by
    intro tk t' Q E A hq
    have hT := hT1 t'
    have h5 : (⟨h, g, d, t', os⟩ : Shared).TypeIs (.builtin "object.__class__") "getset_descriptor" := PySem.F.typeOf_object_class
    have f4 := fa_look
    have f5 := PySem.F.typeOf_object_class
    have f6 := PySem.F.slot_gs_get.lookup
    have f7 := PySem.F.slot_gs_set.lookup
    repeat (any_goals (first | assumption | wp_step))
    refine fa_get hT ?_
    repeat (any_goals (first | assumption | wp_step))
  have by' : ∀ {tk : Tok} {t' : Nat} {Q : Value → Shared → Prop} {E : Value → Shared → Prop} {A : Around}, Q (.type "function") ⟨h, g, d, t', os⟩ → wpAny (model prog w) A (getAttrBy (.ref a) (.str "__class__" tk) false) Q E ⟨h, g, d, t', os⟩ := by
    intro tk t' Q E A hq
    have hT := hT1 t'
    have f2 := fa_slot.lookup
    have f3 := fa_slot.bind (.ref a)
    repeat (any_goals (first | assumption | wp_step))
    refine codeAny_call_builtin fa_slot.plain fa_entry (fa_slot.check _ _ _ _ _ _ _ _ hT (fa_args _ _) (en ?_))
    repeat (any_goals (first | assumption | wp_step))
  unfold getAttr? getAttrBy?
  repeat (any_goals (first | assumption | with_reducible apply by' | wp_step))
theorem kitx_fun {K : PySem.W.Frag} : PySem.W.KitX K (.ref a) (.type "function") (PySem.W.KitAt a "function") := PySem.W.kitx_of PySem.W.kitAt_ty (fun {_ _ _ _ _ s} p k => fa_class (by obtain ⟨o, h1, h2⟩ := p; exact ⟨o, h1, h2⟩) k)
end
end L3
set_option Elab.async false
set_option linter.all false
set_option maxRecDepth 100000
namespace L3
open PySem PySem.Spec PyProof.Rows L2
inductive D where
  | non | bl (b : Bool) | int (i : Int) | str (x : Str) | tup (ds : List D) | lst (ds : List D)
  /-- a dict that is not changed, its keys texts -/
  | dic (ks : List Str) (ds : List D)
  /-- an exception, by its class's name -/
  | exc (nm : Str)
  /-- a function made here: its place, its object, what it keeps of the names around it -/
  | ob (f : Addr) (fo : Obj) (vs : List V) (ds : List D)
noncomputable abbrev St := L2.St
inductive Ow where
  | s (i : Nat) | t (i : Nat) | f
  deriving DecidableEq
noncomputable abbrev Wn := Addr → Option Ow
noncomputable def KL (K : PySem.W.Frag) (a : Addr) (xs : List V) : Prop :=
  ∃ (o : Obj) (its : Array Value) (n : Nat), K.lookup a = some o ∧ o.cls = .type "list" ∧ o.dict = none ∧ o.data = .seq its n ∧ its.size ≤ sizeLine ∧ Vals xs its.toList
theorem SqL.cases {K : PySem.W.Frag} {H : Hp} {a : Addr} {xs : List V} (h : SqL K H a xs) : Rd H a (.lst xs) ∨ KL K a xs := h
theorem KL.sq {K : PySem.W.Frag} {H : Hp} {a : Addr} {xs : List V} (h : KL K a xs) : SqL K H a xs := .inr h
noncomputable def kvL (ks : List Str) (vs : List V) : List (Key × V) := (ks.map fun x => (Sum.inr x : Key)).zip vs
noncomputable def Clo (fo : Obj) (c : Addr) (oc : Obj) : Prop := fo.cls = .type "function" ∧ (∃ fd, fo.data = .func fd ∧ fd.code = .ref c) ∧ ∃ fs q t, oc.data = .fields fs ∧ fs[1]? = some (.str q t)
mutual
/-- q: how deep the lists are owned -/
inductive Rep (K : PySem.W.Frag) (H : Hp) (w : Wn) (o : Ow) : Nat → D → V → List Addr → Prop
  | non {q} : Rep K H w o q .non .non []
  | bl {q} (b : Bool) : Rep K H w o q (.bl b) (.bl b) []
  | int {q} (i : Int) : Rep K H w o q (.int i) (.int i) []
  | str {q} (x : Str) : Rep K H w o q (.str x) (.str x) []
  | tup {q} {a : Addr} {vs : List V} {ds : List D} : H a = some (.tup vs) → Reps K H w o 0 ds vs [] → Rep K H w o q (.tup ds) (.ref a) []
  | dic {q} {a : Addr} {ks : List Str} {vs : List V} {ds : List D} : H a = some (.dK (kvL ks vs)) → Reps K H w o 0 ds vs [] → Rep K H w o q (.dic ks ds) (.ref a) []
  | exc {q} {a : Addr} {nm : Str} {ob : Obj} {u : HO} : H a = some (.frz ob u) → XO K nm ob → (∀ xs, u ≠ .lst xs) → Rep K H w o q (.exc nm) (.ref a) []
  | ob {q} {f c : Addr} {fo oc : Obj} {u u' : HO} {vs : List V} {ds : List D} : H f = some (.frz fo u) → H c = some (.frz oc u') → Clo fo c oc → Reps K H w o 0 ds vs [] → Rep K H w o q (.ob f fo vs ds) (.ref f) []
  | kl {a : Addr} {vs : List V} {ds : List D} : KL K a vs → Reps K H w o 0 ds vs [] → Rep K H w o 0 (.lst ds) (.ref a) []
  | shr {a : Addr} {vs : List V} {ds : List D} : Rd H a (.lst vs) → w a = none → Reps K H w o 0 ds vs [] → Rep K H w o 0 (.lst ds) (.ref a) []
  | own {q} {a : Addr} {vs : List V} {ds : List D} {F : List Addr} : H a = some (.lst vs) → w a = some o → Reps K H w o q ds vs F → a ∉ F → Rep K H w o (q + 1) (.lst ds) (.ref a) (a :: F)
inductive Reps (K : PySem.W.Frag) (H : Hp) (w : Wn) (o : Ow) : Nat → List D → List V → List Addr → Prop
  | nil {q} : Reps K H w o q [] [] []
  | cons {q} {d : D} {v : V} {ds : List D} {vs : List V} {F G : List Addr} : Rep K H w o q d v F → Reps K H w o q ds vs G → (∀ a ∈ F, a ∉ G) → Reps K H w o q (d :: ds) (v :: vs) (F ++ G)
end
noncomputable def isTb : HO → Bool
  | .tbl _ => true
  | _ => false
noncomputable def Sm (x : HO) (y : Option HO) : Prop := match x with
  | .tbl _ => ∃ ps, y = some (.tbl ps)
  | x => y = some x
theorem sm {x : HO} {y : Option HO} (h : y = some x) : Sm x y := by cases x <;> first | exact h | exact ⟨_, h⟩
theorem Sm.is {x : HO} {y : Option HO} (h : Sm x y) : ∃ z, y = some z ∧ isTb z = isTb x := by
  cases x <;> first | exact ⟨_, h, rfl⟩ | (obtain ⟨ps, e⟩ := h; exact ⟨_, e, rfl⟩)
theorem Sm.eq {x : HO} {y : Option HO} (h : Sm x y) (n : isTb x = false) : y = some x := by cases x <;> first | exact h | cases n
noncomputable def lamNms : List Str := ["turned", "chain_ladder", "flat_ladder", "paired"]
structure TB (K : PySem.W.Frag) (H : Hp) : Prop where
  tr : ∀ P ps, H P = some (.tbl ps) → PySem.TriplesOk ps.toList
  cd : ∀ P ps, H P = some (.tbl ps) → ∀ pos cv, PySem.codeAmong pos ps.toList = some cv → ∃ c oc u vs q t, cv = .ref c ∧ H c = some (.frz oc u) ∧ oc.data = .fields vs ∧ vs[1]? = some (.str q t) ∧ ∀ xs, u ≠ .lst xs
  is : ∀ x ∈ lamNms, ∀ c P, PySem.W.tabIn K x = some (c, P) → ∃ ps, H P = some (.tbl ps)
structure WL (K : PySem.W.Frag) (w : Wn) (H : Hp) : Prop where
  own : ∀ a o, w a = some o → ∃ vs, H a = some (.lst vs)
  tb : TB K H
instance {K : PySem.W.Frag} {w : Wn} {H : Hp} : CoeFun (WL K w H) (fun _ => ∀ a o, w a = some o → ∃ vs, H a = some (.lst vs)) := ⟨WL.own⟩
theorem TB.upd {K : PySem.W.Frag} {H : Hp} (t : TB K H) {p : Addr} {x : HO} (hx : isTb x = false) (hp : H p = none ∨ ∃ vs, H p = some (.lst vs)) : TB K (L2.upd H p x) := by
  have ne : ∀ a y, H a = some y → (∀ vs, y ≠ .lst vs) → a ≠ p := fun a y e h z => by
    subst z
    rcases hp with q | ⟨vs, q⟩
    · rw [e] at q; cases q
    · rw [e] at q; cases q; exact h _ rfl
  refine ⟨fun P ps e => ?_, fun P ps e pos cv hc => ?_, fun x hx c P hP => by
    obtain ⟨ps, e⟩ := t.is x hx c P hP
    exact ⟨ps, by rw [upd_ne (ne P _ e fun _ z => nomatch z)]; exact e⟩⟩
  · by_cases hP : P = p
    · subst hP; rw [upd_same] at e; cases e; cases hx
    · rw [upd_ne hP] at e; exact t.tr P ps e
  · by_cases hP : P = p
    · subst hP; rw [upd_same] at e; cases e; cases hx
    · rw [upd_ne hP] at e
      obtain ⟨c, oc, u, vs, q, tt, h1, h2, h3, h4, h5⟩ := t.cd P ps e pos cv hc
      exact ⟨c, oc, u, vs, q, tt, h1, by rw [upd_ne (ne c _ h2 fun _ z => nomatch z)]; exact h2, h3, h4, h5⟩
noncomputable def Stab (H : Hp) (w : Wn) (H' : Hp) (w' : Wn) : Prop := ∀ a x, H a = some x → w a = none → Sm x (H' a) ∧ w' a = none
theorem Stab.trans {H H1 H2 : Hp} {w w1 w2 : Wn} (a : Stab H w H1 w1) (b : Stab H1 w1 H2 w2) : Stab H w H2 w2 := fun c x h n => by
  obtain ⟨s1, n1⟩ := a c x h n
  cases ht : isTb x with
  | false => exact b c x (s1.eq ht) n1
  | true =>
    obtain ⟨y, e, hy⟩ := s1.is
    obtain ⟨s2, n2⟩ := b c y e n1
    refine ⟨?_, n2⟩
    rw [ht] at hy
    cases x with
    | tbl ps =>
      cases y with
      | tbl ps' => exact s2
      | _ => cases hy
    | _ => cases ht
theorem WL.rdT {K : PySem.W.Frag} {w : Wn} {H : Hp} (wl : WL K w H) {a : Addr} {x : HO} (e : H a = some x) (h : ∀ vs, x ≠ .lst vs) : w a = none := by
  cases q : w a with
  | none => rfl
  | some o =>
    obtain ⟨vs, e'⟩ := wl a o q
    rw [e] at e'
    exact absurd (Option.some.inj e') (h vs)
theorem SqT.go {K : PySem.W.Frag} {H H' : Hp} {w w' : Wn} (wl : WL K w H) (st : Stab H w H' w') {a : Addr} {vs : List V} (h : SqT K H a vs) : SqT K H' a vs := by
  rcases h with (h | ⟨o, h⟩) | h
  · exact .inl (.inl (st a _ h (wl.rdT h (fun _ z => nomatch z))).1)
  · exact .inl (.inr ⟨o, (st a _ h (wl.rdT h (fun _ z => nomatch z))).1⟩)
  · exact .inr h
theorem RdL.go {H H' : Hp} {w w' : Wn} (st : Stab H w H' w') {a : Addr} {vs : List V} (n : w a = none) (h : Rd H a (.lst vs)) : Rd H' a (.lst vs) ∧ w' a = none := by
  rcases h with h | ⟨o, h⟩
  · exact ⟨.inl (st a _ h n).1, (st a _ h n).2⟩
  · exact ⟨.inr ⟨o, (st a _ h n).1⟩, (st a _ h n).2⟩
theorem Rep.go {K : PySem.W.Frag} {H H' : Hp} {w w' : Wn} {o o' : Ow} (wl : WL K w H) (st : Stab H w H' w') : ∀ {q : Nat} {d : D} {v : V} {F : List Addr}, Rep K H w o q d v F → (∀ a ∈ F, H' a = H a ∧ w' a = some o') → Rep K H' w' o' q d v F := by
  intro q d v F r
  refine Rep.rec (motive_1 := fun q d v F _ => (∀ a ∈ F, H' a = H a ∧ w' a = some o') → Rep K H' w' o' q d v F) (motive_2 := fun q ds vs F _ => (∀ a ∈ F, H' a = H a ∧ w' a = some o') → Reps K H' w' o' q ds vs F) ?_ ?_ ?_ ?_ ?_ ?_ ?_ ?_ ?_ ?_ ?_ ?_ ?_ r
  · intro q _; exact .non
  · intro q b _; exact .bl b
  · intro q i _; exact .int i
  · intro q x _; exact .str x
  · intro q a vs ds h r ih _; exact .tup (st _ _ h (wl.rdT h (fun _ z => by cases z))).1 (ih (fun _ z => (List.not_mem_nil z).elim))
  · intro q a ks vs ds h r ih _; exact .dic (st _ _ h (wl.rdT h (fun _ z => by cases z))).1 (ih (fun _ z => (List.not_mem_nil z).elim))
  · intro q a nm ob u h x n _; exact .exc (st _ _ h (wl.rdT h (fun _ z => by cases z))).1 x n
  · intro q f c fo oc u u' vs ds h1 h2 x r ih _; exact .ob (st _ _ h1 (wl.rdT h1 (fun _ z => by cases z))).1 (st _ _ h2 (wl.rdT h2 (fun _ z => by cases z))).1 x (ih (fun _ z => (List.not_mem_nil z).elim))
  · intro a vs ds h r ih _; exact .kl h (ih (fun _ z => (List.not_mem_nil z).elim))
  · intro a vs ds h n r ih _; exact .shr (RdL.go st n h).1 (RdL.go st n h).2 (ih (fun _ z => (List.not_mem_nil z).elim))
  · intro q a vs ds F h e r ne ih k; exact .own ((k _ List.mem_cons_self).1.trans h) (k _ List.mem_cons_self).2 (ih fun a m => k a (List.mem_cons_of_mem _ m)) ne
  · intro q _; exact .nil
  · intro q d v ds vs F G r s ne ih1 ih2 k; exact .cons (ih1 fun a m => k a (List.mem_append_left _ m)) (ih2 fun a m => k a (List.mem_append_right _ m)) ne
theorem Reps.go {K : PySem.W.Frag} {H H' : Hp} {w w' : Wn} {o o' : Ow} (wl : WL K w H) (st : Stab H w H' w') : ∀ {q : Nat} {ds : List D} {vs : List V} {F : List Addr}, Reps K H w o q ds vs F → (∀ a ∈ F, H' a = H a ∧ w' a = some o') → Reps K H' w' o' q ds vs F := by
  intro q ds vs F r
  refine Reps.rec (motive_1 := fun q d v F _ => (∀ a ∈ F, H' a = H a ∧ w' a = some o') → Rep K H' w' o' q d v F) (motive_2 := fun q ds vs F _ => (∀ a ∈ F, H' a = H a ∧ w' a = some o') → Reps K H' w' o' q ds vs F) ?_ ?_ ?_ ?_ ?_ ?_ ?_ ?_ ?_ ?_ ?_ ?_ ?_ r
  · intro q _; exact .non
  · intro q b _; exact .bl b
  · intro q i _; exact .int i
  · intro q x _; exact .str x
  · intro q a vs ds h r ih _; exact .tup (st _ _ h (wl.rdT h (fun _ z => by cases z))).1 (ih (fun _ z => (List.not_mem_nil z).elim))
  · intro q a ks vs ds h r ih _; exact .dic (st _ _ h (wl.rdT h (fun _ z => by cases z))).1 (ih (fun _ z => (List.not_mem_nil z).elim))
  · intro q a nm ob u h x n _; exact .exc (st _ _ h (wl.rdT h (fun _ z => by cases z))).1 x n
  · intro q f c fo oc u u' vs ds h1 h2 x r ih _; exact .ob (st _ _ h1 (wl.rdT h1 (fun _ z => by cases z))).1 (st _ _ h2 (wl.rdT h2 (fun _ z => by cases z))).1 x (ih (fun _ z => (List.not_mem_nil z).elim))
  · intro a vs ds h r ih _; exact .kl h (ih (fun _ z => (List.not_mem_nil z).elim))
  · intro a vs ds h n r ih _; exact .shr (RdL.go st n h).1 (RdL.go st n h).2 (ih (fun _ z => (List.not_mem_nil z).elim))
  · intro q a vs ds F h e r ne ih k; exact .own ((k _ List.mem_cons_self).1.trans h) (k _ List.mem_cons_self).2 (ih fun a m => k a (List.mem_cons_of_mem _ m)) ne
  · intro q _; exact .nil
  · intro q d v ds vs F G r s ne ih1 ih2 k; exact .cons (ih1 fun a m => k a (List.mem_append_left _ m)) (ih2 fun a m => k a (List.mem_append_right _ m)) ne
theorem Rep.freeze {K : PySem.W.Frag} {H : Hp} {w w' : Wn} {o o' : Ow} (n : ∀ a, w a = none → w' a = none) : ∀ {q : Nat} {d : D} {v : V} {F : List Addr}, Rep K H w o q d v F → (∀ a ∈ F, w' a = none) → Rep K H w' o' 0 d v [] := by
  intro q d v F r
  refine Rep.rec (motive_1 := fun q d v F _ => (∀ a ∈ F, w' a = none) → Rep K H w' o' 0 d v []) (motive_2 := fun q ds vs F _ => (∀ a ∈ F, w' a = none) → Reps K H w' o' 0 ds vs []) ?_ ?_ ?_ ?_ ?_ ?_ ?_ ?_ ?_ ?_ ?_ ?_ ?_ r
  · intro q _; exact .non
  · intro q b _; exact .bl b
  · intro q i _; exact .int i
  · intro q x _; exact .str x
  · intro q a vs ds h r ih _; exact .tup h (ih (fun _ z => (List.not_mem_nil z).elim))
  · intro q a ks vs ds h r ih _; exact .dic h (ih (fun _ z => (List.not_mem_nil z).elim))
  · intro q a nm ob u h x n _; exact .exc h x n
  · intro q f c fo oc u u' vs ds h1 h2 x r ih _; exact .ob h1 h2 x (ih (fun _ z => (List.not_mem_nil z).elim))
  · intro a vs ds h r ih _; exact .kl h (ih (fun _ z => (List.not_mem_nil z).elim))
  · intro a vs ds h e r ih _; exact .shr h (n _ e) (ih (fun _ z => (List.not_mem_nil z).elim))
  · intro q a vs ds F h e r ne ih k; exact .shr (Rd.of h) (k _ List.mem_cons_self) (ih fun a m => k a (List.mem_cons_of_mem _ m))
  · intro q _; exact .nil
  · intro q d v ds vs F G r s ne ih1 ih2 k; exact .cons (F := []) (G := []) (ih1 fun a m => k a (List.mem_append_left _ m)) (ih2 fun a m => k a (List.mem_append_right _ m)) (fun _ z => (List.not_mem_nil z).elim)
theorem Reps.freeze {K : PySem.W.Frag} {H : Hp} {w w' : Wn} {o o' : Ow} (n : ∀ a, w a = none → w' a = none) : ∀ {q : Nat} {ds : List D} {vs : List V} {F : List Addr}, Reps K H w o q ds vs F → (∀ a ∈ F, w' a = none) → Reps K H w' o' 0 ds vs [] := by
  intro q ds vs F r
  refine Reps.rec (motive_1 := fun q d v F _ => (∀ a ∈ F, w' a = none) → Rep K H w' o' 0 d v []) (motive_2 := fun q ds vs F _ => (∀ a ∈ F, w' a = none) → Reps K H w' o' 0 ds vs []) ?_ ?_ ?_ ?_ ?_ ?_ ?_ ?_ ?_ ?_ ?_ ?_ ?_ r
  · intro q _; exact .non
  · intro q b _; exact .bl b
  · intro q i _; exact .int i
  · intro q x _; exact .str x
  · intro q a vs ds h r ih _; exact .tup h (ih (fun _ z => (List.not_mem_nil z).elim))
  · intro q a ks vs ds h r ih _; exact .dic h (ih (fun _ z => (List.not_mem_nil z).elim))
  · intro q a nm ob u h x n _; exact .exc h x n
  · intro q f c fo oc u u' vs ds h1 h2 x r ih _; exact .ob h1 h2 x (ih (fun _ z => (List.not_mem_nil z).elim))
  · intro a vs ds h r ih _; exact .kl h (ih (fun _ z => (List.not_mem_nil z).elim))
  · intro a vs ds h e r ih _; exact .shr h (n _ e) (ih (fun _ z => (List.not_mem_nil z).elim))
  · intro q a vs ds F h e r ne ih k; exact .shr (Rd.of h) (k _ List.mem_cons_self) (ih fun a m => k a (List.mem_cons_of_mem _ m))
  · intro q _; exact .nil
  · intro q d v ds vs F G r s ne ih1 ih2 k; exact .cons (F := []) (G := []) (ih1 fun a m => k a (List.mem_append_left _ m)) (ih2 fun a m => k a (List.mem_append_right _ m)) (fun _ z => (List.not_mem_nil z).elim)
theorem Rep.owns {K : PySem.W.Frag} {H : Hp} {w : Wn} {o : Ow} : ∀ {q : Nat} {d : D} {v : V} {F : List Addr}, Rep K H w o q d v F → ∀ a ∈ F, w a = some o := by
  intro q d v F r
  refine Rep.rec (motive_1 := fun q d v F _ => ∀ a ∈ F, w a = some o) (motive_2 := fun q ds vs F _ => ∀ a ∈ F, w a = some o) ?_ ?_ ?_ ?_ ?_ ?_ ?_ ?_ ?_ ?_ ?_ ?_ ?_ r
  · intro q a m; exact (List.not_mem_nil m).elim
  · intro q b a m; exact (List.not_mem_nil m).elim
  · intro q i a m; exact (List.not_mem_nil m).elim
  · intro q x a m; exact (List.not_mem_nil m).elim
  · intro q a vs ds h r ih b m; exact (List.not_mem_nil m).elim
  · intro q a ks vs ds h r ih b m; exact (List.not_mem_nil m).elim
  · intro q a nm ob u h x n b m; exact (List.not_mem_nil m).elim
  · intro q f c fo oc u u' vs ds h1 h2 x r ih b m; exact (List.not_mem_nil m).elim
  · intro a vs ds h r ih b m; exact (List.not_mem_nil m).elim
  · intro a vs ds h e r ih b m; exact (List.not_mem_nil m).elim
  · intro q a vs ds F h e r ne ih b m
    rcases List.mem_cons.mp m with z | z
    · rw [z]; exact e
    · exact ih b z
  · intro q a m; exact (List.not_mem_nil m).elim
  · intro q d v ds vs F G r s ne ih1 ih2 a m
    rcases List.mem_append.mp m with z | z
    · exact ih1 a z
    · exact ih2 a z
theorem Reps.owns {K : PySem.W.Frag} {H : Hp} {w : Wn} {o : Ow} : ∀ {q : Nat} {ds : List D} {vs : List V} {F : List Addr}, Reps K H w o q ds vs F → ∀ a ∈ F, w a = some o := by
  intro q ds vs F r
  refine Reps.rec (motive_1 := fun q d v F _ => ∀ a ∈ F, w a = some o) (motive_2 := fun q ds vs F _ => ∀ a ∈ F, w a = some o) ?_ ?_ ?_ ?_ ?_ ?_ ?_ ?_ ?_ ?_ ?_ ?_ ?_ r
  · intro q a m; exact (List.not_mem_nil m).elim
  · intro q b a m; exact (List.not_mem_nil m).elim
  · intro q i a m; exact (List.not_mem_nil m).elim
  · intro q x a m; exact (List.not_mem_nil m).elim
  · intro q a vs ds h r ih b m; exact (List.not_mem_nil m).elim
  · intro q a ks vs ds h r ih b m; exact (List.not_mem_nil m).elim
  · intro q a nm ob u h x n b m; exact (List.not_mem_nil m).elim
  · intro q f c fo oc u u' vs ds h1 h2 x r ih b m; exact (List.not_mem_nil m).elim
  · intro a vs ds h r ih b m; exact (List.not_mem_nil m).elim
  · intro a vs ds h e r ih b m; exact (List.not_mem_nil m).elim
  · intro q a vs ds F h e r ne ih b m
    rcases List.mem_cons.mp m with z | z
    · rw [z]; exact e
    · exact ih b z
  · intro q a m; exact (List.not_mem_nil m).elim
  · intro q d v ds vs F G r s ne ih1 ih2 a m
    rcases List.mem_append.mp m with z | z
    · exact ih1 a z
    · exact ih2 a z
noncomputable def D.isL : D → Bool
  | .lst _ => true
  | _ => false
@[simp] theorem D.isL_non : D.isL .non = false := rfl
@[simp] theorem D.isL_bl (b : Bool) : D.isL (.bl b) = false := rfl
@[simp] theorem D.isL_int (i : Int) : D.isL (.int i) = false := rfl
@[simp] theorem D.isL_str (x : Str) : D.isL (.str x) = false := rfl
@[simp] theorem D.isL_tup (ds : List D) : D.isL (.tup ds) = false := rfl
@[simp] theorem D.isL_dic (ks : List Str) (ds : List D) : D.isL (.dic ks ds) = false := rfl
@[simp] theorem D.isL_exc (nm : Str) : D.isL (.exc nm) = false := rfl
@[simp] theorem D.isL_ob (f : Addr) (fo : Obj) (vs : List V) (ds : List D) : D.isL (.ob f fo vs ds) = false := rfl
@[simp] theorem D.isL_lst (ds : List D) : D.isL (.lst ds) = true := rfl
theorem Rep.nolist {K : PySem.W.Frag} {H : Hp} {w : Wn} {o : Ow} {q : Nat} {d : D} {v : V} {F : List Addr} (r : Rep K H w o q d v F) (h : d.isL = false) : F = [] ∧ ∀ q', Rep K H w o q' d v [] := by
  cases r with
  | non => exact ⟨rfl, fun _ => .non⟩
  | bl b => exact ⟨rfl, fun _ => .bl b⟩
  | int i => exact ⟨rfl, fun _ => .int i⟩
  | str x => exact ⟨rfl, fun _ => .str x⟩
  | tup h' r' => exact ⟨rfl, fun _ => .tup h' r'⟩
  | dic h' r' => exact ⟨rfl, fun _ => .dic h' r'⟩
  | exc h' x n => exact ⟨rfl, fun _ => .exc h' x n⟩
  | ob h1 h2 x r => exact ⟨rfl, fun _ => .ob h1 h2 x r⟩
  | kl => cases h
  | shr => cases h
  | own => cases h
theorem Rep.zero {K : PySem.W.Frag} {H : Hp} {w : Wn} {o : Ow} {d : D} {v : V} {F : List Addr} (r : Rep K H w o 0 d v F) : F = [] := by
  cases r <;> rfl
theorem Reps.zero {K : PySem.W.Frag} {H : Hp} {w : Wn} {o : Ow} : ∀ {ds : List D} {vs : List V} {F : List Addr}, Reps K H w o 0 ds vs F → F = []
  | _, _, _, .nil => rfl
  | _, _, _, .cons r s _ => by rw [r.zero, s.zero]; rfl
theorem Reps.length {K : PySem.W.Frag} {H : Hp} {w : Wn} {o : Ow} {q : Nat} : ∀ {ds : List D} {vs : List V} {F : List Addr}, Reps K H w o q ds vs F → ds.length = vs.length
  | _, _, _, .nil => rfl
  | _, _, _, .cons _ s _ => by simp [s.length]
theorem Rep.any {K : PySem.W.Frag} {H : Hp} {w : Wn} {o o' : Ow} {q : Nat} {d : D} {v : V} (r : Rep K H w o q d v []) (wl : WL K w H) : Rep K H w o' q d v [] :=
  Rep.go wl (fun a x h n => ⟨sm h, n⟩) r (fun _ z => nomatch z)
theorem Reps.any {K : PySem.W.Frag} {H : Hp} {w : Wn} {o o' : Ow} {q : Nat} {d : List D} {v : List V} (r : Reps K H w o q d v []) (wl : WL K w H) : Reps K H w o' q d v [] :=
  Reps.go wl (fun a x h n => ⟨sm h, n⟩) r (fun _ z => nomatch z)
theorem Reps.get {K : PySem.W.Frag} {H : Hp} {w : Wn} {o : Ow} : ∀ {ds : List D} {vs : List V} {i : Nat} {d : D}, Reps K H w o 0 ds vs [] → ds[i]? = some d → ∃ v, vs[i]? = some v ∧ Rep K H w o 0 d v []
  | ds, vs, i, d, r, e => by
    generalize hF : ([] : List Addr) = F at r
    cases r with
    | nil => simp at e
    | @cons _ d' v' ds' vs' F' G' r s _ =>
      have h1 : F' = [] := r.zero
      have h2 : G' = [] := s.zero
      subst h1 h2
      cases i with
      | zero => simp at e; subst e; exact ⟨v', rfl, r⟩
      | succ j =>
        obtain ⟨v, h1, h2⟩ := Reps.get (i := j) (d := d) s (by simpa using e)
        exact ⟨v, by simpa using h1, h2⟩
theorem Reps.snoc {K : PySem.W.Frag} {H : Hp} {w : Wn} {o : Ow} {q : Nat} {d : D} {v : V} {G : List Addr} (r' : Rep K H w o q d v G) : ∀ {ds : List D} {vs : List V} {F : List Addr}, Reps K H w o q ds vs F → (∀ a ∈ F, a ∉ G) → Reps K H w o q (ds ++ [d]) (vs ++ [v]) (F ++ G)
  | _, _, _, .nil, _ => by
    have : Reps K H w o q [d] [v] (G ++ []) := .cons r' .nil (fun a _ z => nomatch z)
    simpa using this
  | _, _, _, .cons (F := F) (G := F') r s ne, k => by
    rw [List.append_assoc]
    refine .cons r (Reps.snoc r' s fun a m => k a (List.mem_append_right _ m)) fun a m z => ?_
    rcases List.mem_append.mp z with z | z
    · exact ne a m z
    · exact k a (List.mem_append_left _ m) z
noncomputable abbrev Rho := List (Option (D × Nat))
structure Good (K : PySem.W.Frag) (ρ : Rho) (σ : St) (H : Hp) (w : Wn) (t : Nat) : Prop where
  wl : WL K w H
  ws : ∀ a i, w a = some (.s i) → i < σ.length
  wt : ∀ a i, w a = some (.t i) → i < t
  len : ρ.length = σ.length
  slot : ∀ (i : Nat) d q, ρ[i]? = some (some (d, q)) → ∃ v F, σ[i]? = some (some v) ∧ Rep K H w (.s i) q d v F
structure Go (H : Hp) (w : Wn) (H' : Hp) (w' : Wn) : Prop where
  stab : Stab H w H' w'
  keep : ∀ a o, w a = some o → (∀ i, o ≠ .s i) → H' a = H a ∧ w' a = some o
theorem Go.refl {H : Hp} {w : Wn} : Go H w H w := ⟨fun a x h n => ⟨sm h, n⟩, fun a o e _ => ⟨rfl, e⟩⟩
theorem Go.trans {H H1 H2 : Hp} {w w1 w2 : Wn} (a : Go H w H1 w1) (b : Go H1 w1 H2 w2) : Go H w H2 w2 :=
  ⟨a.stab.trans b.stab, fun c o e h => by
    obtain ⟨h1, w1⟩ := a.keep c o e h
    obtain ⟨h2, w2⟩ := b.keep c o w1 h
    exact ⟨h2.trans h1, w2⟩⟩
theorem Rep.gone {K : PySem.W.Frag} {H H' : Hp} {w w' : Wn} {q : Nat} {d : D} {v : V} {F : List Addr} {i : Nat} (r : Rep K H w (.t i) q d v F) (wl : WL K w H) (g : Go H w H' w') : Rep K H' w' (.t i) q d v F :=
  Rep.go wl g.stab r fun a m => g.keep a _ (r.owns a m) (fun _ z => nomatch z)
theorem Reps.gone {K : PySem.W.Frag} {H H' : Hp} {w w' : Wn} {q : Nat} {d : List D} {v : List V} {F : List Addr} {i : Nat} (r : Reps K H w (.t i) q d v F) (wl : WL K w H) (g : Go H w H' w') : Reps K H' w' (.t i) q d v F :=
  Reps.go wl g.stab r fun a m => g.keep a _ (r.owns a m) (fun _ z => nomatch z)
noncomputable def dropT (t : Nat) (w : Wn) : Wn := fun a => match w a with
  | some (.t i) => if t ≤ i then none else some (.t i)
  | x => x
theorem dropT_none {t : Nat} {w : Wn} {a : Addr} (h : w a = none) : dropT t w a = none := by unfold dropT; rw [h]
theorem dropT_s {t : Nat} {w : Wn} {a : Addr} {i : Nat} (h : w a = some (.s i)) : dropT t w a = some (.s i) := by unfold dropT; rw [h]
theorem dropT_f {t : Nat} {w : Wn} {a : Addr} (h : w a = some .f) : dropT t w a = some .f := by unfold dropT; rw [h]
theorem dropT_lt {t : Nat} {w : Wn} {a : Addr} {i : Nat} (h : w a = some (.t i)) (hi : i < t) : dropT t w a = some (.t i) := by unfold dropT; rw [h]; exact if_neg (by omega)
theorem dropT_ge {t : Nat} {w : Wn} {a : Addr} {i : Nat} (h : w a = some (.t i)) (hi : t ≤ i) : dropT t w a = none := by unfold dropT; rw [h]; exact if_pos hi
theorem dropT_some {t : Nat} {w : Wn} {a : Addr} {o : Ow} (h : dropT t w a = some o) : w a = some o ∧ ∀ i, o = .t i → i < t := by
  unfold dropT at h
  cases e : w a with
  | none => rw [e] at h; cases h
  | some o' =>
    rw [e] at h
    cases o' with
    | s i => cases h; exact ⟨rfl, fun i z => nomatch z⟩
    | f => cases h; exact ⟨rfl, fun i z => nomatch z⟩
    | t i =>
      dsimp only at h
      split at h
      · cases h
      · cases h; exact ⟨rfl, fun j z => by cases z; omega⟩
theorem Good.drop {K : PySem.W.Frag} {ρ : Rho} {σ : St} {H : Hp} {w : Wn} {t t' : Nat} (g : Good K ρ σ H w t) : Good K ρ σ H (dropT t' w) t' := by
  refine ⟨⟨fun a o e => g.wl a o (dropT_some e).1, g.wl.tb⟩, fun a i e => g.ws a i (dropT_some e).1, fun a i e => (dropT_some e).2 i rfl, g.len, fun i d q e => ?_⟩
  obtain ⟨v, F, h1, h2⟩ := g.slot i d q e
  exact ⟨v, F, h1, Rep.go g.wl (fun a x h n => ⟨sm h, dropT_none n⟩) h2 fun a m => ⟨rfl, dropT_s (h2.owns a m)⟩⟩
theorem Go.drop {H H' : Hp} {w w' : Wn} {t : Nat} (g : Go H w H' w') (wt : ∀ a i, w a = some (.t i) → i < t) : Go H w H' (dropT t w') :=
  ⟨fun a x h n => ⟨(g.stab a x h n).1, dropT_none (g.stab a x h n).2⟩, fun a o e h => by
    obtain ⟨h1, h2⟩ := g.keep a o e h
    refine ⟨h1, ?_⟩
    cases o with
    | s i => exact absurd rfl (h i)
    | f => exact dropT_f h2
    | t i => exact dropT_lt h2 (wt a i e)⟩
theorem Rep.drop {K : PySem.W.Frag} {H : Hp} {w : Wn} {q : Nat} {d : D} {v : V} {F : List Addr} {t : Nat} {o : Ow} (r : Rep K H w (.t t) q d v F) {t' : Nat} (h : t' ≤ t) : Rep K H (dropT t' w) o 0 d v [] :=
  Rep.freeze (fun a n => dropT_none n) r fun a m => dropT_ge (r.owns a m) h
noncomputable abbrev Den := Rho → Option (D × Nat × Rho)
noncomputable def tD (K : PySem.W.Frag) (f : Den) : TE := fun σ H Q => ∃ ρ w t r q ρ', Good K ρ σ H w t ∧ f ρ = some (r, q, ρ') ∧ ∀ v H' w' F, Good K ρ' σ H' w' (t + 1) → Go H w H' w' → Rep K H' w' (.t t) q r v F → Q v H'
theorem PE.imp {X : Cx} {e : Expr} {t t' : TE} (h : PE X e t) (i : ∀ σ H Q, t' σ H Q → t σ H Q) : PE X e t' := fun pins s σ H Q I q => h pins s σ H Q I (i σ H Q q)
noncomputable abbrev PD (X : Cx) (e : Expr) (f : Den) : Prop := PE X e (tD X.K f)
end L3
set_option Elab.async false
set_option linter.all false
set_option maxRecDepth 100000
namespace L3
open PySem PySem.Spec PyProof.Rows L2
theorem Good.up {K : PySem.W.Frag} {ρ : Rho} {σ : St} {H : Hp} {w : Wn} {t : Nat} (g : Good K ρ σ H w t) : Good K ρ σ H w (t + 1) := ⟨g.wl, g.ws, fun a i e => Nat.lt_succ_of_lt (g.wt a i e), g.len, g.slot⟩
@[simp] noncomputable def dep0 (d : D) : Nat := if d.isL then 0 else 9
theorem Rep.dep {K : PySem.W.Frag} {H : Hp} {w : Wn} {o : Ow} {d : D} {v : V} (r : Rep K H w o 0 d v []) : Rep K H w o (dep0 d) d v [] := by
  unfold dep0
  cases e : d.isL with
  | true => exact r
  | false => exact (r.nolist e).2 9
section
variable {K : PySem.W.Frag} {σ : St} {H : Hp} {ρ ρ' ρ1 ρ2 : Rho} {w : Wn} {t : Nat} {Q : VK}
theorem seq2 {fa fb : Den} {R : V → V → Hp → Prop} (g : Good K ρ σ H w t) {d1 d2 : D} {q1 q2 : Nat} (e1 : fa ρ = some (d1, q1, ρ1)) (e2 : fb ρ1 = some (d2, q2, ρ2))
    (k : ∀ x y H2 w2 F1 F2, Good K ρ2 σ H2 w2 (t + 2) → Go H w H2 w2 → Rep K H2 w2 (.t t) q1 d1 x F1 → Rep K H2 w2 (.t (t + 1)) q2 d2 y F2 → R x y H2) :
    tD K fa σ H fun x H1 => tD K fb σ H1 fun y H2 => R x y H2 :=
  ⟨ρ, w, t, d1, q1, ρ1, g, e1, fun x H1 w1 F1 g1 go1 r1 => ⟨ρ1, w1, t + 1, d2, q2, ρ2, g1, e2, fun y H2 w2 F2 g2 go2 r2 => k x y H2 w2 F1 F2 g2 (go1.trans go2) (r1.gone g1.wl go2) r2⟩⟩
theorem fin0 {r : D} {q : Nat} {v : V} {H2 : Hp} {w2 : Wn} {t2 : Nat} (k : ∀ v H' w' F, Good K ρ' σ H' w' (t + 1) → Go H w H' w' → Rep K H' w' (.t t) q r v F → Q v H') (g : Good K ρ σ H w t) (g2 : Good K ρ' σ H2 w2 t2) (go : Go H w H2 w2)
    (rr : Rep K H2 (dropT t w2) (.t t) q r v []) : Q v H2 := k v H2 (dropT t w2) [] g2.drop.up (go.drop g.wt) rr
noncomputable def setW (p : Addr) (o : Ow) (w : Wn) : Wn := fun a => if a = p then some o else w a
theorem setW_same {p : Addr} {o : Ow} {w : Wn} : setW p o w p = some o := if_pos rfl
theorem setW_ne {p a : Addr} {o : Ow} {w : Wn} (h : a ≠ p) : setW p o w a = w a := if_neg h
theorem alloc {H1 : Hp} {p : Addr} {vs : List V} {ds : List D} {w1 : Wn} (g : Good K ρ σ H1 w1 t) (hp : H1 p = none) (r : Reps K H1 w1 .f 0 ds vs []) :
    Good K ρ σ (upd H1 p (.lst vs)) (setW p (.t t) w1) (t + 1) ∧ Go H1 w1 (upd H1 p (.lst vs)) (setW p (.t t) w1) ∧ Rep K (upd H1 p (.lst vs)) (setW p (.t t) w1) (.t t) 1 (.lst ds) (.ref p) [p] := by
  have ne : ∀ a x, H1 a = some x → a ≠ p := fun a x e => ne_of_none e hp
  have nw : ∀ a o, w1 a = some o → a ≠ p := fun a o e => by obtain ⟨vs, q⟩ := g.wl a o e; exact ne a _ q
  have st : Stab H1 w1 (upd H1 p (.lst vs)) (setW p (.t t) w1) := fun a x e n => ⟨sm (by rw [upd_ne (ne a x e)]; exact e), by rw [setW_ne (ne a x e)]; exact n⟩
  refine ⟨⟨⟨fun a o e => ?_, g.wl.tb.upd rfl (.inl hp)⟩, fun a i e => ?_, fun a i e => ?_, g.len, fun i d q e => ?_⟩, ⟨st, fun a o e _ => ⟨upd_ne (nw a o e), (setW_ne (nw a o e)).trans e⟩⟩, ?_⟩
  · by_cases h : a = p
    · subst h; exact ⟨vs, upd_same⟩
    · rw [setW_ne h] at e
      obtain ⟨us, q⟩ := g.wl a o e
      exact ⟨us, by rw [upd_ne h]; exact q⟩
  · by_cases h : a = p
    · subst h; rw [setW_same] at e; cases e
    · rw [setW_ne h] at e; exact g.ws a i e
  · by_cases h : a = p
    · subst h; rw [setW_same] at e; cases e; exact Nat.lt_succ_self _
    · rw [setW_ne h] at e; exact Nat.lt_succ_of_lt (g.wt a i e)
  · obtain ⟨v, F, h1, h2⟩ := g.slot i d q e
    exact ⟨v, F, h1, Rep.go g.wl st h2 fun a m => ⟨upd_ne (nw a _ (h2.owns a m)), (setW_ne (nw a _ (h2.owns a m))).trans (h2.owns a m)⟩⟩
  · exact .own upd_same setW_same (Reps.go g.wl st r (fun _ z => nomatch z)) (fun z => nomatch z)
theorem allocT {H1 : Hp} {p : Addr} {vs : List V} {ds : List D} {w1 : Wn} (g : Good K ρ σ H1 w1 t) (hp : H1 p = none) (r : Reps K H1 w1 .f 0 ds vs []) :
    Good K ρ σ (upd H1 p (.tup vs)) w1 (t + 1) ∧ Go H1 w1 (upd H1 p (.tup vs)) w1 ∧ Rep K (upd H1 p (.tup vs)) w1 (.t t) 9 (.tup ds) (.ref p) [] := by
  have ne : ∀ a x, H1 a = some x → a ≠ p := fun a x e => ne_of_none e hp
  have nw : ∀ a o, w1 a = some o → a ≠ p := fun a o e => by obtain ⟨vs, q⟩ := g.wl a o e; exact ne a _ q
  have st : Stab H1 w1 (upd H1 p (.tup vs)) w1 := fun a x e n => ⟨sm (by rw [upd_ne (ne a x e)]; exact e), n⟩
  refine ⟨⟨⟨fun a o e => ?_, g.wl.tb.upd rfl (.inl hp)⟩, g.ws, fun a i e => Nat.lt_succ_of_lt (g.wt a i e), g.len, fun i d q e => ?_⟩, ⟨st, fun a o e _ => ⟨upd_ne (nw a o e), e⟩⟩, ?_⟩
  · obtain ⟨us, q⟩ := g.wl a o e
    exact ⟨us, by rw [upd_ne (nw a o e)]; exact q⟩
  · obtain ⟨v, F, h1, h2⟩ := g.slot i d q e
    exact ⟨v, F, h1, Rep.go g.wl st h2 fun a m => ⟨upd_ne (nw a _ (h2.owns a m)), h2.owns a m⟩⟩
  · exact .tup upd_same (Reps.go g.wl st r (fun _ z => nomatch z))
end
@[simp] noncomputable def eC (d : D) : Den := fun ρ => some (d, 9, ρ)
@[simp] noncomputable def eVar (i : Nat) : Den := fun ρ => match ρ[i]? with
  | some (some (d, q)) => if d.isL = false then some (d, 9, ρ) else if q = 0 then some (d, 0, ρ) else some (d, 0, ρ.set i (some (d, 0)))
  | _ => none
section
variable {X : Cx} {a b c e : Expr} {fa fb fc f : Den} {pos : Pos}
theorem pd_const {v : V} {d : D} (h : PE X e (tC v)) (r : ∀ K H w o q, Rep K H w o q d v []) : PD X e (eC d) := PE.imp h fun σ H Q hh0 => by
  obtain ⟨ρ, w, t, r', q, ρ', g, ee, k⟩ := hh0
  cases ee
  exact k v H w [] g.up Go.refl (r _ _ _ _ _)
theorem pd_int {i j} : PD X (.Constant (.int i) j pos) (eC (.int i)) := pd_const pe_int fun _ _ _ _ _ => .int i
theorem pd_bl {i j} : PD X (.Constant (.bool i) j pos) (eC (.bl i)) := pd_const pe_bl fun _ _ _ _ _ => .bl i
theorem pd_non {j} : PD X (.Constant .none j pos) (eC .non) := pd_const pe_non fun _ _ _ _ _ => .non
theorem pd_str {x j} : PD X (.Constant (.str x) j pos) (eC (.str x)) := pd_const pe_str fun _ _ _ _ _ => .str x
noncomputable def giveS (i : Nat) (w : Wn) : Wn := fun a => if w a = some (.s i) then none else w a
theorem giveS_none {i : Nat} {w : Wn} {a : Addr} (h : w a = none) : giveS i w a = none := by unfold giveS; rw [h]; rfl
theorem giveS_this {i : Nat} {w : Wn} {a : Addr} (h : w a = some (.s i)) : giveS i w a = none := by unfold giveS; rw [if_pos h]
theorem giveS_ne {i : Nat} {w : Wn} {a : Addr} {o : Ow} (h : w a = some o) (n : o ≠ .s i) : giveS i w a = some o := by unfold giveS; rw [if_neg (by rw [h]; exact fun z => n (Option.some.inj z))]; exact h
theorem giveS_some {i : Nat} {w : Wn} {a : Addr} {o : Ow} (h : giveS i w a = some o) : w a = some o ∧ o ≠ .s i := by
  unfold giveS at h
  split at h
  · cases h
  · rename_i n; exact ⟨h, fun z => n (by rw [h, z])⟩
theorem Good.give {K : PySem.W.Frag} {ρ : Rho} {σ : St} {H : Hp} {w : Wn} {t i : Nat} {d : D} {q : Nat} (g : Good K ρ σ H w t) (e : ρ[i]? = some (some (d, q))) : Good K (ρ.set i (some (d, 0))) σ H (giveS i w) t ∧ Go H w H (giveS i w) := by
  have st : Stab H w H (giveS i w) := fun a x h n => ⟨sm h, giveS_none n⟩
  refine ⟨⟨⟨fun a o h => g.wl a o (giveS_some h).1, g.wl.tb⟩, fun a j h => g.ws a j (giveS_some h).1, fun a j h => g.wt a j (giveS_some h).1, by rw [List.length_set]; exact g.len, fun j d' q' e' => ?_⟩, ⟨st, fun a o h n => ⟨rfl, giveS_ne h (n i)⟩⟩⟩
  by_cases hj : i = j
  · subst hj
    rw [List.getElem?_set_self (List.getElem?_eq_some_iff.mp e).1] at e'
    cases e'
    obtain ⟨v, F, h1, h2⟩ := g.slot i d q e
    exact ⟨v, [], h1, Rep.freeze (fun a n => giveS_none n) h2 fun a m => giveS_this (h2.owns a m)⟩
  · rw [List.getElem?_set_ne hj] at e'
    obtain ⟨v, F, h1, h2⟩ := g.slot j d' q' e'
    exact ⟨v, F, h1, Rep.go g.wl st h2 fun a m => ⟨rfl, giveS_ne (h2.owns a m) (fun z => hj (by cases z; rfl))⟩⟩
theorem pd_var {i : Nat} {x : Str} (h : PE X (.Name x pos) (tVar i)) : PD X (.Name x pos) (eVar i) := PE.imp h fun σ H Q hh0 => by
  obtain ⟨ρ, w, t, r', q, ρ', g, ee, k⟩ := hh0
  unfold eVar at ee
  split at ee
  · rename_i d q0 e0
    obtain ⟨v, F, h1, h2⟩ := g.slot i d q0 e0
    refine ⟨v, h1, ?_⟩
    split at ee
    · rename_i hl
      cases ee
      obtain ⟨hF, hr⟩ := h2.nolist hl
      exact k v H w [] g.up Go.refl ((hr 9).any g.wl)
    · split at ee
      · rename_i hq
        subst hq
        cases ee
        have := h2.zero
        subst this
        exact k v H w [] g.up Go.refl (h2.any g.wl)
      · cases ee
        obtain ⟨g', go'⟩ := g.give e0
        refine k v H (giveS i w) [] g'.up go' ?_
        exact Rep.freeze (fun a n => giveS_none n) h2 fun a m => giveS_this (h2.owns a m)
  · cases ee
noncomputable def scalV : D → Option V
  | .non => some .non
  | .bl b => some (.bl b)
  | .int i => some (.int i)
  | .str x => some (.str x)
  | _ => none
theorem scal_rep {K : PySem.W.Frag} {H : Hp} {w : Wn} {o : Ow} {q : Nat} {d : D} {v : V} (h : scalV d = some v) : Rep K H w o q d v [] := by
  cases d <;> cases h
  · exact .non
  · exact .bl _
  · exact .int _
  · exact .str _
@[simp] noncomputable def e2 (g : D → D → Option D) (fa fb : Den) : Den := fun ρ => match fa ρ with
  | some (x, _, ρ1) => match fb ρ1 with
    | some (y, _, ρ2) => match g x y with
      | some d => some (d, 9, ρ2)
      | none => none
    | none => none
  | none => none
theorem e2_some {g : D → D → Option D} {ρ ρ' : Rho} {r : D} {q : Nat} (h : e2 g fa fb ρ = some (r, q, ρ')) : ∃ x q1 ρ1 y q2, fa ρ = some (x, q1, ρ1) ∧ fb ρ1 = some (y, q2, ρ') ∧ g x y = some r ∧ q = 9 := by
  unfold e2 at h
  split at h
  · rename_i x q1 ρ1 h1
    split at h
    · rename_i y q2 ρ2 h2
      split at h
      · rename_i d hd
        cases h
        exact ⟨x, q1, ρ1, y, q2, h1, h2, hd, rfl⟩
      · cases h
    · cases h
  · cases h
theorem tOp_of {K : PySem.W.Frag} {g : D → D → Option D} {r : R2} (hg : ∀ x y d, g x y = some d → ∃ v, scalV d = some v ∧ ∀ H w o o' q q' u u' F F', Rep K H w o q x u F → Rep K H w o' q' y u' F' → WL K w H → ∀ Q : VK, Q v H → r u u' H Q) :
    ∀ σ H Q, tD K (e2 g fa fb) σ H Q → tOp r (tD K fa) (tD K fb) σ H Q := fun σ H Q hh0 => by
  obtain ⟨ρ, w, t, r', q, ρ', gd, ee, k⟩ := hh0
  obtain ⟨x, q1, ρ1, y, q2, h1, h2, h3, rfl⟩ := e2_some ee
  obtain ⟨v, hv, hr⟩ := hg x y r' h3
  exact seq2 gd h1 h2 fun u u' H2 w2 F1 F2 g2 go r1 r2 => hr H2 w2 _ _ _ _ u u' F1 F2 r1 r2 g2.wl Q (fin0 k gd g2 go (scal_rep hv))
@[simp] noncomputable def gI (f : Int → Int → Option D) : D → D → Option D
  | .int i, .int j => f i j
  | _, _ => none
theorem gI_some {f : Int → Int → Option D} {x y d : D} (h : gI f x y = some d) : ∃ i j, x = .int i ∧ y = .int j ∧ f i j = some d := by
  unfold gI at h
  split at h
  · exact ⟨_, _, rfl, rfl, h⟩
  · cases h
theorem intOf {K : PySem.W.Frag} {H : Hp} {w : Wn} {o : Ow} {q : Nat} {i : Int} {v : V} {F : List Addr} (r : Rep K H w o q (.int i) v F) : v = .int i := by cases r; rfl
theorem tOp_int {K : PySem.W.Frag} {f : Int → Int → Option D} {C : Int → Int → Prop} {h : Int → Int → V} (hf : ∀ i j d, f i j = some d → C i j ∧ scalV d = some (h i j)) :
    ∀ σ H Q, tD K (e2 (gI f) fa fb) σ H Q → tOp (rI C h) (tD K fa) (tD K fb) σ H Q :=
  tOp_of fun x y d e => by
    obtain ⟨i, j, rfl, rfl, e⟩ := gI_some e
    obtain ⟨c, s⟩ := hf i j d e
    exact ⟨_, s, fun H w o o' q q' u u' F F' r1 r2 _ Q hq => ⟨i, j, intOf r1, intOf r2, c, hq⟩⟩
theorem tOp_int0 {K : PySem.W.Frag} {f : Int → Int → Option D} {h : Int → Int → V} (hf : ∀ i j d, f i j = some d → scalV d = some (h i j)) :
    ∀ σ H Q, tD K (e2 (gI f) fa fb) σ H Q → tOp (rI0 h) (tD K fa) (tD K fb) σ H Q :=
  tOp_of fun x y d e => by
    obtain ⟨i, j, rfl, rfl, e⟩ := gI_some e
    exact ⟨_, hf i j d e, fun H w o o' q q' u u' F F' r1 r2 _ Q hq => ⟨i, j, intOf r1, intOf r2, hq⟩⟩
end
end L3
set_option Elab.async false
set_option linter.all false
set_option maxRecDepth 100000
namespace L3
open PySem PySem.Spec PyProof.Rows L2
section
variable {X : Cx} {a b c e : Expr} {fa fb fc f : Den} {pos : Pos}
@[simp] noncomputable def dAdd : D → D → Option D := gI fun i j => some (.int (i + j))
@[simp] noncomputable def dMul : D → D → Option D := gI fun i j => if (-(2 ^ 64) < i ∧ i < 2 ^ 64) ∨ (-(2 ^ 64) < j ∧ j < 2 ^ 64) then some (.int (i * j)) else none
@[simp] noncomputable def dDiv : D → D → Option D := gI fun i j => if 0 < j ∧ j < 1073741824 then some (.int (i / j)) else none
@[simp] noncomputable def dMod : D → D → Option D := gI fun i j => if 0 < j then some (.int (i % j)) else none
theorem pd_add (ha : PD X a fa) (hb : PD X b fb) : PD X (.BinOp a .Add b pos) (e2 dAdd fa fb) := PE.imp (pe_op op_add ha hb) (tOp_int0 fun i j d h => by cases h; rfl)
theorem pd_mul (ha : PD X a fa) (hb : PD X b fb) : PD X (.BinOp a .Mult b pos) (e2 dMul fa fb) := PE.imp (pe_op op_mul ha hb) (tOp_int fun i j d h => by
  split at h
  · cases h; exact ⟨by assumption, rfl⟩
  · cases h)
theorem pd_div (ha : PD X a fa) (hb : PD X b fb) : PD X (.BinOp a .FloorDiv b pos) (e2 dDiv fa fb) := PE.imp (pe_op op_fdiv ha hb) (tOp_int fun i j d h => by
  split at h
  · cases h; exact ⟨by assumption, rfl⟩
  · cases h)
theorem pd_mod (ha : PD X a fa) (hb : PD X b fb) : PD X (.BinOp a .Mod b pos) (e2 dMod fa fb) := PE.imp (pe_op op_mod ha hb) (tOp_int fun i j d h => by
  split at h
  · cases h; exact ⟨by assumption, rfl⟩
  · cases h)
noncomputable def atD : D → Int → Option D
  | .lst ds, i => atI ds i
  | .tup ds, i => atI ds i
  | _, _ => none
@[simp] noncomputable def eIx (fa fb : Den) : Den := fun ρ => match fa ρ with
  | some (x, _, ρ1) => match fb ρ1 with
    | some (.int i, _, ρ2) => match atD x i with
      | some d => some (d, dep0 d, ρ2)
      | none => none
    | _ => none
  | none => none
theorem Rep.seqL {K : PySem.W.Frag} {H : Hp} {w : Wn} {o : Ow} {q : Nat} {ds : List D} {v : V} {F : List Addr} (r : Rep K H w o q (.lst ds) v F) : ∃ a vs q' G, v = .ref a ∧ SqL K H a vs ∧ Reps K H w o q' ds vs G := by
  cases r with
  | kl h r => exact ⟨_, _, _, _, rfl, h.sq, r⟩
  | shr h n r => exact ⟨_, _, _, _, rfl, .inl h, r⟩
  | own h n r _ => exact ⟨_, _, _, _, rfl, SqL.of h, r⟩
theorem Rep.seqL0 {K : PySem.W.Frag} {H : Hp} {w : Wn} {o : Ow} {ds : List D} {v : V} {F : List Addr} (r : Rep K H w o 0 (.lst ds) v F) : ∃ a vs, v = .ref a ∧ SqL K H a vs ∧ Reps K H w o 0 ds vs [] := by
  cases r with
  | kl h r => exact ⟨_, _, rfl, h.sq, r⟩
  | shr h n r => exact ⟨_, _, rfl, .inl h, r⟩
theorem Rep.seqT {K : PySem.W.Frag} {H : Hp} {w : Wn} {o : Ow} {q : Nat} {ds : List D} {v : V} {F : List Addr} (r : Rep K H w o q (.tup ds) v F) : ∃ a vs, v = .ref a ∧ SqT K H a vs ∧ Reps K H w o 0 ds vs [] := by
  cases r with
  | tup h r => exact ⟨_, _, rfl, SqT.of h, r⟩
theorem Rep.tupAt {K : PySem.W.Frag} {H : Hp} {w : Wn} {o : Ow} {q : Nat} {ds : List D} {v : V} {F : List Addr} (r : Rep K H w o q (.tup ds) v F) : ∃ a vs, v = .ref a ∧ H a = some (.tup vs) ∧ Reps K H w o 0 ds vs [] := by
  cases r with
  | tup h r => exact ⟨_, _, rfl, h, r⟩
theorem Reps.atI {K : PySem.W.Frag} {H : Hp} {w : Wn} {o : Ow} {ds : List D} {vs : List V} {i : Int} {d : D} (r : Reps K H w o 0 ds vs []) (h : L2.atI ds i = some d) : ∃ v, L2.atI vs i = some v ∧ Rep K H w o 0 d v [] := by
  unfold L2.atI at h ⊢
  rw [← r.length]
  cases e : ixN ds.length i with
  | none => rw [e] at h; cases h
  | some j =>
    rw [e] at h
    exact r.get h
theorem pd_ix (ha : PD X a fa) (hb : PD X b fb) (hs : PlainIx b := by exact fun _ _ => rfl) : PD X (.Subscript a b pos) (eIx fa fb) := PE.imp (pe_ix ix_seq ha hb hs) fun σ H Q hh0 => by
  obtain ⟨ρ, w, t, r', q, ρ', gd, ee, k⟩ := hh0
  unfold eIx at ee
  split at ee
  · rename_i x q1 ρ1 h1
    split at ee
    · rename_i i q2 ρ2 h2
      split at ee
      · rename_i d hd
        cases ee
        refine seq2 gd h1 h2 fun u u' H2 w2 F1 F2 g2 go r1 r2 => ?_
        have hu' := intOf r2
        subst hu'
        have r0 := r1.drop (o := .t t) (Nat.le_refl t)
        cases x with
        | lst ds =>
          obtain ⟨p, vs, rfl, hq, rs⟩ := r0.seqL0
          obtain ⟨v, hv, rv⟩ := rs.atI hd
          exact .inl ⟨p, vs, i, v, rfl, rfl, hq, hv, fin0 k gd g2 go rv.dep⟩
        | tup ds =>
          obtain ⟨p, vs, rfl, hq, rs⟩ := r0.seqT
          obtain ⟨v, hv, rv⟩ := rs.atI hd
          exact .inr (.inl ⟨p, vs, i, v, rfl, rfl, hq, hv, fin0 k gd g2 go rv.dep⟩)
        | _ => cases hd
      · cases ee
    · cases ee
  · cases ee
noncomputable abbrev DenA := Rho → Option (List D × Rho)
noncomputable def tDA (K : PySem.W.Frag) (f : DenA) : TA := fun σ H Q => ∃ ρ w t ds ρ', Good K ρ σ H w t ∧ f ρ = some (ds, ρ') ∧ ∀ vs H' w', Good K ρ' σ H' w' t → Go H w H' w' → Reps K H' w' .f 0 ds vs [] → Q vs H'
noncomputable abbrev PDA (X : Cx) (es : List Expr) (f : DenA) : Prop := PA X es (tDA X.K f)
theorem PA.imp {X : Cx} {e : List Expr} {t t' : TA} (h : PA X e t) (i : ∀ σ H Q, t' σ H Q → t σ H Q) : PA X e t' := fun pos pins s σ H Q I q => h pos pins s σ H Q I (i σ H Q q)
@[simp] noncomputable def aNil : DenA := fun ρ => some ([], ρ)
@[simp] noncomputable def aCons (f : Den) (g : DenA) : DenA := fun ρ => match f ρ with
  | some (d, _, ρ1) => match g ρ1 with
    | some (ds, ρ2) => some (d :: ds, ρ2)
    | none => none
  | none => none
theorem pda_nil : PDA X [] aNil := PA.imp pa_nil fun σ H Q hh0 => by
  obtain ⟨ρ, w, t, ds, ρ', gd, ee, k⟩ := hh0
  cases ee
  exact k [] H w gd Go.refl .nil
theorem pda_cons {es : List Expr} {g : DenA} (ha : PD X e f) (hr : PDA X es g) (hs : starEach (e :: es) X.env = (false, eval e X.env) :: starEach es X.env := by rfl) : PDA X (e :: es) (aCons f g) := PA.imp (pa_cons ha hr hs) fun σ H Q hh0 => by
  obtain ⟨ρ, w, t, ds, ρ', gd, ee, k⟩ := hh0
  unfold aCons at ee
  split at ee
  · rename_i d q ρ1 h1
    split at ee
    · rename_i ds' ρ2 h2
      cases ee
      refine ⟨ρ, w, t, d, q, ρ1, gd, h1, fun x H1 w1 F1 g1 go1 r1 => ⟨ρ1, dropT t w1, t, ds', _, g1.drop, h2, fun vs H2 w2 g2 go2 r2 => ?_⟩⟩
      have gl := (g1.drop (t' := t)).wl
      have r0 : Rep X.K H2 w2 .f 0 d x [] := Rep.go gl go2.stab (r1.drop (o := .f) (Nat.le_refl t)) (fun _ z => nomatch z)
      exact k (x :: vs) H2 w2 g2 ((go1.drop gd.wt).trans go2) (.cons (F := []) (G := []) r0 r2 (fun _ z => nomatch z))
    · cases ee
  · cases ee
@[simp] noncomputable def eLst (g : DenA) : Den := fun ρ => match g ρ with
  | some (ds, ρ1) => if ds.length ≤ 1000 then some (.lst ds, 1, ρ1) else none
  | none => none
@[simp] noncomputable def eTup (g : DenA) : Den := fun ρ => match g ρ with
  | some (ds, ρ1) => if ds.length ≤ 1000 then some (.tup ds, 9, ρ1) else none
  | none => none
theorem le1000 {n : Nat} (h : n ≤ 1000) : n ≤ sizeLine := Nat.le_of_lt (small1000 h)
theorem pd_lst {es : List Expr} {g : DenA} (h : PDA X es g) : PD X (.List es pos) (eLst g) := PE.imp (pe_lst h) fun σ H Q hh0 => by
  obtain ⟨ρ, w, t, r', q, ρ', gd, ee, k⟩ := hh0
  unfold eLst at ee
  split at ee
  · rename_i ds ρ1 h1
    split at ee
    · rename_i hl
      cases ee
      refine ⟨ρ, w, t, ds, _, gd, h1, fun vs H1 w1 g1 go1 r1 => ⟨by rw [← r1.length]; exact le1000 hl, fun p hp => ?_⟩⟩
      obtain ⟨a1, a2, a3⟩ := alloc g1 hp r1
      exact k _ _ _ _ a1 (go1.trans a2) a3
    · cases ee
  · cases ee
theorem pd_tup {es : List Expr} {g : DenA} {x1} (h : PDA X es g) : PD X (.Tuple es x1 pos) (eTup g) := PE.imp (pe_tup h) fun σ H Q hh0 => by
  obtain ⟨ρ, w, t, r', q, ρ', gd, ee, k⟩ := hh0
  unfold eTup at ee
  split at ee
  · rename_i ds ρ1 h1
    split at ee
    · rename_i hl
      cases ee
      refine ⟨ρ, w, t, ds, _, gd, h1, fun vs H1 w1 g1 go1 r1 => ⟨by rw [← r1.length]; exact le1000 hl, fun p hp => ?_⟩⟩
      obtain ⟨a1, a2, a3⟩ := allocT g1 hp r1
      exact k _ _ _ _ a1 (go1.trans a2) a3
    · cases ee
  · cases ee
noncomputable def spD (K : PySem.W.Frag) (n : Nat) (F : List D → Option (D × Nat)) : Sp := fun vs H Q _ => vs.length = n ∧ ∃ ds w r q, (∀ a o, w a = some o → o = .f) ∧ WL K w H ∧ Reps K H w .f 0 ds vs [] ∧ F ds = some (r, q) ∧
  ∀ v H' w' Fo, Go H w H' w' → WL K w' H' → Rep K H' w' (.t 0) q r v Fo → Q v H'
@[simp] noncomputable def eCall (F : List D → Option (D × Nat)) (n : Nat) (g : DenA) : Den := fun ρ => match g ρ with
  | some (ds, ρ1) => if ds.length = n then match F ds with
    | some (r, q) => some (r, q, ρ1)
    | none => none
    else none
  | none => none
theorem back {K : PySem.W.Frag} {ρ : Rho} {σ : St} {H H' : Hp} {w w' : Wn} {t q : Nat} {d : D} {v : V} {Fo : List Addr} (g : Good K ρ σ H w t)
    (go : Go H (fun a => (w a).map fun _ => Ow.f) H' w') (wl' : WL K w' H') (r : Rep K H' w' (.t 0) q d v Fo) :
    Good K ρ σ H' (fun a => if a ∈ Fo then some (.t t) else w a) (t + 1) ∧ Go H w H' (fun a => if a ∈ Fo then some (.t t) else w a) ∧ Rep K H' (fun a => if a ∈ Fo then some (.t t) else w a) (.t t) q d v Fo := by
  have kf : ∀ a o, w a = some o → H' a = H a ∧ w' a = some .f := fun a o e => go.keep a .f (by show (w a).map _ = _; rw [e]; rfl) (fun _ z => nomatch z)
  have nf : ∀ a x, H a = some x → a ∉ Fo := fun a x e m => by
    have h1 := r.owns a m
    cases ew : w a with
    | none =>
      have := (go.stab a x e (by show (w a).map _ = _; rw [ew]; rfl)).2
      rw [h1] at this; cases this
    | some o => rw [(kf a o ew).2] at h1; cases h1
  have nw : ∀ a o, w a = some o → a ∉ Fo := fun a o e => by obtain ⟨vs, q⟩ := g.wl a o e; exact nf a _ q
  have st : Stab H w H' (fun a => if a ∈ Fo then some (.t t) else w a) := fun a x e n => ⟨(go.stab a x e (by show (w a).map _ = _; rw [n]; rfl)).1, by show (if a ∈ Fo then _ else _) = _; rw [if_neg (nf a x e)]; exact n⟩
  have wv : ∀ a o, (if a ∈ Fo then some (Ow.t t) else w a) = some o → (a ∈ Fo ∧ o = .t t) ∨ w a = some o := fun a o e => by
    split at e
    · cases e; exact .inl ⟨by assumption, rfl⟩
    · exact .inr e
  refine ⟨⟨⟨fun a o e => ?_, wl'.tb⟩, fun a i e => ?_, fun a i e => ?_, g.len, fun i d q e => ?_⟩, ⟨st, fun a o e _ => ⟨(kf a o e).1, by show (if a ∈ Fo then _ else _) = _; rw [if_neg (nw a o e)]; exact e⟩⟩, ?_⟩
  · rcases wv a o e with ⟨m, _⟩ | z
    · exact wl' a _ (r.owns a m)
    · obtain ⟨vs, h⟩ := g.wl a o z
      exact ⟨vs, (kf a o z).1.trans h⟩
  · rcases wv a _ e with ⟨_, z⟩ | z
    · cases z
    · exact g.ws a i z
  · rcases wv a _ e with ⟨_, z⟩ | z
    · cases z; exact Nat.lt_succ_self _
    · exact Nat.lt_succ_of_lt (g.wt a i z)
  · obtain ⟨v, F, h1, h2⟩ := g.slot i d q e
    refine ⟨v, F, h1, Rep.go g.wl st h2 fun a m => ⟨(kf a _ (h2.owns a m)).1, ?_⟩⟩
    show (if a ∈ Fo then _ else _) = _
    rw [if_neg (nw a _ (h2.owns a m))]
    exact h2.owns a m
  · refine Rep.go wl' (fun a x e n => ⟨sm e, ?_⟩) r fun a m => ⟨rfl, if_pos m⟩
    show (if a ∈ Fo then _ else _) = _
    rw [if_neg (fun m => by have := r.owns a m; rw [n] at this; cases this)]
    cases ew : w a with
    | none => rfl
    | some o => have := (kf a o ew).2; rw [n] at this; cases this
theorem pd_callF {CX : CXT} {k n : Nat} {fn : Addr} {fd : FuncData} {ps : List Str} {x : Str} {p : Pos} {es : List Expr} {F : List D → Option (D × Nat)} {g : DenA} {E : XK} (Fk : FnOk X.prog X.w X.K X.mg X.base CX k fn fd ps (spD X.K n F)) (hr : Room k X.A) (hm : X.mg x = some (.ref fn)) (hk : PySem.W.keepIn X.K (.ref fn) = true) (hb : Binds X.K fd ps [])
    (hx : Passes CX X E) (ha : PDA X (e :: es) g) (hg : Gl X x := by rfl) (hdb : (x == ("__debug__" : Str)) = false := by decide) (he : starEach (e :: es) X.env = (false, eval e X.env) :: starEach es X.env := by rfl) (hpl : (backTo pos (starEach es X.env)).any (·.1) = false := by rfl) :
    PD X (.Call (.Name x p) (e :: es) [] pos) (eCall F n g) := PE.imp (pe_call Fk hr hg hm hk hb .nil hx ha hdb he hpl) fun σ H Q hh0 => by
  obtain ⟨ρ, w, t, r', q, ρ', gd, ee, k⟩ := hh0
  unfold eCall at ee
  split at ee
  · rename_i ds ρ1 h1
    split at ee
    · rename_i hn
      split at ee
      · rename_i r0 q0 h2
        cases ee
        refine ⟨ρ, w, t, ds, _, gd, h1, fun vs H1 w1 g1 go1 r1 => ?_⟩
        show spD X.K n F (vs ++ []) H1 Q E
        rw [List.append_nil]
        refine ⟨by rw [← r1.length]; exact hn, ds, fun a => (w1 a).map fun _ => Ow.f, r', q, fun a o e => ?_, ⟨fun a o e => ?_, g1.wl.tb⟩, ?_, h2, fun v H2 w2 Fo go2 wl2 rr => ?_⟩
        · dsimp only at e
          cases ew : w1 a with
          | none => rw [ew] at e; cases e
          | some o' => rw [ew] at e; cases e; rfl
        · try dsimp only at e
          cases ew : w1 a with
          | none => rw [ew] at e; cases e
          | some o' => exact g1.wl a o' ew
        · exact Reps.freeze (fun a n => by show (w1 a).map _ = _; rw [n]; rfl) r1 (fun _ z => nomatch z)
        · obtain ⟨b1, b2, b3⟩ := back g1 go2 wl2 rr
          exact k _ _ _ _ b1 (go1.trans b2) b3
      · cases ee
    · cases ee
  · cases ee
end
end L3
set_option Elab.async false
set_option linter.all false
set_option maxRecDepth 100000
namespace L3
open PySem PySem.Spec PyProof.Rows L2
noncomputable abbrev DenT := Rho → Option (Bool × Rho)
noncomputable def tDT (K : PySem.W.Frag) (f : DenT) : TT := fun σ H Q => ∃ ρ w t b ρ', Good K ρ σ H w t ∧ f ρ = some (b, ρ') ∧ ∀ H' w', Good K ρ' σ H' w' t → Go H w H' w' → Q b H'
theorem PT.imp {X : Cx} {e : Expr} {t t' : TT} (h : PT X e t) (i : ∀ σ H Q, t' σ H Q → t σ H Q) : PT X e t' := fun pins s σ H Q I q => h pins s σ H Q I (i σ H Q q)
theorem PW.imp {X : Cx} {e : Expr} {t t' : TT} (h : PW X e t) (i : ∀ σ H Q, t' σ H Q → t σ H Q) : PW X e t' := fun whole pins s σ H Q I q => h whole pins s σ H Q I (i σ H Q q)
noncomputable abbrev PDT (X : Cx) (e : Expr) (f : DenT) : Prop := PT X e (tDT X.K f)
noncomputable abbrev PDW (X : Cx) (e : Expr) (f : DenT) : Prop := PW X e (tDT X.K f)
@[simp] noncomputable def truD : D → Option Bool
  | .non => some false
  | .bl b => some b
  | .int i => some (i != 0)
  | .tup ds => some (!ds.isEmpty)
  | .lst ds => some (!ds.isEmpty)
  | .str _ => none
  | .dic _ _ => none
  | .exc _ => none
  | .ob _ _ _ _ => none
@[simp] noncomputable def tOfV (f : Den) : DenT := fun ρ => match f ρ with
  | some (d, _, ρ1) => match truD d with
    | some b => some (b, ρ1)
    | none => none
  | none => none
section
variable {X : Cx} {a b c e : Expr} {fa fb fc f : Den} {ga gb gc : DenT} {pos : Pos}
theorem empty_of {α β : Type} {l : List α} {l' : List β} (h : l.length = l'.length) : (!l.isEmpty) = !l'.isEmpty := by
  cases l <;> cases l' <;> first | rfl | cases h
theorem pdt_val (ha : PD X a fa) (he : ∀ whole, isTrue a X.env whole = (do let v ← whole; standAt a.pos; holding [v] (truthy v)) := by exact fun _ => rfl) : PDT X a (tOfV fa) := PT.imp (pt_truth ha he) fun σ H Q hh0 => by
  obtain ⟨ρ, w, t, b, ρ', gd, ee, k⟩ := hh0
  unfold tOfV at ee
  split at ee
  · rename_i d q ρ1 h1
    split at ee
    · rename_i b' hb
      cases ee
      refine ⟨ρ, w, t, d, q, _, gd, h1, fun v H1 w1 F g1 go1 r1 => ⟨b, ?_, k H1 (dropT t w1) g1.drop (go1.drop gd.wt)⟩⟩
      cases r1 with
      | non => cases hb; rfl
      | bl x => cases hb; rfl
      | int i => cases hb; rfl
      | str x => cases hb
      | tup h r => cases hb; exact .inr (.inl ⟨_, SqT.of h, empty_of r.length⟩)
      | dic h r => cases hb
      | exc h x n => cases hb
      | ob h1 h2 x r => cases hb
      | kl h r => cases hb; exact .inl ⟨_, h.sq, empty_of r.length⟩
      | shr h _ r => cases hb; exact .inl ⟨_, .inl h, empty_of r.length⟩
      | own h _ r _ => cases hb; exact .inl ⟨_, SqL.of h, empty_of r.length⟩
    · cases ee
  · cases ee
@[simp] noncomputable def tOfB (f : Den) : DenT := fun ρ => match f ρ with
  | some (.bl b, _, ρ1) => some (b, ρ1)
  | _ => none
theorem tTest_of {K : PySem.W.Frag} {te : TE} (h : ∀ σ H Q, tD K f σ H Q → te σ H Q) : ∀ σ H Q, tDT K (tOfB f) σ H Q → tTest te σ H Q := fun σ H Q hh0 => by
  obtain ⟨ρ, w, t, b, ρ', gd, ee, k⟩ := hh0
  unfold tOfB at ee
  split at ee
  · rename_i b' q ρ1 h1
    cases ee
    refine h σ H _ ⟨ρ, w, t, .bl b, q, _, gd, h1, fun v H1 w1 F g1 go1 r1 => ?_⟩
    cases r1
    exact ⟨b, rfl, k H1 (dropT t w1) g1.drop (go1.drop gd.wt)⟩
  · cases ee
theorem pdt_cmp {op : CmpOp} {g : D → D → Option D} {r : R2} (ho : OpR X (compareOp op) r) (hr : ∀ σ H Q, tD X.K (e2 g fa fb) σ H Q → tOp r (tD X.K fa) (tD X.K fb) σ H Q) (ha : PD X a fa) (hb : PD X b fb) (hm : behindInMarks op b = false) :
    PDT X (.Compare a [op] [b] pos) (tOfB (e2 g fa fb)) := PT.imp (pt_cmpR ho ha hb hm) (tTest_of hr)
theorem pd_cmp {op : CmpOp} {g : D → D → Option D} {r : R2} (ho : OpR X (compareOp op) r) (hr : ∀ σ H Q, tD X.K (e2 g fa fb) σ H Q → tOp r (tD X.K fa) (tD X.K fb) σ H Q) (ha : PD X a fa) (hb : PD X b fb) (hm : behindInMarks op b = false) :
    PD X (.Compare a [op] [b] pos) (e2 g fa fb) := PE.imp (pe_cmpR ho ha hb hm) hr
@[simp] noncomputable def dLt : D → D → Option D := gI fun i j => some (.bl (decide (i < j)))
@[simp] noncomputable def dLe : D → D → Option D := gI fun i j => some (.bl (decide (i ≤ j)))
@[simp] noncomputable def dGt : D → D → Option D := gI fun i j => some (.bl (decide (j < i)))
theorem hLt {K : PySem.W.Frag} : ∀ σ H Q, tD K (e2 dLt fa fb) σ H Q → tOp (rI0 fun i j => .bl (decide (i < j))) (tD K fa) (tD K fb) σ H Q := tOp_int0 fun i j d h => by cases h; rfl
theorem hGt {K : PySem.W.Frag} : ∀ σ H Q, tD K (e2 dGt fa fb) σ H Q → tOp (rI0 fun i j => .bl (decide (j < i))) (tD K fa) (tD K fb) σ H Q := tOp_int0 fun i j d h => by cases h; rfl
theorem pdt_lt (ha : PD X a fa) (hb : PD X b fb) : PDT X (.Compare a [.Lt] [b] pos) (tOfB (e2 dLt fa fb)) := pdt_cmp op_lt hLt ha hb (nomark _)
theorem pdt_gt (ha : PD X a fa) (hb : PD X b fb) : PDT X (.Compare a [.Gt] [b] pos) (tOfB (e2 dGt fa fb)) := pdt_cmp op_gt hGt ha hb (nomark _)
@[simp] noncomputable def tNotD (g : DenT) : DenT := fun ρ => match g ρ with
  | some (b, ρ1) => some (!b, ρ1)
  | none => none
theorem pdt_not (ha : PDT X a ga) : PDT X (.UnaryOp .Not a pos) (tNotD ga) := PT.imp (pt_not ha) fun σ H Q hh0 => by
  obtain ⟨ρ, w, t, b, ρ', gd, ee, k⟩ := hh0
  unfold tNotD at ee
  split at ee
  · rename_i b' ρ1 h1
    cases ee
    exact ⟨ρ, w, t, b', _, gd, h1, fun H1 w1 g1 go1 => k H1 w1 g1 go1⟩
  · cases ee
@[simp] noncomputable def tAndD (g h : DenT) : DenT := fun ρ => match g ρ with
  | some (b, ρ1) => if b = true then h ρ1 else some (false, ρ1)
  | none => none
@[simp] noncomputable def tOrD (g h : DenT) : DenT := fun ρ => match g ρ with
  | some (b, ρ1) => if b = true then some (true, ρ1) else h ρ1
  | none => none
variable {rest : List Expr}
theorem pdw_and1 (ha : PDT X a ga) : PDW X (.BoolOp .And [a] pos) ga := pw_and1 ha
theorem pdw_or1 (ha : PDT X a ga) : PDW X (.BoolOp .Or [a] pos) ga := pw_or1 ha
theorem pdw_and (ha : PDT X a ga) (hb : PDW X (.BoolOp .And (b :: rest) pos) gb) : PDW X (.BoolOp .And (a :: b :: rest) pos) (tAndD ga gb) := PW.imp (pw_and ha hb) fun σ H Q hh0 => by
  obtain ⟨ρ, w, t, b, ρ', gd, ee, k⟩ := hh0
  unfold tAndD at ee
  split at ee
  · rename_i b' ρ1 h1
    refine ⟨ρ, w, t, b', ρ1, gd, h1, fun H1 w1 g1 go1 => ?_⟩
    split at ee
    · rename_i hb; rw [if_pos hb]
      exact ⟨ρ1, w1, t, b, ρ', g1, ee, fun H2 w2 g2 go2 => k H2 w2 g2 (go1.trans go2)⟩
    · rename_i hb; rw [if_neg hb]
      cases ee
      exact k H1 w1 g1 go1
  · cases ee
theorem pdw_or (ha : PDT X a ga) (hb : PDW X (.BoolOp .Or (b :: rest) pos) gb) : PDW X (.BoolOp .Or (a :: b :: rest) pos) (tOrD ga gb) := PW.imp (pw_or ha hb) fun σ H Q hh0 => by
  obtain ⟨ρ, w, t, b, ρ', gd, ee, k⟩ := hh0
  unfold tOrD at ee
  split at ee
  · rename_i b' ρ1 h1
    refine ⟨ρ, w, t, b', ρ1, gd, h1, fun H1 w1 g1 go1 => ?_⟩
    split at ee
    · rename_i hb; rw [if_pos hb]
      cases ee
      exact k H1 w1 g1 go1
    · rename_i hb; rw [if_neg hb]
      exact ⟨ρ1, w1, t, b, ρ', g1, ee, fun H2 w2 g2 go2 => k H2 w2 g2 (go1.trans go2)⟩
  · cases ee
@[simp] noncomputable def eIf (g : DenT) (fa fb : Den) : Den := fun ρ => match g ρ with
  | some (b, ρ1) => if b = true then fa ρ1 else fb ρ1
  | none => none
theorem pd_ifExp (hc : PDT X c gc) (ha : PD X a fa) (hb : PD X b fb) : PD X (.IfExp c a b pos) (eIf gc fa fb) := PE.imp (pe_ifExp hc ha hb) fun σ H Q hh0 => by
  obtain ⟨ρ, w, t, r', q, ρ', gd, ee, k⟩ := hh0
  unfold eIf at ee
  split at ee
  · rename_i b' ρ1 h1
    refine ⟨ρ, w, t, b', ρ1, gd, h1, fun H1 w1 g1 go1 => ?_⟩
    split at ee
    · rename_i hb; rw [if_pos hb]
      exact ⟨ρ1, w1, t, r', q, ρ', g1, ee, fun v H2 w2 F g2 go2 => k v H2 w2 F g2 (go1.trans go2)⟩
    · rename_i hb; rw [if_neg hb]
      exact ⟨ρ1, w1, t, r', q, ρ', g1, ee, fun v H2 w2 F g2 go2 => k v H2 w2 F g2 (go1.trans go2)⟩
  · cases ee
end
inductive Out where
  | nx (ρ : Rho) | rt (d : D) (q : Nat) | bk (ρ : Rho) | ct (ρ : Rho)
noncomputable abbrev DenS := Rho → Option Out
noncomputable def EndsD (K : PySem.W.Frag) (Dn : Ends) (n : Nat) (H : Hp) (w : Wn) : Out → Prop
  | .nx ρ' => ∀ σ' H' w', σ'.length = n → Good K ρ' σ' H' w' 0 → Go H w H' w' → Dn.nx σ' H'
  | .bk ρ' => ∀ σ' H' w', σ'.length = n → Good K ρ' σ' H' w' 0 → Go H w H' w' → Dn.bk σ' H'
  | .ct ρ' => ∀ σ' H' w', σ'.length = n → Good K ρ' σ' H' w' 0 → Go H w H' w' → Dn.ct σ' H'
  | .rt d q => ∀ v H' w' F, WL K w' H' → Go H w H' w' → Rep K H' w' (.t 0) q d v F → Dn.rt v H'
noncomputable def tDS (K : PySem.W.Frag) (f : DenS) : TS := fun Dn σ H => ∃ ρ w o, Good K ρ σ H w 0 ∧ f ρ = some o ∧ EndsD K Dn σ.length H w o
theorem PS.imp {X : Cx} {e : Stmt} {t t' : TS} (h : PS X e t) (i : ∀ D σ H, t' D σ H → t D σ H) : PS X e t' := fun pins s σ H D I q => h pins s σ H D I (i D σ H q)
theorem PSs.imp {X : Cx} {e : List Stmt} {t t' : TS} (h : PSs X e t) (i : ∀ D σ H, t' D σ H → t D σ H) : PSs X e t' := fun pins s σ H D I q => h pins s σ H D I (i D σ H q)
noncomputable abbrev PDS (X : Cx) (st : Stmt) (f : DenS) : Prop := PS X st (tDS X.K f)
noncomputable abbrev PDSs (X : Cx) (st : List Stmt) (f : DenS) : Prop := PSs X st (tDS X.K f)
@[simp] noncomputable def sNil : DenS := fun ρ => some (.nx ρ)
@[simp] noncomputable def sSeq (f g : DenS) : DenS := fun ρ => match f ρ with
  | some (.nx ρ1) => g ρ1
  | o => o
theorem EndsD.trans {K : PySem.W.Frag} {Dn : Ends} {n : Nat} {H H1 : Hp} {w w1 : Wn} (go : Go H w H1 w1) : ∀ {o : Out}, EndsD K Dn n H w o → EndsD K Dn n H1 w1 o
  | .nx _, h => fun σ' H' w' e g go' => h σ' H' w' e g (go.trans go')
  | .bk _, h => fun σ' H' w' e g go' => h σ' H' w' e g (go.trans go')
  | .ct _, h => fun σ' H' w' e g go' => h σ' H' w' e g (go.trans go')
  | .rt _ _, h => fun v H' w' F wl go' => h v H' w' F wl (go.trans go')
section
variable {X : Cx} {a b c e : Expr} {fa fb fc f : Den} {ga gb gc : DenT} {pos : Pos} {st : Stmt} {rest sa sb : List Stmt} {s s' : DenS}
theorem pds_nil : PDSs X [] sNil := PSs.imp pss_nil fun D σ H hh0 => by
  obtain ⟨ρ, w, o, g, ee, k⟩ := hh0
  cases ee
  exact k σ H w rfl g Go.refl
theorem pds_cons (h1 : PDS X st s) (h2 : PDSs X rest s') : PDSs X (st :: rest) (sSeq s s') := PSs.imp (pss_cons h1 h2) fun D σ H hh0 => by
  obtain ⟨ρ, w, o, g, ee, k⟩ := hh0
  unfold sSeq at ee
  split at ee
  · rename_i ρ1 h1
    exact ⟨ρ, w, .nx ρ1, g, h1, fun σ' H' w' e g' go' => ⟨ρ1, w', o, g', ee, by rw [e]; exact k.trans go'⟩⟩
  · rename_i hne
    refine ⟨ρ, w, o, g, ee, ?_⟩
    cases o with
    | nx ρ1 => exact absurd ee (hne ρ1)
    | bk ρ1 => exact k
    | ct ρ1 => exact k
    | rt d q => exact k
theorem pds_one (h1 : PDS X st s) : PDSs X [st] s := pss_one h1
@[simp] noncomputable def sRet (f : Den) : DenS := fun ρ => match f ρ with
  | some (d, q, _) => some (.rt d q)
  | none => none
theorem pds_ret (h : PD X e f) : PDS X (.Return (some e) pos) (sRet f) := PS.imp (ps_ret h) fun D σ H hh0 => by
  obtain ⟨ρ, w, o, g, ee, k⟩ := hh0
  unfold sRet at ee
  split at ee
  · rename_i d q ρ1 h1
    cases ee
    exact ⟨ρ, w, 0, d, q, ρ1, g, h1, fun v H' w' F g' go' r => k v H' w' F g'.wl go' r⟩
  · cases ee
@[simp] noncomputable def sIf (g : DenT) (s s' : DenS) : DenS := fun ρ => match g ρ with
  | some (b, ρ1) => if b = true then s ρ1 else s' ρ1
  | none => none
theorem pds_if (hc : PDT X c gc) (ha : PDSs X sa s) (hb : PDSs X sb s') : PDS X (.If c sa sb pos) (sIf gc s s') := PS.imp (ps_if hc ha hb) fun D σ H hh0 => by
  obtain ⟨ρ, w, o, g, ee, k⟩ := hh0
  unfold sIf at ee
  split at ee
  · rename_i b' ρ1 h1
    refine ⟨ρ, w, 0, b', ρ1, g, h1, fun H1 w1 g1 go1 => ?_⟩
    split at ee
    · rename_i hb; rw [if_pos hb]
      exact ⟨ρ1, w1, o, g1, ee, k.trans go1⟩
    · rename_i hb; rw [if_neg hb]
      exact ⟨ρ1, w1, o, g1, ee, k.trans go1⟩
  · cases ee
noncomputable def moveW (t i : Nat) (w : Wn) : Wn := fun a => if w a = some (.t t) then some (.s i) else if w a = some (.s i) then none else w a
theorem Good.set {K : PySem.W.Frag} {ρ : Rho} {σ : St} {H : Hp} {w : Wn} {i q : Nat} {d : D} {v : V} {F : List Addr} (g : Good K ρ σ H w 1) (hi : i < σ.length) (r : Rep K H w (.t 0) q d v F) :
    Good K (ρ.set i (some (d, q))) (σ.set i (some v)) H (moveW 0 i w) 0 ∧ ∀ H₀ w₀, Go H₀ w₀ H w → (∀ a j, w₀ a = some (.t j) → j < 0) → Go H₀ w₀ H (moveW 0 i w) := by
  have mN : ∀ a, w a = none → moveW 0 i w a = none := fun a e => by unfold moveW; rw [e]; rfl
  have mT : ∀ a, w a = some (.t 0) → moveW 0 i w a = some (.s i) := fun a e => by unfold moveW; rw [if_pos e]
  have mS : ∀ a j, w a = some (.s j) → j ≠ i → moveW 0 i w a = some (.s j) := fun a j e n => by
    unfold moveW
    rw [if_neg (by rw [e]; exact fun z => nomatch z), if_neg (by rw [e]; intro z; cases z; exact n rfl)]
    exact e
  have mF : ∀ a, w a = some .f → moveW 0 i w a = some .f := fun a e => by
    unfold moveW
    rw [if_neg (by rw [e]; exact fun z => nomatch z), if_neg (by rw [e]; exact fun z => nomatch z)]
    exact e
  have mI : ∀ a o, moveW 0 i w a = some o → (w a = some (.t 0) ∧ o = .s i) ∨ (w a = some o ∧ o ≠ .s i ∧ o ≠ .t 0) := fun a o e => by
    unfold moveW at e
    split at e
    · cases e; exact .inl ⟨by assumption, rfl⟩
    · rename_i n1
      split at e
      · cases e
      · rename_i n2; exact .inr ⟨e, fun z => n2 (by rw [e, z]), fun z => n1 (by rw [e, z])⟩
  have st : Stab H w H (moveW 0 i w) := fun a x h n => ⟨sm h, mN a n⟩
  refine ⟨⟨⟨fun a o e => ?_, g.wl.tb⟩, fun a j e => ?_, fun a j e => ?_, by rw [List.length_set, List.length_set]; exact g.len, fun j d' q' e' => ?_⟩, fun H₀ w₀ go hw => ⟨fun a x h n => ⟨(go.stab a x h n).1, mN a (go.stab a x h n).2⟩, fun a o e n => ?_⟩⟩
  · rcases mI a o e with ⟨z, _⟩ | ⟨z, _⟩
    · exact g.wl a _ z
    · exact g.wl a _ z
  · rw [List.length_set]
    rcases mI a _ e with ⟨_, z⟩ | ⟨z, _⟩
    · cases z; exact hi
    · exact g.ws a j z
  · rcases mI a _ e with ⟨_, z⟩ | ⟨z, _, n⟩
    · cases z
    · have := g.wt a j z
      have : j = 0 := by omega
      subst this
      exact absurd rfl n
  · by_cases hj : i = j
    · subst hj
      rw [List.getElem?_set_self (by rw [g.len]; exact hi)] at e'
      cases e'
      exact ⟨v, F, List.getElem?_set_self hi, Rep.go g.wl st r fun a m => ⟨rfl, mT a (r.owns a m)⟩⟩
    · rw [List.getElem?_set_ne hj] at e'
      obtain ⟨v', F', h1, h2⟩ := g.slot j d' q' e'
      exact ⟨v', F', by rw [List.getElem?_set_ne hj]; exact h1, Rep.go g.wl st h2 fun a m => ⟨rfl, mS a j (h2.owns a m) (fun z => hj z.symm)⟩⟩
  · obtain ⟨h1, h2⟩ := go.keep a o e n
    refine ⟨h1, ?_⟩
    cases o with
    | s j => exact absurd rfl (n j)
    | f => exact mF a h2
    | t j => exact absurd (hw a j e) (Nat.not_lt_zero _)
@[simp] noncomputable def sSet (i : Nat) (f : Den) : DenS := fun ρ => match f ρ with
  | some (d, q, ρ1) => some (.nx (ρ1.set i (some (d, q))))
  | none => none
theorem sSet_ok {K : PySem.W.Frag} {i : Nat} {D : Ends} {σ : St} {H : Hp} {te : TE} (hi : i < σ.length) (he : ∀ Q, tD K f σ H Q → te σ H Q) (h : tDS K (sSet i f) D σ H) : te σ H fun x H1 => D.nx (σ.set i (some x)) H1 := by
  obtain ⟨ρ, w, o, g, ee, k⟩ := h
  unfold sSet at ee
  split at ee
  · rename_i d q ρ1 h1
    cases ee
    refine he _ ⟨ρ, w, 0, d, q, ρ1, g, h1, fun v H' w' F g' go' r => ?_⟩
    obtain ⟨a1, a2⟩ := g'.set hi r
    exact k _ _ _ (by rw [List.length_set]) a1 (a2 _ _ go' g.wt)
  · cases ee
theorem pds_set {i : Nat} {x : Str} {pos' : Pos} (hN : X.N.Nodup) (hi : X.N[i]? = some x) (hx : Loc X.env.scope x) (he : PD X e f) (hs : swapsWith e (some (.Name x pos')) pos.line X.env = pure false := by rfl) (hf : X.fn x = true ∨ X.env.scope.names.lookup x = some .local := by first | exact .inl rfl | exact .inr rfl) :
    PDS X (.Assign [.Name x pos'] e pos) (sSet i f) := by
  intro pins s σ H D I h
  have hl : i < σ.length := by rw [I.len]; exact (List.getElem?_eq_some_iff.mp hi).1
  exact ps_set (te := tD X.K f) hN hi hx he hs hf pins s σ H D I (sSet_ok hl (fun _ z => z) h)
@[simp] noncomputable def sDrop (f : Den) : DenS := fun ρ => match f ρ with
  | some (_, _, ρ1) => some (.nx ρ1)
  | none => none
theorem pds_expr (he : PD X e f) (hs : swapsWith e none pos.line X.env = pure false := by rfl) : PDS X (.Expr e pos) (sDrop f) := PS.imp (ps_expr he hs) fun D σ H hh0 => by
  obtain ⟨ρ, w, o, g, ee, k⟩ := hh0
  unfold sDrop at ee
  split at ee
  · rename_i d q ρ1 h1
    cases ee
    exact ⟨ρ, w, 0, d, q, ρ1, g, h1, fun v H' w' F g' go' r => k σ H' (dropT 0 w') rfl g'.drop (go'.drop g.wt)⟩
  · cases ee
end
end L3
set_option Elab.async false
set_option linter.all false
set_option maxRecDepth 100000
namespace L3
open PySem PySem.Spec PyProof.Rows L2
structure Mo (K : PySem.W.Frag) (H H' : Hp) : Prop where
  mo : ∀ a o, H a = some o → H' a = some o
  tb : TB K H → TB K H'
theorem Mo.rfl' {K : PySem.W.Frag} {H : Hp} : Mo K H H := ⟨fun _ _ e => e, fun t => t⟩
structure ItOk (K : PySem.W.Frag) (J : It) (ds : List D) (P : Hp → Wn → Prop) : Prop where
  go : ∀ i H w, P H w → i < ds.length → J.go i H
  yld : ∀ i H w x H' d, P H w → WL K w H → ds[i]? = some d → J.yld i H x H' → Mo K H H' ∧ Rep K H' w .f 0 d x [] ∧ P H' w
  stop : ∀ H w, P H w → J.stop ds.length H
  st : ∀ H w H' w', P H w → WL K w H → Stab H w H' w' → P H' w'
noncomputable abbrev DenI := Rho → Option (List D × Rho)
noncomputable def tDI (K : PySem.W.Frag) (f : DenI) : TI := fun σ H R => ∃ ρ w t ds ρ', Good K ρ σ H w t ∧ f ρ = some (ds, ρ') ∧
  ∀ J P H' w', Good K ρ' σ H' w' t → Go H w H' w' → ItOk K J ds P → P H' w' → ds.length < sizeLine → R J H'
theorem PI.imp {X : Cx} {tg e : Expr} {t t' : TI} (h : PI X tg e t) (i : ∀ σ H R, t' σ H R → t σ H R) : PI X tg e t' := fun pins s σ H R I q => h pins s σ H R I (i σ H R q)
noncomputable abbrev PDI (X : Cx) (tg e : Expr) (f : DenI) : Prop := PI X tg e (tDI X.K f)
theorem It.list {K : PySem.W.Frag} {a : Addr} {vs : List V} {ds : List D} (hl : ds.length = vs.length) : ItOk K (Itl K a) ds fun H w => (KL K a vs ∨ (Rd H a (.lst vs) ∧ w a = none)) ∧ Reps K H w .f 0 ds vs [] := by
  have sq : ∀ {H : Hp} {w : Wn}, KL K a vs ∨ (Rd H a (.lst vs) ∧ w a = none) → SqL K H a vs := fun h => h.elim (fun z => z.sq) fun z => .inl z.1
  refine ⟨fun i H w p hi => ⟨vs, vs[i], sq p.1, by simp [hl ▸ hi]⟩, fun i H w x H' d p wl hd y => ?_, fun H w p => ⟨vs, sq p.1, by omega⟩, fun H w H' w' p wl st => ?_⟩
  · obtain ⟨rfl, hx⟩ := y
    obtain ⟨v, hv, rv⟩ := p.2.get hd
    have := hx vs (sq p.1)
    rw [hv] at this
    cases this
    exact ⟨Mo.rfl', rv, p⟩
  · refine ⟨?_, Reps.go wl st p.2 (fun _ z => nomatch z)⟩
    rcases p.1 with p | ⟨p, n⟩
    · exact .inl p
    · exact .inr (RdL.go st n p)
theorem It.tup {K : PySem.W.Frag} {a : Addr} {vs : List V} {ds : List D} (hl : ds.length = vs.length) : ItOk K (Itt K a) ds fun H w => SqT K H a vs ∧ Reps K H w .f 0 ds vs [] :=
  ⟨fun i H w p hi => ⟨vs, vs[i], p.1, by simp [hl ▸ hi]⟩, fun i H w x H' d p wl hd y => by
    obtain ⟨rfl, hx⟩ := y
    obtain ⟨v, hv, rv⟩ := p.2.get hd
    have := hx vs p.1
    rw [hv] at this
    cases this
    exact ⟨Mo.rfl', rv, p⟩, fun H w p => ⟨vs, p.1, by omega⟩, fun H w H' w' p wl st => ⟨SqT.go wl st p.1, Reps.go wl st p.2 (fun _ z => nomatch z)⟩⟩
noncomputable def rangeV (n : Nat) : List V := (List.range n).map fun i => .int (Int.ofNat i)
noncomputable def rangeD (n : Nat) : List D := (List.range n).map fun i => .int (Int.ofNat i)
theorem rangeD_len (n : Nat) : (rangeD n).length = n := by simp [rangeD]
theorem rangeV_len (n : Nat) : (rangeV n).length = n := by simp [rangeV]
theorem It.range {K : PySem.W.Frag} {n : Nat} : ItOk K (Itr 0 n) (rangeD n) fun _ _ => True := by
  refine ⟨fun i H w _ hi => by rw [rangeD_len] at hi; exact hi, fun i H w x H' d _ _ hd y => ?_, fun H w _ => by rw [rangeD_len]; exact Nat.le_refl _, fun _ _ _ _ _ _ _ => trivial⟩
  have hi : i < n := by have := (List.getElem?_eq_some_iff.mp hd).1; rw [rangeD_len] at this; exact this
  have e : x = .int (0 + (i : Int)) := y.2
  have ed : d = .int (Int.ofNat i) := by
    have : (rangeD n)[i]? = some (.int (Int.ofNat i)) := by simp [rangeD, hi]
    rw [hd] at this
    exact Option.some.inj this
  obtain ⟨rfl, _⟩ := y
  subst ed
  rw [e, Int.zero_add]
  exact ⟨Mo.rfl', .int _, trivial⟩
theorem reps_ints {K : PySem.W.Frag} {H : Hp} {w : Wn} {o : Ow} : ∀ (ns : List Int), Reps K H w o 0 (ns.map D.int) (ns.map V.int) []
  | [] => .nil
  | n :: r => .cons (F := []) (G := []) (.int n) (reps_ints r) (fun _ z => nomatch z)
theorem reps_range {K : PySem.W.Frag} {H : Hp} {w : Wn} {o : Ow} (n : Nat) : Reps K H w o 0 (rangeD n) (rangeV n) [] := by
  have := reps_ints (K := K) (H := H) (w := w) (o := o) ((List.range n).map Int.ofNat)
  rw [List.map_map, List.map_map] at this
  exact this
section
variable {X : Cx} {tg a b c e : Expr} {fa fb fc f : Den} {ga gb gc : DenT} {pos p : Pos}
@[simp] noncomputable def iRange (g : DenA) : DenI := fun ρ => match g ρ with
  | some ([.int n], ρ1) => if -1000 ≤ n ∧ n ≤ 1000 then some (rangeD n.toNat, ρ1) else none
  | _ => none
theorem pdi_range1 {g : DenA} (hm : X.mg "range" = none) (ha : PDA X [a] g) (hg : Gl X "range" := by rfl) (hs : starEach [a] X.env = [(false, eval a X.env)] := by rfl) : PDI X tg (.Call (.Name "range" p) [a] [] pos) (iRange g) := PI.imp (pi_range1 hg hm ha hs) fun σ H R hh0 => by
  obtain ⟨ρ, w, t, ds, ρ', gd, ee, k⟩ := hh0
  unfold iRange at ee
  split at ee
  · rename_i n ρ1 h1
    split at ee
    · rename_i hn
      cases ee
      refine ⟨ρ, w, t, [.int n], _, gd, h1, fun vs H1 w1 g1 go1 r1 => ?_⟩
      have hv : vs = [.int n] := by
        have l := r1.length
        match vs, l with
        | [v], _ =>
          obtain ⟨v', h1, h2⟩ := r1.get (i := 0) rfl
          cases h1
          rw [intOf h2]
      subst hv
      refine ⟨n, rfl, by omega, by omega, k _ _ H1 w1 g1 go1 It.range trivial ?_⟩
      rw [rangeD_len]
      exact small1000 (by omega)
    · cases ee
  · cases ee
noncomputable def iSeq (K : PySem.W.Frag) (tl : TE) : TI := fun σ H R => tl σ H fun x H1 => ∃ a, x = .ref a ∧ (((∃ xs, SqL K H1 a xs) ∧ R (Itl K a) H1) ∨ ((∃ xs, SqT K H1 a xs) ∧ R (Itt K a) H1))
theorem pi_seq {l : Expr} {tl : TE} (hl : PE X l tl) : PI X tg l (iSeq X.K tl) := by
  intro pins s σ H R I h
  refine thn (hl pins s σ H _ I h) fun v s1 ⟨x, H1, I1, r1, q1⟩ => ?_
  obtain ⟨a, e, q⟩ := q1
  subst e
  cases r1
  rcases q with ⟨⟨xs, hq⟩, q⟩ | ⟨⟨xs, hq⟩, q⟩
  · obtain ⟨its, rv, p, hz⟩ := I1.list hq
    refine wpAny_pyIter_list p.isList ?_
    refine ⟨s1.heap.objs.size, [s1.heap.objs.size], _, _, H1, rfl, I1.kept (t' := s1.toks) fun b o e => Heap.get?_push_of_some _ e, turn_list a _, ⟨_, Heap.get?_push_size _ rfl, rfl, rfl⟩, fun b hb => ?_, q⟩
    have e : b = s1.heap.objs.size := by simpa using hb
    subst e
    exact I1.fpOk (Nat.le_refl _) (I1.hok.fresh (Nat.le_refl _))
  · obtain ⟨its, rv, p, hz⟩ := I1.tuple hq
    refine wpAny_pyIter_tuple (show s1.heap.IsTuple a its.toArray from p) ?_
    refine ⟨s1.heap.objs.size, [s1.heap.objs.size], _, _, H1, rfl, I1.kept (t' := s1.toks) fun b o e => Heap.get?_push_of_some _ e, turn_tuple a _, ⟨_, Heap.get?_push_size _ rfl, rfl, rfl⟩, fun b hb => ?_, q⟩
    have e : b = s1.heap.objs.size := by simpa using hb
    subst e
    exact I1.fpOk (Nat.le_refl _) (I1.hok.fresh (Nat.le_refl _))
@[simp] noncomputable def iVal (f : Den) : DenI := fun ρ => match f ρ with
  | some (.lst ds, _, ρ1) => if ds.length ≤ 1000 then some (ds, ρ1) else none
  | some (.tup ds, _, ρ1) => if ds.length ≤ 1000 then some (ds, ρ1) else none
  | _ => none
theorem pdi_val (ha : PD X a fa) : PDI X tg a (iVal fa) := PI.imp (pi_seq ha) fun σ H R hh0 => by
  obtain ⟨ρ, w, t, ds, ρ', gd, ee, k⟩ := hh0
  unfold iVal at ee
  split at ee
  · rename_i ds' q ρ1 h1
    split at ee
    · rename_i hl
      cases ee
      refine ⟨ρ, w, t, .lst ds, q, ρ', gd, h1, fun v H1 w1 F g1 go1 r1 => ?_⟩
      have r0 := r1.drop (o := .f) (Nat.le_refl t)
      cases r0 with
      | kl h r => exact ⟨_, rfl, .inl ⟨⟨_, h.sq⟩, k _ _ H1 (dropT t w1) g1.drop (go1.drop gd.wt) (It.list r.length) ⟨.inl h, r⟩ (small1000 hl)⟩⟩
      | shr h n r => exact ⟨_, rfl, .inl ⟨⟨_, .inl h⟩, k _ _ H1 (dropT t w1) g1.drop (go1.drop gd.wt) (It.list r.length) ⟨.inr ⟨h, n⟩, r⟩ (small1000 hl)⟩⟩
    · cases ee
  · rename_i ds' q ρ1 h1
    split at ee
    · rename_i hl
      cases ee
      refine ⟨ρ, w, t, .tup ds, q, ρ', gd, h1, fun v H1 w1 F g1 go1 r1 => ?_⟩
      have r0 := r1.drop (o := .f) (Nat.le_refl t)
      cases r0 with
      | tup h r => exact ⟨_, rfl, .inr ⟨⟨_, SqT.of h⟩, k _ _ H1 (dropT t w1) g1.drop (go1.drop gd.wt) (It.tup r.length) ⟨SqT.of h, r⟩ (small1000 hl)⟩⟩
    · cases ee
  · cases ee
end
noncomputable abbrev DenP := D → Rho → Option Rho
noncomputable def tDG (K : PySem.W.Frag) (b : Nat) (pt : DenP) : TG := fun v σ H Q => ∃ d ρ w t ρ', Good K ρ σ H w t ∧ Rep K H w .f 0 d v [] ∧ pt d ρ = some ρ' ∧ ∀ σ' H' w', σ'.length = σ.length → (∀ i, i < b → σ'[i]? = σ[i]?) → Good K ρ' σ' H' w' t → Go H w H' w' → Q σ' H'
theorem PG.imp {X : Cx} {tg : Expr} {t t' : TG} (h : PG X tg t) (i : ∀ v σ H Q, t' v σ H Q → t v σ H Q) : PG X tg t' := fun pins s σ H v u Q I r q => h pins s σ H v u Q I r (i v σ H Q q)
noncomputable abbrev PDG (X : Cx) (b : Nat) (tg : Expr) (pt : DenP) : Prop := PG X tg (tDG X.K b pt)
@[simp] noncomputable def pName (i : Nat) : DenP := fun d ρ => if i < ρ.length then some (ρ.set i (some (d, dep0 d))) else none
theorem Good.setV {K : PySem.W.Frag} {ρ : Rho} {σ : St} {H : Hp} {w : Wn} {t i : Nat} {d : D} {v : V} (g : Good K ρ σ H w t) (hi : i < σ.length) (r : Rep K H w .f 0 d v []) :
    Good K (ρ.set i (some (d, dep0 d))) (σ.set i (some v)) H (giveS i w) t ∧ Go H w H (giveS i w) := by
  have st : Stab H w H (giveS i w) := fun a x h n => ⟨sm h, giveS_none n⟩
  refine ⟨⟨⟨fun a o h => g.wl a o (giveS_some h).1, g.wl.tb⟩, fun a j h => by rw [List.length_set]; exact g.ws a j (giveS_some h).1, fun a j h => g.wt a j (giveS_some h).1, by rw [List.length_set, List.length_set]; exact g.len, fun j d' q' e' => ?_⟩, ⟨st, fun a o h n => ⟨rfl, giveS_ne h (n i)⟩⟩⟩
  by_cases hj : i = j
  · subst hj
    rw [List.getElem?_set_self (by rw [g.len]; exact hi)] at e'
    cases e'
    exact ⟨v, [], List.getElem?_set_self hi, (Rep.go g.wl st r (fun _ z => nomatch z) : Rep K H (giveS i w) (.s i) 0 d v []).dep⟩
  · rw [List.getElem?_set_ne hj] at e'
    obtain ⟨v', F, h1, h2⟩ := g.slot j d' q' e'
    exact ⟨v', F, by rw [List.getElem?_set_ne hj]; exact h1, Rep.go g.wl st h2 fun a m => ⟨rfl, giveS_ne (h2.owns a m) (fun z => hj (by cases z; rfl))⟩⟩
theorem pdg_name {X : Cx} {b i : Nat} {x : Str} {pos : Pos} (hb : b ≤ i) (hN : X.N.Nodup) (hi : X.N[i]? = some x) (hx : Loc X.env.scope x) (hf : X.fn x = true ∨ X.env.scope.names.lookup x = some .local := by first | exact .inl rfl | exact .inr rfl) : PDG X b (.Name x pos) (pName i) := PG.imp (pg_name hN hi hx hf) fun v σ H Q hh0 => by
  obtain ⟨d, ρ, w, t, ρ', g, r, e, k⟩ := hh0
  unfold pName at e
  split at e
  · rename_i hl
    cases e
    obtain ⟨a1, a2⟩ := g.setV (by rw [← g.len]; exact hl) r
    exact k _ _ _ (by rw [List.length_set]) (fun j hj => List.getElem?_set_ne (by omega)) a1 a2
  · cases e
noncomputable def forD (pt : DenP) (body : DenS) : List D → Rho → Option Out
  | [], ρ => some (.nx ρ)
  | d :: ds, ρ => match pt d ρ with
    | none => none
    | some ρ1 => match body ρ1 with
      | some (.nx ρ2) => forD pt body ds ρ2
      | some (.ct ρ2) => forD pt body ds ρ2
      | some (.bk ρ2) => some (.nx ρ2)
      | o => o
@[simp] noncomputable def sFor (it : DenI) (pt : DenP) (body : DenS) : DenS := fun ρ => match it ρ with
  | some (ds, ρ1) => forD pt body ds ρ1
  | none => none
theorem Reps.go0 {K : PySem.W.Frag} {H H' : Hp} {w w' : Wn} {ds : List D} {vs : List V} (r : Reps K H w .f 0 ds vs []) (wl : WL K w H) (st : Stab H w H' w') : Reps K H' w' .f 0 ds vs [] := Reps.go wl st r (fun _ z => nomatch z)
theorem Rep.go0 {K : PySem.W.Frag} {H H' : Hp} {w w' : Wn} {ds : D} {vs : V} (r : Rep K H w .f 0 ds vs []) (wl : WL K w H) (st : Stab H w H' w') : Rep K H' w' .f 0 ds vs [] := Rep.go wl st r (fun _ z => nomatch z)
theorem Reps.drop0 {K : PySem.W.Frag} {H : Hp} {w : Wn} : ∀ {ds : List D} {vs : List V} (i : Nat), Reps K H w .f 0 ds vs [] → Reps K H w .f 0 (ds.drop i) (vs.drop i) []
  | _, _, 0, r => r
  | ds, vs, i + 1, r => by
    generalize hF : ([] : List Addr) = F at r
    cases r with
    | nil => exact .nil
    | cons r s _ =>
      have h2 := s.zero
      have h1 := r.zero
      subst h2
      subst h1
      exact Reps.drop0 i s
theorem Good.more {K : PySem.W.Frag} {ρ : Rho} {σ : St} {H H' : Hp} {w : Wn} {t : Nat} (g : Good K ρ σ H w t) (hm : Mo K H H') : Good K ρ σ H' w t ∧ Go H w H' w := by
  have h := hm.mo
  have st : Stab H w H' w := fun a x e n => ⟨sm (h a x e), n⟩
  have kp : ∀ a o, w a = some o → H' a = H a := fun a o e => by
    obtain ⟨vs, q⟩ := g.wl a o e
    rw [q, h a _ q]
  refine ⟨⟨⟨fun a o e => ?_, hm.tb g.wl.tb⟩, g.ws, g.wt, g.len, fun i d q e => ?_⟩, st, fun a o e _ => ⟨kp a o e, e⟩⟩
  · obtain ⟨vs, q⟩ := g.wl a o e
    exact ⟨vs, h a _ q⟩
  · obtain ⟨v, F, h1, h2⟩ := g.slot i d q e
    exact ⟨v, F, h1, Rep.go g.wl st h2 fun a m => ⟨kp a _ (h2.owns a m), h2.owns a m⟩⟩
theorem pds_for {X : Cx} {tg iter : Expr} {body : List Stmt} {it : DenI} {pt : DenP} {s : DenS} {pos : Pos} (hp : PassesOwn (model X.prog X.w) X.A X.env X.xe) (hc : X.calm = true) (hi : PDI X tg iter it) (hg : PDG X 0 tg pt) (hb : PDSs X body s)
    (hs : ∀ x, foldedSetIterable iter X.env x = pure x := by intro _; rfl) : PDS X (.For tg iter body [] pos) (sFor it pt s) := PS.imp (ps_for hp hc hi hg hb hs) fun D σ H hh0 => by
  obtain ⟨ρ, w, o, g, ee, k⟩ := hh0
  unfold sFor at ee
  split at ee
  · rename_i ds ρ1 h1
    refine ⟨ρ, w, 0, ds, ρ1, g, h1, fun J P H1 w1 g1 go1 ok p1 hl => ?_⟩
    refine ⟨fun i m σ' H' => m = ds.length - i ∧ i ≤ ds.length ∧ σ'.length = σ.length ∧ ∃ ρ' w', Good X.K ρ' σ' H' w' 0 ∧ P H' w' ∧ forD pt s (ds.drop i) ρ' = some o ∧ EndsD X.K D σ.length H' w' o,
      ⟨ds.length, by simp, Nat.zero_le _, rfl, ρ1, w1, g1, p1, ee, k.trans go1⟩, ?_⟩
    rintro i m σ' H' ⟨rfl, hile, hσ, ρ', w', g', p', e', k'⟩
    by_cases hlt : i < ds.length
    · refine .inr ⟨ok.go i H' w' p' hlt, fun σ2 H2 => ds.length - (i + 1) = ds.length - (i + 1) ∧ i + 1 ≤ ds.length ∧ σ2.length = σ.length ∧ ∃ ρ2 w2, Good X.K ρ2 σ2 H2 w2 0 ∧ P H2 w2 ∧ forD pt s (ds.drop (i + 1)) ρ2 = some o ∧ EndsD X.K D σ.length H2 w2 o,
        fun σ2 H2 n2 => ⟨ds.length - (i + 1), by omega, n2⟩, fun x H2 hy => ?_⟩
      obtain ⟨mo, rx, p2⟩ := ok.yld i H' w' x H2 ds[i] p' g'.wl (List.getElem?_eq_getElem hlt) hy
      obtain ⟨g2, go2⟩ := g'.more mo
      have ed : ds.drop i = ds[i] :: ds.drop (i + 1) := List.drop_eq_getElem_cons hlt
      rw [ed] at e'
      unfold forD at e'
      split at e'
      · cases e'
      · rename_i ρ3 h3
        refine ⟨ds[i], ρ', w', 0, ρ3, g2, rx, h3, fun σ4 H4 w4 l4 _ g4 go4 => ?_⟩
        have p4 := ok.st _ _ _ _ p2 g2.wl go4.stab
        have nx : ∀ {ρ5 : Rho}, forD pt s (ds.drop (i + 1)) ρ5 = some o → ∀ σ5 H5 w5, σ5.length = σ4.length → Good X.K ρ5 σ5 H5 w5 0 → Go H4 w4 H5 w5 → ds.length - (i + 1) = ds.length - (i + 1) ∧ i + 1 ≤ ds.length ∧ σ5.length = σ.length ∧ ∃ ρ2 w2, Good X.K ρ2 σ5 H5 w2 0 ∧ P H5 w2 ∧ forD pt s (ds.drop (i + 1)) ρ2 = some o ∧ EndsD X.K D σ.length H5 w2 o := fun {ρ5} e5 σ5 H5 w5 l5 g5 go5 =>
          ⟨rfl, hlt, by rw [l5, l4, hσ], ρ5, w5, g5, ok.st _ _ _ _ p4 g4.wl go5.stab, e5, k'.trans ((go2.trans go4).trans go5)⟩
        cases h6 : s ρ3 with
        | none => rw [h6] at e'; cases e'
        | some o6 =>
          rw [h6] at e'
          refine ⟨ρ3, w4, o6, g4, h6, ?_⟩
          cases o6 with
          | nx ρ5 => exact nx e'
          | ct ρ5 => exact nx e'
          | bk ρ5 =>
            cases e'
            exact fun σ5 H5 w5 l5 g5 go5 => k' σ5 H5 w5 (by rw [l5, l4, hσ]) g5 ((go2.trans go4).trans go5)
          | rt d q =>
            cases e'
            exact fun v H5 w5 F wl5 go5 r5 => k' v H5 w5 F wl5 ((go2.trans go4).trans go5) r5
    · have hi' : i = ds.length := Nat.le_antisymm hile (Nat.not_lt.mp hlt)
      subst hi'
      refine .inl ⟨ok.stop H' w' p', ?_⟩
      have ed : ds.drop ds.length = [] := by simp
      rw [ed] at e'
      cases e'
      exact k' σ' H' w' hσ g' Go.refl
  · cases ee
@[simp] noncomputable def startD (n : Nat) (ds : List D) : Rho := ds.map (fun d => some (d, dep0 d)) ++ List.replicate (n - ds.length) none
@[simp] noncomputable def fnD (n : Nat) (body : DenS) : List D → Option (D × Nat) := fun ds => match body (startD n ds) with
  | some (.rt d q) => some (d, q)
  | some (.nx _) => some (.non, 9)
  | _ => none
theorem good_start {K : PySem.W.Frag} {H : Hp} {w : Wn} {N : List Str} {ds : List D} {vs : List V} (hw : ∀ a o, w a = some o → o = .f) (wl : WL K w H) (r : Reps K H w .f 0 ds vs []) : Good K (startD N.length ds) (start N vs) H w 0 := by
  refine ⟨wl, (fun a i e => by cases (hw a _ e)), (fun a i e => by cases (hw a _ e)), ?_, fun i d q e => ?_⟩
  · unfold startD L2.start
    rw [List.length_append, List.length_append, List.length_map, List.length_map, List.length_replicate, List.length_replicate, r.length]
  · unfold startD at e
    by_cases hi : i < ds.length
    · rw [List.getElem?_append_left (by simpa using hi), List.getElem?_map] at e
      cases h : ds[i]? with
      | none => rw [h] at e; cases e
      | some d' =>
        rw [h] at e
        cases e
        obtain ⟨v, hv, rv⟩ := r.get h
        refine ⟨v, [], ?_, (rv.any wl : Rep K H w (.s i) 0 d v []).dep⟩
        unfold L2.start
        rw [List.getElem?_append_left (by rw [List.length_map, ← r.length]; exact hi), List.getElem?_map, hv]
        rfl
    · rw [List.getElem?_append_right (by simpa using hi), List.getElem?_replicate] at e
      split at e <;> cases e
theorem fn_enter {K : PySem.W.Frag} {N : List Str} {n : Nat} {body : DenS} {vs : List V} {H : Hp} {Q : VK} {E : XK} (h : spD K n (fnD N.length body) vs H Q E) : tDS K body { nx := fun _ H' => Q .non H', rt := Q } (start N vs) H := by
  obtain ⟨hn, ds, w, r, q, hw, wl, rs, e, k⟩ := h
  unfold fnD at e
  split at e
  · rename_i d q' h1
    cases e
    exact ⟨_, w, _, good_start hw wl rs, h1, fun v H' w' F wl' go' r' => k v H' w' F go' wl' r'⟩
  · rename_i ρ' h1
    cases e
    exact ⟨_, w, _, good_start hw wl rs, h1, fun σ' H' w' _ g' go' => k .non H' w' [] go' g'.wl .non⟩
  · cases e
theorem fn_ok {P : Program} {wd : World} {K : PySem.W.Frag} {mg : Str → Option Value} {base : Heap} {x qual : Str} {st : Stmt} {f : Addr} {fd : FuncData} {N ps : List Str} {k : Nat} {body : DenS} (F : Fun K x qual st f fd) (S : FnScope N ps (defScope st))
    (h : ∀ (cdv : Value) (A : Around) (outer : List Env) (s : Shared) (H : Hp) (E : XK), Room k (A.deeper (envOfC qual (defScope st) s.heap.objs.size f cdv)) → PDSs (cxOf CX0 P wd K mg base N qual (defScope st) f cdv A outer s H E).nox (defBody st) body) :
    FnOk P wd K mg base CX0 (k + 1) f fd ps (spD K ps.length (fnD N.length body)) :=
  F.ok S (fun vs H Q E h => h.1) fun cdv A outer s H vs Q E hr hsp => ⟨_, h cdv A outer s H E hr, fn_enter hsp⟩
end L3
set_option Elab.async false
set_option linter.all false
set_option maxRecDepth 100000
namespace L3
open PySem PySem.Spec PyProof.Rows L2
noncomputable def compD (k : Nat) (pt : DenP) (tt : DenT) (te : Den) (deep : Bool) : List D → Rho → Option (List D × Rho)
  | [], ρ => some ([], ρ)
  | d :: ds, ρ => match pt d (ρ ++ List.replicate k none) with
    | none => none
    | some ρ1 => match tt ρ1 with
      | none => none
      | some (b, ρ2) => if b = true then (match te ρ2 with
          | none => none
          | some (v, q, ρ3) => if deep = true ∧ v.isL = true ∧ q ≠ 1 then none else match compD k pt tt te deep ds (ρ3.take ρ.length) with
            | none => none
            | some (vs, ρ4) => some (v :: vs, ρ4))
        else compD k pt tt te deep ds (ρ2.take ρ.length)
@[simp] noncomputable def eComp (k : Nat) (it : DenI) (pt : DenP) (tt : DenT) (te : Den) (deep : Bool) : Den := fun ρ => match it ρ with
  | some (ds, ρ1) => match compD k pt tt te deep ds ρ1 with
    | some (vs, ρ2) => some (.lst vs, if deep = true then 2 else 1, ρ2)
    | none => none
  | none => none
@[simp] noncomputable def tYesD : DenT := fun ρ => some (true, ρ)
theorem Good.ext {K : PySem.W.Frag} {ρ : Rho} {σ : St} {H : Hp} {w : Wn} {t : Nat} (g : Good K ρ σ H w t) (k : Nat) : Good K (ρ ++ List.replicate k none) (σ ++ List.replicate k none) H w t := by
  refine ⟨g.wl, fun a i e => by rw [List.length_append]; exact Nat.lt_of_lt_of_le (g.ws a i e) (Nat.le_add_right _ _), g.wt, by rw [List.length_append, List.length_append, List.length_replicate, List.length_replicate, g.len], fun i d q e => ?_⟩
  by_cases hi : i < ρ.length
  · rw [List.getElem?_append_left hi] at e
    obtain ⟨v, F, h1, h2⟩ := g.slot i d q e
    exact ⟨v, F, by rw [List.getElem?_append_left (by rw [← g.len]; exact hi)]; exact h1, h2⟩
  · rw [List.getElem?_append_right (by omega), List.getElem?_replicate] at e
    split at e <;> cases e
noncomputable def giveFrom (n : Nat) (w : Wn) : Wn := fun a => match w a with
  | some (.s i) => if n ≤ i then none else some (.s i)
  | x => x
theorem giveFrom_none {n : Nat} {w : Wn} {a : Addr} (h : w a = none) : giveFrom n w a = none := by unfold giveFrom; rw [h]
theorem giveFrom_lt {n : Nat} {w : Wn} {a : Addr} {i : Nat} (h : w a = some (.s i)) (hi : i < n) : giveFrom n w a = some (.s i) := by unfold giveFrom; rw [h]; exact if_neg (by omega)
theorem giveFrom_ns {n : Nat} {w : Wn} {a : Addr} {o : Ow} (h : w a = some o) (hn : ∀ i, o ≠ .s i) : giveFrom n w a = some o := by
  unfold giveFrom; rw [h]
  cases o with
  | s i => exact absurd rfl (hn i)
  | t i => rfl
  | f => rfl
theorem giveFrom_some {n : Nat} {w : Wn} {a : Addr} {o : Ow} (h : giveFrom n w a = some o) : w a = some o ∧ ∀ i, o = .s i → i < n := by
  unfold giveFrom at h
  cases e : w a with
  | none => rw [e] at h; cases h
  | some o' =>
    rw [e] at h
    cases o' with
    | t i => cases h; exact ⟨rfl, fun i z => nomatch z⟩
    | f => cases h; exact ⟨rfl, fun i z => nomatch z⟩
    | s i =>
      dsimp only at h
      split at h
      · cases h
      · cases h; exact ⟨rfl, fun j z => by cases z; omega⟩
theorem Good.cut {K : PySem.W.Frag} {ρ : Rho} {σ τ : St} {H : Hp} {w : Wn} {t : Nat} (g : Good K ρ (σ ++ τ) H w t) : Good K (ρ.take σ.length) σ H (giveFrom σ.length w) t ∧ Go H w H (giveFrom σ.length w) := by
  have st : Stab H w H (giveFrom σ.length w) := fun a x h n => ⟨sm h, giveFrom_none n⟩
  refine ⟨⟨⟨fun a o e => g.wl a o (giveFrom_some e).1, g.wl.tb⟩, fun a i e => (giveFrom_some e).2 i rfl, fun a i e => g.wt a i (giveFrom_some e).1, ?_, fun i d q e => ?_⟩, ⟨st, fun a o e n => ⟨rfl, giveFrom_ns e n⟩⟩⟩
  · rw [List.length_take, g.len, List.length_append]
    omega
  · by_cases hi : i < σ.length
    · rw [List.getElem?_take_of_lt hi] at e
      obtain ⟨v, F, h1, h2⟩ := g.slot i d q e
      rw [List.getElem?_append_left hi] at h1
      exact ⟨v, F, h1, Rep.go g.wl st h2 fun a m => ⟨rfl, giveFrom_lt (h2.owns a m) hi⟩⟩
    · rw [List.getElem?_take_eq_none (by omega)] at e
      cases e
theorem shape {σ σ' τ : St} (l : σ'.length = (σ ++ τ).length) (h : ∀ i, i < σ.length → σ'[i]? = (σ ++ τ)[i]?) : ∃ τ', σ' = σ ++ τ' ∧ τ'.length = τ.length := by
  refine ⟨σ'.drop σ.length, ?_, by rw [List.length_drop, l, List.length_append]; omega⟩
  have e : σ'.take σ.length = σ := by
    apply List.ext_getElem?
    intro i
    by_cases hi : i < σ.length
    · rw [List.getElem?_take_of_lt hi, h i hi, List.getElem?_append_left hi]
    · rw [List.getElem?_take_eq_none (by omega), List.getElem?_eq_none (by omega)]
  conv => lhs; rw [← List.take_append_drop σ.length σ', e]
noncomputable def dq (deep : Bool) : Nat := if deep = true then 1 else 0
noncomputable def sinkW (deep : Bool) (t : Nat) (w : Wn) : Wn := fun a => if w a = some (.t (t + 1)) then (if deep = true then some (.t t) else none) else w a
theorem sink {K : PySem.W.Frag} {ρ : Rho} {σ : St} {H : Hp} {w : Wn} {t q : Nat} {d : D} {v : V} {F : List Addr} {deep : Bool} (g : Good K ρ σ H w (t + 2)) (r : Rep K H w (.t (t + 1)) q d v F) (hq : ¬ (deep = true ∧ d.isL = true ∧ q ≠ 1)) :
    Good K ρ σ H (sinkW deep t w) (t + 1) ∧ (∃ F', Rep K H (sinkW deep t w) (.t t) (dq deep) d v F' ∧ ∀ a ∈ F', w a = some (.t (t + 1))) ∧ Stab H w H (sinkW deep t w) ∧ (∀ a o, w a = some o → o ≠ .t (t + 1) → sinkW deep t w a = some o) := by
  have hN : ∀ a, w a = none → sinkW deep t w a = none := fun a e => by unfold sinkW; rw [e]; rfl
  have hO : ∀ a o, w a = some o → o ≠ .t (t + 1) → sinkW deep t w a = some o := fun a o e n => by
    unfold sinkW
    rw [if_neg (by rw [e]; exact fun z => n (Option.some.inj z))]
    exact e
  have hI : ∀ a o, sinkW deep t w a = some o → (w a = some (.t (t + 1)) ∧ o = .t t) ∨ (w a = some o ∧ o ≠ .t (t + 1)) := fun a o e => by
    unfold sinkW at e
    split at e
    · split at e
      · cases e; exact .inl ⟨by assumption, rfl⟩
      · cases e
    · rename_i n; exact .inr ⟨e, fun z => n (by rw [e, z])⟩
  have st : Stab H w H (sinkW deep t w) := fun a x h n => ⟨sm h, hN a n⟩
  refine ⟨⟨⟨fun a o e => ?_, g.wl.tb⟩, fun a i e => ?_, fun a i e => ?_, g.len, fun i d' q' e' => ?_⟩, ?_, st, hO⟩
  · rcases hI a o e with ⟨z, _⟩ | ⟨z, _⟩ <;> exact g.wl a _ z
  · rcases hI a _ e with ⟨_, z⟩ | ⟨z, _⟩
    · cases z
    · exact g.ws a i z
  · rcases hI a _ e with ⟨_, z⟩ | ⟨z, n⟩
    · cases z; exact Nat.lt_succ_self _
    · have := g.wt a i z
      have : i ≠ t + 1 := fun z => n (by rw [z])
      omega
  · obtain ⟨v', F', h1, h2⟩ := g.slot i d' q' e'
    exact ⟨v', F', h1, Rep.go g.wl st h2 fun a m => ⟨rfl, hO a _ (h2.owns a m) (fun z => nomatch z)⟩⟩
  · cases deep with
    | false =>
      refine ⟨[], Rep.freeze hN r fun a m => ?_, fun _ z => nomatch z⟩
      unfold sinkW
      rw [if_pos (r.owns a m)]
      rfl
    | true =>
      have hT : ∀ a, w a = some (.t (t + 1)) → sinkW true t w a = some (.t t) := fun a e => by unfold sinkW; rw [if_pos e]; rfl
      cases hl : d.isL with
      | false =>
        obtain ⟨_, hr⟩ := r.nolist hl
        exact ⟨[], Rep.go g.wl st (hr 1) (fun _ z => nomatch z), fun _ z => nomatch z⟩
      | true =>
        have : q = 1 := by
          by_cases h : q = 1
          · exact h
          · exact absurd ⟨rfl, hl, h⟩ hq
        subst this
        exact ⟨F, Rep.go g.wl st r fun a m => ⟨rfl, hT a (r.owns a m)⟩, r.owns⟩
theorem allocQ {K : PySem.W.Frag} {ρ : Rho} {σ : St} {H1 : Hp} {w1 : Wn} {t q : Nat} {p : Addr} {vs : List V} {ds : List D} {F : List Addr} (g : Good K ρ σ H1 w1 (t + 1)) (hp : H1 p = none) (r : Reps K H1 w1 (.t t) q ds vs F) :
    Good K ρ σ (upd H1 p (.lst vs)) (setW p (.t t) w1) (t + 1) ∧ Go H1 w1 (upd H1 p (.lst vs)) (setW p (.t t) w1) ∧ Rep K (upd H1 p (.lst vs)) (setW p (.t t) w1) (.t t) (q + 1) (.lst ds) (.ref p) (p :: F) := by
  have ne : ∀ a x, H1 a = some x → a ≠ p := fun a x e => ne_of_none e hp
  have nw : ∀ a o, w1 a = some o → a ≠ p := fun a o e => by obtain ⟨vs, q⟩ := g.wl a o e; exact ne a _ q
  have st : Stab H1 w1 (upd H1 p (.lst vs)) (setW p (.t t) w1) := fun a x e n => ⟨sm (by rw [upd_ne (ne a x e)]; exact e), by rw [setW_ne (ne a x e)]; exact n⟩
  refine ⟨⟨⟨fun a o e => ?_, g.wl.tb.upd rfl (.inl hp)⟩, fun a i e => ?_, fun a i e => ?_, g.len, fun i d q e => ?_⟩, ⟨st, fun a o e _ => ⟨upd_ne (nw a o e), (setW_ne (nw a o e)).trans e⟩⟩, ?_⟩
  · by_cases h : a = p
    · subst h; exact ⟨vs, upd_same⟩
    · rw [setW_ne h] at e
      obtain ⟨us, q⟩ := g.wl a o e
      exact ⟨us, by rw [upd_ne h]; exact q⟩
  · by_cases h : a = p
    · subst h; rw [setW_same] at e; cases e
    · rw [setW_ne h] at e; exact g.ws a i e
  · by_cases h : a = p
    · subst h; rw [setW_same] at e; cases e; exact Nat.lt_succ_self _
    · rw [setW_ne h] at e; exact g.wt a i e
  · obtain ⟨v, F, h1, h2⟩ := g.slot i d q e
    exact ⟨v, F, h1, Rep.go g.wl st h2 fun a m => ⟨upd_ne (nw a _ (h2.owns a m)), (setW_ne (nw a _ (h2.owns a m))).trans (h2.owns a m)⟩⟩
  · exact .own upd_same setW_same (Reps.go g.wl st r fun a m => ⟨upd_ne (nw a _ (r.owns a m)), (setW_ne (nw a _ (r.owns a m))).trans (r.owns a m)⟩) fun m => absurd rfl (nw p _ (r.owns p m))
theorem comp_reads {K : PySem.W.Frag} {k : Nat} {it : DenI} {pt : DenP} {tt : DenT} {te : Den} {deep : Bool} : ∀ σ H Q, tD K (eComp k it pt tt te deep) σ H Q → tComp k (tDI K it) (tDG K σ.length pt) (tDT K tt) (tD K te) σ H Q := fun σ H Q hh0 => by
  obtain ⟨ρ, w, t, r', q, ρ', g, ee, kk⟩ := hh0
  unfold eComp at ee
  split at ee
  · rename_i ds ρ1 h1
    split at ee
    · rename_i all ρ2 h2
      cases ee
      refine ⟨ρ, w, t, ds, ρ1, g, h1, fun J P H1 w1 g1 go1 ok p1 hl => ?_⟩
      refine ⟨fun i m ys H' => m = ds.length - i ∧ i ≤ ds.length ∧ ys.length ≤ i ∧ ∃ ρ3 w3 zs F rest, Good K ρ3 σ H' w3 (t + 1) ∧ Go H w H' w3 ∧ P H' w3 ∧ Reps K H' w3 (.t t) (dq deep) zs ys F ∧
          compD k pt tt te deep (ds.drop i) ρ3 = some (rest, ρ') ∧ zs ++ rest = all,
        ⟨ds.length, by simp, Nat.zero_le _, Nat.le_refl _, ρ1, w1, [], [], all, g1.up, go1, p1, .nil, h2, rfl⟩, ?_⟩
      rintro i m ys H' ⟨rfl, hile, hys, ρ3, w3, zs, F, rest, g0, go0, p0, rz0, e3, ez⟩
      have hsz : ys.length < sizeLine := by omega
      refine ⟨Nat.le_of_lt hsz, ?_⟩
      by_cases hlt : i < ds.length
      · refine .inr ⟨ok.go i H' w3 p0 hlt, hsz, fun x H2 hy => ?_⟩
        obtain ⟨mo, rx, p3⟩ := ok.yld i H' w3 x H2 ds[i] p0 g0.wl (List.getElem?_eq_getElem hlt) hy
        obtain ⟨g3, go2⟩ := g0.more mo
        have go3 := go0.trans go2
        have rz := rz0.gone g0.wl go2
        have ed : ds.drop i = ds[i] :: ds.drop (i + 1) := List.drop_eq_getElem_cons hlt
        rw [ed] at e3
        unfold compD at e3
        split at e3
        · cases e3
        · rename_i ρ4 h4
          split at e3
          · cases e3
          · rename_i b ρ5 h5
            have gx := g3.ext k
            have lρ : ρ3.length = σ.length := g3.len
            refine ⟨ds[i], _, w3, t + 1, ρ4, gx, rx, h4, fun σ4 H4 w4 l4 s4 g4 go4 => ?_⟩
            obtain ⟨τ, rfl, lτ⟩ := shape l4 s4
            refine ⟨⟨τ, rfl, by rw [lτ, List.length_replicate]⟩, ρ4, w4, t + 1, b, ρ5, g4, h5, fun H5 w5 g5 go5 => ?_⟩
            have p5 := ok.st _ _ _ _ (ok.st _ _ _ _ p3 g3.wl go4.stab) g4.wl go5.stab
            have z5 : Reps K H5 w5 (.t t) (dq deep) zs ys F := (rz.gone g3.wl go4).gone g4.wl go5
            cases b with
            | false =>
              rw [if_neg (by decide)] at e3
              dsimp only
              rw [if_neg (by decide)]
              obtain ⟨gc, goc⟩ := g5.cut
              rw [lρ] at e3
              refine ⟨ds.length - (i + 1), by omega, rfl, hlt, by omega, _, _, zs, F, rest, gc, (go3.trans go4).trans (go5.trans goc), ok.st _ _ _ _ p5 g5.wl goc.stab, z5.gone g5.wl goc, e3, ez⟩
            | true =>
              rw [if_pos rfl] at e3
              dsimp only
              rw [if_pos rfl]
              split at e3
              · cases e3
              · rename_i d6 q6 ρ6 h6
                split at e3
                · cases e3
                · rename_i hq6
                  split at e3
                  · cases e3
                  · rename_i vs7 ρ7 h7
                    cases e3
                    refine ⟨ρ5, w5, t + 1, d6, q6, ρ6, g5, h6, fun v H6 w6 F6 g6 go6 r6 => ?_⟩
                    obtain ⟨gs, ⟨F', rs, hF'⟩, sts, hOs⟩ := sink g6 r6 hq6
                    obtain ⟨gc, goc⟩ := gs.cut
                    rw [lρ] at h7
                    have zs6 := z5.gone g5.wl go6
                    have zF : ∀ a ∈ F, w6 a = some (.t t) := zs6.owns
                    have zs7 : Reps K H6 (sinkW deep t w6) (.t t) (dq deep) zs ys F := Reps.go g6.wl sts zs6 fun a m => ⟨rfl, hOs a _ (zF a m) (by intro z; cases z)⟩
                    have gos : Go H w H6 (sinkW deep t w6) := by
                      have go : Go H w H6 w6 := (go3.trans go4).trans (go5.trans go6)
                      refine ⟨go.stab.trans sts, fun a o h n => ⟨(go.keep a o h n).1, hOs a o (go.keep a o h n).2 fun z => ?_⟩⟩
                      subst z
                      have := g.wt a _ h
                      omega
                    refine ⟨ds.length - (i + 1), by omega, rfl, hlt, by rw [List.length_append]; simp; omega, _, _, zs ++ [d6], F ++ F', vs7, gc, gos.trans goc, ok.st _ _ _ _ (ok.st _ _ _ _ p5 g5.wl go6.stab |> fun q => ok.st _ _ _ _ q g6.wl sts) gs.wl goc.stab,
                      ?_, h7, by rw [List.append_assoc]; exact ez⟩
                    refine (Reps.snoc rs zs7 fun a m m' => ?_).gone gs.wl goc
                    have h1 := zF a m
                    rw [hF' a m'] at h1
                    cases h1
      · have hi' : i = ds.length := Nat.le_antisymm hile (Nat.not_lt.mp hlt)
        subst hi'
        refine .inl ⟨ok.stop H' w3 p0, fun p hp => ?_⟩
        have ed : ds.drop ds.length = [] := by simp
        rw [ed] at e3
        cases e3
        rw [List.append_nil] at ez
        subst ez
        obtain ⟨a1, a2, a3⟩ := allocQ g0 hp rz0
        refine kk _ _ _ (p :: F) a1 (go0.trans a2) ?_
        cases deep <;> exact a3
    · cases ee
  · cases ee
section
variable {X : Cx} {k : Nat} {N' : List Str} {scope : Scope} {elt tg iter : Expr} {ifs : List Expr} {pos : Pos} {it : DenI} {pt : DenP} {tt : DenT} {te : Den}
noncomputable abbrev PDTs (X : Cx) (ifs : List Expr) (f : DenT) : Prop := PTs X ifs (tDT X.K f)
theorem pdts_nil : PDTs X [] tYesD := fun pins s σ H Q I hh0 => by
  obtain ⟨ρ, w, t, b, ρ', gd, ee, k⟩ := hh0
  cases ee
  exact pts_nil pins s σ H Q I (k H w gd Go.refl)
theorem pdts_one {c : Expr} {g : DenT} (h : PDT X c g) : PDTs X [c] g := pts_one h
theorem pd_comp (deep : Bool) (hc : X.calm = true) (S : CompOk X k N' scope) (hi : PDI X tg iter it) (hg : ∀ C s H fp, PDG (compCx X N' scope C s H fp) X.N.length tg pt) (ht : ∀ C s H fp, PDTs (compCx X N' scope C s H fp) ifs tt) (he : ∀ C s H fp, PD (compCx X N' scope C s H fp) elt te)
    (hs : ∀ x, foldedSetIterable iter X.env x = pure x := by intro _; rfl) : PD X (.ListComp elt [⟨tg, iter, ifs, 0⟩] scope pos) (eComp k it pt tt te deep) := by
  intro pins s σ H Q I h
  have := comp_reads σ H Q h
  rw [I.len] at this
  exact pe_comp (N' := N') hc S hi hg ht he hs pins s σ H Q I this
end
end L3
set_option Elab.async false
set_option linter.all false
set_option maxRecDepth 100000
namespace L3
open PySem PySem.Spec PyProof.Rows L2
mutual
noncomputable def toP : D → PyData
  | .non => .none
  | .bl b => .bool b
  | .int i => .int i
  | .str x => .str x
  | .tup ds => .tuple (toPs ds)
  | .lst ds => .list (toPs ds)
  | .dic _ _ => .none
  | .exc _ => .none
  | .ob _ _ _ _ => .none
noncomputable def toPs : List D → List PyData
  | [] => []
  | d :: ds => toP d :: toPs ds
end
mutual
noncomputable def noDic : D → Bool
  | .dic _ _ => false
  | .exc _ => false
  | .ob _ _ _ _ => false
  | .tup ds => noDics ds
  | .lst ds => noDics ds
  | _ => true
noncomputable def noDics : List D → Bool
  | [] => true
  | d :: ds => noDic d && noDics ds
end
noncomputable def okD (d : D) : Bool := noDic d && SeqAt.shaped (toP d)
theorem okD_1 {d : D} (h : okD d = true) : noDic d = true := (Bool.and_eq_true_iff.mp h).1
theorem okD_2 {d : D} (h : okD d = true) : SeqAt.shaped (toP d) = true := (Bool.and_eq_true_iff.mp h).2
noncomputable def eqD (d e : D) : Bool := PyData.eqv (toP d) (toP e)
section
variable {X : Cx} {pins : List (Addr × Obj)} {σ : St} {H : Hp} {s : Shared}
theorem Rep.reads (I : Inv X pins σ H s) {w : Wn} {o : Ow} : ∀ {q : Nat} {d : D} {v : V} {F : List Addr} {u : Value}, Rep X.K H w o q d v F → RelV v u → noDic d = true → ∃ as, Reads s.heap u (toP d) as := by
  intro q d v F u r
  refine (Rep.rec (motive_1 := fun q d v F _ => ∀ u, RelV v u → noDic d = true → ∃ as, Reads s.heap u (toP d) as) (motive_2 := fun q ds vs F _ => ∀ us, Vals vs us → noDics ds = true → ∃ as, ReadsAll s.heap us (toPs ds) as) ?_ ?_ ?_ ?_ ?_ ?_ ?_ ?_ ?_ ?_ ?_ ?_ ?_ r : ∀ u, RelV v u → noDic d = true → ∃ as, Reads s.heap u (toP d) as) u
  · intro q u ru hn; cases ru; exact ⟨_, by unfold toP; exact .none⟩
  · intro q b u ru hn; cases ru; exact ⟨_, by unfold toP; exact .bool b⟩
  · intro q i u ru hn; obtain ⟨t, rfl⟩ := ru; exact ⟨_, by unfold toP; exact .int i t⟩
  · intro q x u ru hn; obtain ⟨t, rfl⟩ := ru; exact ⟨_, by unfold toP; exact .str x t⟩
  · intro q a vs ds h r ih u ru hn
    cases ru
    obtain ⟨its, rv, p, hz⟩ := I.tuple (SqT.of h)
    obtain ⟨as, ra⟩ := ih its rv (by unfold noDic at hn; exact hn)
    obtain ⟨ob, ho, hc, n, hd⟩ := p
    exact ⟨_, by unfold toP; exact .tuple ho hc hd ra⟩
  · intro q a ks vs ds h r ih u ru hn; cases hn
  · intro q a nm ob v h x n u ru hn; cases hn
  · intro q f c fo oc u1 u2 vs ds h1 h2 x r ih u ru hn; cases hn
  · intro a vs ds h r ih u ru hn
    cases ru
    obtain ⟨its, rv, p, hz⟩ := I.list h.sq
    obtain ⟨as, ra⟩ := ih its rv (by unfold noDic at hn; exact hn)
    obtain ⟨ob, ho, hc, n, hd⟩ := p.isList
    exact ⟨_, by unfold toP; exact .list ho hc hd ra⟩
  · intro a vs ds h n0 r ih u ru hn
    cases ru
    obtain ⟨its, rv, p, hz⟩ := I.list (.inl h)
    obtain ⟨as, ra⟩ := ih its rv (by unfold noDic at hn; exact hn)
    obtain ⟨ob, ho, hc, n, hd⟩ := p.isList
    exact ⟨_, by unfold toP; exact .list ho hc hd ra⟩
  · intro q a vs ds F h e r ne ih u ru hn
    cases ru
    obtain ⟨its, rv, p, hz⟩ := I.list (SqL.of h)
    obtain ⟨as, ra⟩ := ih its rv (by unfold noDic at hn; exact hn)
    obtain ⟨ob, ho, hc, n, hd⟩ := p.isList
    exact ⟨_, by unfold toP; exact .list ho hc hd ra⟩
  · intro q us ru hn; cases ru; exact ⟨_, by unfold toPs; exact .nil⟩
  · intro q d v ds vs F G r s' ne ih1 ih2 us ru hn
    cases ru with
    | cons rv rvs =>
      unfold noDics at hn
      obtain ⟨as, ra⟩ := ih1 _ rv (Bool.and_eq_true_iff.mp hn).1
      obtain ⟨bs, rb⟩ := ih2 _ rvs (Bool.and_eq_true_iff.mp hn).2
      exact ⟨_, by unfold toPs; exact .cons ra rb⟩
end
noncomputable def Is (K : PySem.W.Frag) (H : Hp) (d : D) (v : V) : Prop := ∃ w o q F, Rep K H w o q d v F
noncomputable def rEqD (K : PySem.W.Frag) : R2 := fun x y H Q => ∃ d e, Is K H d x ∧ Is K H e y ∧ okD d = true ∧ okD e = true ∧ Q (.bl (eqD d e)) H
noncomputable def rNeD (K : PySem.W.Frag) : R2 := fun x y H Q => ∃ d e, Is K H d x ∧ Is K H e y ∧ okD d = true ∧ okD e = true ∧ Q (.bl (!eqD d e)) H
noncomputable def inD (d : D) : D → Option Bool
  | .lst ds => some ((toPs ds).any fun y => PyData.eqv y (toP d))
  | .tup ds => some ((toPs ds).any fun y => PyData.eqv y (toP d))
  | _ => none
noncomputable def rInD (K : PySem.W.Frag) (neg : Bool) : R2 := fun x y H Q => ∃ d e b, Is K H d x ∧ Is K H e y ∧ okD d = true ∧ okD e = true ∧ inD d e = some b ∧ Q (.bl (if neg then !b else b)) H
section
variable {X : Cx} {a b c e : Expr} {fa fb fc f : Den} {pos : Pos}
theorem op_eqD (hu : X.A.units + 64 < cLine) : OpR X (compareOp .Eq) (rEqD X.K) := by
  intro pins s σ H x y v u Q I rx ry ⟨d, e, ⟨w, o, q, F, h1⟩, ⟨w', o', q', F', h2⟩, k1, k2, hq⟩
  obtain ⟨as, ra⟩ := h1.reads I rx (okD_1 k1)
  obtain ⟨bs, rb⟩ := h2.reads I ry (okD_1 k2)
  exact eq_dataH ra rb (okD_2 k1) (okD_2 k2) hu ⟨.bl _, H, I, rfl, hq⟩
theorem op_neD (hu : X.A.units + 64 < cLine) : OpR X (compareOp .NotEq) (rNeD X.K) := by
  intro pins s σ H x y v u Q I rx ry ⟨d, e, ⟨w, o, q, F, h1⟩, ⟨w', o', q', F', h2⟩, k1, k2, hq⟩
  obtain ⟨as, ra⟩ := h1.reads I rx (okD_1 k1)
  obtain ⟨bs, rb⟩ := h2.reads I ry (okD_1 k2)
  exact ne_dataH ra rb (okD_2 k1) (okD_2 k2) hu ⟨.bl _, H, I, rfl, hq⟩
theorem op_inD (hu : X.A.units + 65 < cLine) : OpR X (compareOp .In) (rInD X.K false) := by
  intro pins s σ H x y v u Q I rx ry ⟨d, e, b, ⟨w, o, q, F, h1⟩, ⟨w', o', q', F', h2⟩, k1, k2, hb, hq⟩
  obtain ⟨as, ra⟩ := h1.reads I rx (okD_1 k1)
  obtain ⟨bs, rb⟩ := h2.reads I ry (okD_1 k2)
  replace k1 := okD_2 k1
  replace k2 := okD_2 k2
  cases e with
  | lst ds =>
    cases hb
    unfold toP at rb k2
    exact SeqAt.in_list_reads rb ra (SeqAt.canLay_of_shaped k2) (SeqAt.canLay_of_shaped k1) (room_in_shaped k1 hu) ⟨.bl _, H, I, rfl, hq⟩
  | tup ds =>
    cases hb
    unfold toP at rb k2
    exact SeqAt.in_tuple_reads rb ra (SeqAt.canLay_of_shaped k2) (SeqAt.canLay_of_shaped k1) (room_in_shaped k1 hu) ⟨.bl _, H, I, rfl, hq⟩
  | _ => cases hb
theorem op_notInD (hu : X.A.units + 65 < cLine) : OpR X (compareOp .NotIn) (rInD X.K true) := by
  intro pins s σ H x y v u Q I rx ry ⟨d, e, b, ⟨w, o, q, F, h1⟩, ⟨w', o', q', F', h2⟩, k1, k2, hb, hq⟩
  obtain ⟨as, ra⟩ := h1.reads I rx (okD_1 k1)
  obtain ⟨bs, rb⟩ := h2.reads I ry (okD_1 k2)
  replace k1 := okD_2 k1
  replace k2 := okD_2 k2
  cases e with
  | lst ds =>
    cases hb
    unfold toP at rb k2
    exact SeqAt.notIn_list_reads rb ra (SeqAt.canLay_of_shaped k2) (SeqAt.canLay_of_shaped k1) (room_in_shaped k1 hu) ⟨.bl _, H, I, rfl, hq⟩
  | tup ds =>
    cases hb
    unfold toP at rb k2
    exact SeqAt.notIn_tuple_reads rb ra (SeqAt.canLay_of_shaped k2) (SeqAt.canLay_of_shaped k1) (room_in_shaped k1 hu) ⟨.bl _, H, I, rfl, hq⟩
  | _ => cases hb
noncomputable def dEq (x y : D) : Option D := if okD x = true ∧ okD y = true then some (.bl (eqD x y)) else none
noncomputable def dNe (x y : D) : Option D := if okD x = true ∧ okD y = true then some (.bl (!eqD x y)) else none
noncomputable def dIn (x y : D) : Option D := if okD x = true ∧ okD y = true then (inD x y).map fun b => .bl b else none
noncomputable def dNotIn (x y : D) : Option D := if okD x = true ∧ okD y = true then (inD x y).map fun b => .bl (!b) else none
theorem hEq {K : PySem.W.Frag} : ∀ σ H Q, tD K (e2 dEq fa fb) σ H Q → tOp (rEqD K) (tD K fa) (tD K fb) σ H Q := tOp_of fun x y d h => by
  unfold dEq at h
  split at h
  · rename_i hk
    cases h
    exact ⟨_, rfl, fun H w o o' q q' u u' F F' r1 r2 _ Q hq => ⟨x, y, ⟨_, _, _, _, r1⟩, ⟨_, _, _, _, r2⟩, hk.1, hk.2, hq⟩⟩
  · cases h
theorem hNe {K : PySem.W.Frag} : ∀ σ H Q, tD K (e2 dNe fa fb) σ H Q → tOp (rNeD K) (tD K fa) (tD K fb) σ H Q := tOp_of fun x y d h => by
  unfold dNe at h
  split at h
  · rename_i hk
    cases h
    exact ⟨_, rfl, fun H w o o' q q' u u' F F' r1 r2 _ Q hq => ⟨x, y, ⟨_, _, _, _, r1⟩, ⟨_, _, _, _, r2⟩, hk.1, hk.2, hq⟩⟩
  · cases h
theorem hIn {K : PySem.W.Frag} : ∀ σ H Q, tD K (e2 dIn fa fb) σ H Q → tOp (rInD K false) (tD K fa) (tD K fb) σ H Q := tOp_of fun x y d h => by
  unfold dIn at h
  split at h
  · rename_i hk
    cases hi : inD x y with
    | none => rw [hi] at h; cases h
    | some b =>
      rw [hi] at h
      cases h
      exact ⟨_, rfl, fun H w o o' q q' u u' F F' r1 r2 _ Q hq => ⟨x, y, b, ⟨_, _, _, _, r1⟩, ⟨_, _, _, _, r2⟩, hk.1, hk.2, hi, hq⟩⟩
  · cases h
theorem hNotIn {K : PySem.W.Frag} : ∀ σ H Q, tD K (e2 dNotIn fa fb) σ H Q → tOp (rInD K true) (tD K fa) (tD K fb) σ H Q := tOp_of fun x y d h => by
  unfold dNotIn at h
  split at h
  · rename_i hk
    cases hi : inD x y with
    | none => rw [hi] at h; cases h
    | some b =>
      rw [hi] at h
      cases h
      exact ⟨_, rfl, fun H w o o' q q' u u' F F' r1 r2 _ Q hq => ⟨x, y, b, ⟨_, _, _, _, r1⟩, ⟨_, _, _, _, r2⟩, hk.1, hk.2, hi, hq⟩⟩
  · cases h
theorem pd_eq {k : Nat} (hr : Room k X.A) (ha : PD X a fa) (hb : PD X b fb) : PD X (.Compare a [.Eq] [b] pos) (e2 dEq fa fb) := pd_cmp (op_eqD hr.units) hEq ha hb (nomark _)
theorem pdt_eq {k : Nat} (hr : Room k X.A) (ha : PD X a fa) (hb : PD X b fb) : PDT X (.Compare a [.Eq] [b] pos) (tOfB (e2 dEq fa fb)) := pdt_cmp (op_eqD hr.units) hEq ha hb (nomark _)
theorem pdt_ne {k : Nat} (hr : Room k X.A) (ha : PD X a fa) (hb : PD X b fb) : PDT X (.Compare a [.NotEq] [b] pos) (tOfB (e2 dNe fa fb)) := pdt_cmp (op_neD hr.units) hNe ha hb (nomark _)
theorem u65 {k : Nat} {A : Around} (r : Room k A) : A.units + 65 < cLine := by have := r.un; omega
theorem pd_in {k : Nat} (hr : Room k X.A) (ha : PD X a fa) (hb : PD X b fb) (hm : behindInMarks .In b = false := by with_unfolding_all rfl) : PD X (.Compare a [.In] [b] pos) (e2 dIn fa fb) := pd_cmp (op_inD (u65 hr)) hIn ha hb hm
theorem pdt_notin {k : Nat} (hr : Room k X.A) (ha : PD X a fa) (hb : PD X b fb) (hm : behindInMarks .NotIn b = false := by with_unfolding_all rfl) : PDT X (.Compare a [.NotIn] [b] pos) (tOfB (e2 dNotIn fa fb)) := pdt_cmp (op_notInD (u65 hr)) hNotIn ha hb hm
end
end L3
set_option Elab.async false
set_option linter.all false
set_option maxRecDepth 100000
namespace L3
open PySem PySem.Spec PyProof.Rows L2
@[simp] noncomputable def eB (h : List D → Option D) (g : DenA) : Den := fun ρ => match g ρ with
  | some (ds, ρ1) => match h ds with
    | some d => some (d, 9, ρ1)
    | none => none
  | none => none
section
variable {X : Cx} {a b c e : Expr} {es : List Expr} {fa fb fc f : Den} {g : DenA} {pos p p1 p2 : Pos}
theorem tCB_of {K : PySem.W.Frag} {h : List D → Option D} {r : List V → Hp → VK → Prop} (hh : ∀ ds d, h ds = some d → ∃ v, scalV d = some v ∧ ∀ H w vs, WL K w H → Reps K H w .f 0 ds vs [] → ∀ Q : VK, Q v H → r vs H Q) :
    ∀ σ H Q, tD K (eB h g) σ H Q → tCB r (tDA K g) σ H Q := fun σ H Q hh0 => by
  obtain ⟨ρ, w, t, r', q, ρ', gd, ee, k⟩ := hh0
  unfold eB at ee
  split at ee
  · rename_i ds ρ1 h1
    split at ee
    · rename_i d hd
      cases ee
      obtain ⟨v, hv, hr⟩ := hh ds _ hd
      exact ⟨ρ, w, t, ds, _, gd, h1, fun vs H1 w1 g1 go1 r1 => hr H1 w1 vs g1.wl r1 Q (k v H1 w1 [] g1.up go1 (scal_rep hv))⟩
    · cases ee
  · cases ee
theorem one {K : PySem.W.Frag} {H : Hp} {w : Wn} {o : Ow} {d : D} {vs : List V} (r : Reps K H w o 0 [d] vs []) : ∃ v, vs = [v] ∧ Rep K H w o 0 d v [] := by
  have l := r.length
  match vs, l with
  | [v], _ =>
    obtain ⟨v', h1, h2⟩ := r.get (i := 0) rfl
    cases h1
    exact ⟨v, rfl, h2⟩
theorem two {K : PySem.W.Frag} {H : Hp} {w : Wn} {o : Ow} {d d' : D} {vs : List V} (r : Reps K H w o 0 [d, d'] vs []) : ∃ v v', vs = [v, v'] ∧ Rep K H w o 0 d v [] ∧ Rep K H w o 0 d' v' [] := by
  have l := r.length
  match vs, l with
  | [v, v'], _ =>
    obtain ⟨u, h1, h2⟩ := r.get (i := 0) rfl
    obtain ⟨u', h3, h4⟩ := r.get (i := 1) rfl
    cases h1
    cases h3
    exact ⟨v, v', rfl, h2, h4⟩
noncomputable def lenD : D → Option Nat
  | .lst ds => some ds.length
  | .tup ds => some ds.length
  | _ => none
@[simp] noncomputable def bLen : List D → Option D
  | [d] => (lenD d).map fun n => .int (Int.ofNat n)
  | _ => none
theorem Rep.len {K : PySem.W.Frag} {H : Hp} {w : Wn} {o : Ow} {q : Nat} {d : D} {v : V} {F : List Addr} {n : Nat} (r : Rep K H w o q d v F) (h : lenD d = some n) : ∃ p ys, v = .ref p ∧ (SqL K H p ys ∨ SqT K H p ys) ∧ ys.length = n := by
  cases d with
  | lst ds =>
    cases h
    obtain ⟨p, vs, q', G, rfl, hq, rs⟩ := r.seqL
    exact ⟨p, vs, rfl, .inl hq, rs.length.symm⟩
  | tup ds =>
    cases h
    obtain ⟨p, vs, rfl, hq, rs⟩ := r.seqT
    exact ⟨p, vs, rfl, .inr hq, rs.length.symm⟩
  | _ => cases h
theorem pd_len (hm : X.mg "len" = none) (ha : PDA X [a] g) (hg : Gl X "len" := by rfl) (he : starEach [a] X.env = (false, eval a X.env) :: starEach [] X.env := by rfl) (hpl : (backTo pos (starEach [] X.env)).any (·.1) = false := by rfl) : PD X (.Call (.Name "len" p) [a] [] pos) (eB bLen g) :=
  PE.imp (pe_callB call_len_seq hg hm PySem.boot_len ha (by decide) (by decide) he hpl) (tCB_of fun ds d h => by
    match ds, h with
    | [d0], h =>
      cases hl : lenD d0 with
      | none => simp only [bLen, hl, Option.map_none] at h; cases h
      | some n =>
        simp only [bLen, hl, Option.map_some, Option.some.injEq] at h
        subst h
        refine ⟨_, rfl, fun H w vs wl r Q hq => ?_⟩
        obtain ⟨v, rfl, rv⟩ := one r
        obtain ⟨p, ys, rfl, hs, hn⟩ := rv.len hl
        exact ⟨p, ys, rfl, hs, by rw [hn]; exact hq⟩)
@[simp] noncomputable def eLenV (i : Nat) : Den := fun ρ => match ρ[i]? with
  | some (some (d, _)) => match lenD d with
    | some n => some (.int (Int.ofNat n), 9, ρ)
    | none => none
  | _ => none
theorem pd_lenV {i : Nat} {x : Str} (hm : X.mg "len" = none) (h : PE X (.Name x p1) (tVar i)) (hg : Gl X "len" := by rfl) (he : starEach [.Name x p1] X.env = (false, eval (.Name x p1) X.env) :: starEach [] X.env := by rfl) (hpl : (backTo pos (starEach [] X.env)).any (·.1) = false := by rfl) : PD X (.Call (.Name "len" p) [.Name x p1] [] pos) (eLenV i) :=
  PE.imp (pe_callB call_len_seq hg hm PySem.boot_len (pa_cons h pa_nil he) (by decide) (by decide) he hpl) fun σ H Q hh0 => by
  obtain ⟨ρ, w, t, r', q, ρ', gd, ee, k⟩ := hh0
  unfold eLenV at ee
  split at ee
  · rename_i d q0 e0
    split at ee
    · rename_i n hn
      cases ee
      obtain ⟨v, F, h1, h2⟩ := gd.slot i d q0 e0
      obtain ⟨p, ys, rfl, hs, hl⟩ := h2.len hn
      exact ⟨_, h1, p, ys, rfl, hs, by rw [hl]; exact k _ H w [] gd.up Go.refl (.int _)⟩
    · cases ee
  · cases ee
@[simp] noncomputable def bMax : List D → Option D
  | [.int i, .int j] => some (.int (if j > i then j else i))
  | _ => none
theorem pd_max2 (hc : X.calm = true) (hm : X.mg "max" = none) (hb : bootBuiltins "max" = some (.builtin "max")) (ha : PDA X (a :: es) g) (hg : Gl X "max" := by rfl) (he : starEach (a :: es) X.env = (false, eval a X.env) :: starEach es X.env := by rfl) (hpl : (backTo pos (starEach es X.env)).any (·.1) = false := by rfl) : PD X (.Call (.Name "max" p) (a :: es) [] pos) (eB bMax g) :=
  PE.imp (pe_callB (call_max2 hc) hg hm hb ha (by decide) (by decide) he hpl) (tCB_of fun ds d h => by
    unfold bMax at h
    split at h
    · rename_i i j
      cases h
      refine ⟨_, rfl, fun H w vs wl r Q hq => ?_⟩
      obtain ⟨v, v', rfl, r1, r2⟩ := two r
      exact ⟨i, j, by rw [intOf r1, intOf r2], hq⟩
    · cases h)
@[simp] noncomputable def eListOf (g : DenA) : Den := fun ρ => match g ρ with
  | some ([.lst ds], ρ1) => some (.lst ds, 1, ρ1)
  | some ([.tup ds], ρ1) => some (.lst ds, 1, ρ1)
  | _ => none
@[simp] noncomputable def eTupOf (g : DenA) : Den := fun ρ => match g ρ with
  | some ([.lst ds], ρ1) => some (.tup ds, 9, ρ1)
  | some ([.tup ds], ρ1) => some (.tup ds, 9, ρ1)
  | _ => none
theorem pd_tupOf (hm : X.mg "tuple" = none) (hb : bootBuiltins "tuple" = some (.type "tuple")) (ha : PDA X [a] g) (hg : Gl X "tuple" := by rfl) (he : starEach [a] X.env = (false, eval a X.env) :: starEach [] X.env := by rfl) (hpl : (backTo pos (starEach [] X.env)).any (·.1) = false := by rfl) : PD X (.Call (.Name "tuple" p) [a] [] pos) (eTupOf g) :=
  PE.imp (pe_callTy call_tuple_of hg hm hb ha (by decide) (by decide) he hpl) fun σ H Q hh0 => by
  obtain ⟨ρ, w, t, r', q, ρ', gd, ee, k⟩ := hh0
  unfold eTupOf at ee
  split at ee
  · rename_i ds ρ1 h1
    cases ee
    refine ⟨ρ, w, t, _, _, gd, h1, fun vs H1 w1 g1 go1 r1 => ?_⟩
    obtain ⟨v, rfl, rv⟩ := one r1
    obtain ⟨p, ys, rfl, hs, rs⟩ := rv.seqL0
    refine ⟨p, ys, rfl, .inl ⟨hs, fun l hl => ?_⟩⟩
    obtain ⟨a1, a2, a3⟩ := allocT g1 hl rs
    exact k _ _ _ _ a1 (go1.trans a2) a3
  · rename_i ds ρ1 h1
    cases ee
    refine ⟨ρ, w, t, _, _, gd, h1, fun vs H1 w1 g1 go1 r1 => ?_⟩
    obtain ⟨v, rfl, rv⟩ := one r1
    have rr := rv
    obtain ⟨p, ys, rfl, hs, rs⟩ := rv.seqT
    refine ⟨p, ys, rfl, .inr ⟨hs, ?_⟩⟩
    exact k _ H1 w1 [] g1.up go1 (((rr.nolist rfl).2 9).any g1.wl)
  · cases ee
noncomputable def tRange (ta : TA) : TE := fun σ H Q => ta σ H fun vs H1 => ∃ j : Int, vs = [.int j] ∧ -(2 ^ 62) ≤ j ∧ j < 2 ^ 62 ∧ ∀ p, H1 p = none → Q (.ref p) (upd H1 p (.rng 0 j))
theorem pe_range {ta : TA} (hg : Gl X "range") (hm : X.mg "range" = none) (ha : PA X [a] ta) (hs : starEach [a] X.env = [(false, eval a X.env)] := by rfl) : PE X (.Call (.Name "range" p) [a] [] pos) (tRange ta) := by
  intro pins s σ H Q I h
  refine Call_ (ld_blt I hg hm boot_range (PyProof.Rows.callWith_type1 (thn (ha pos pins s σ H _ I h) fun us s1 ⟨vs, H1, I1, r1, q1⟩ => ?_) hs rfl))
  obtain ⟨j, e, q1, q2, q⟩ := q1
  subst e
  cases r1 with
  | cons r rr =>
    cases rr
    obtain ⟨t, rfl⟩ := r
    refine call_range_1 ?_
    exact ⟨.ref s1.heap.objs.size, upd H1 s1.heap.objs.size (.rng 0 j), I1.laid (fun b u e => Heap.get?_push_of_some _ e) (Nat.le_refl _) ⟨_, _, _, Heap.get?_push_size _ rfl⟩, rfl, q _ (I1.hok.fresh (Nat.le_refl _))⟩
end
end L3
set_option Elab.async false
set_option linter.all false
set_option maxRecDepth 100000
namespace L3
open PySem PySem.Spec PyProof.Rows L2
theorem range_small {j : Int} (h1 : -(2 ^ 62) ≤ j) (h2 : j < 2 ^ 62) : Builtin.Range.small 0 j 1 = true := by
  have hs : Builtin.Range.rangeSize 0 j 1 = ((j.toNat : Nat) : Int) := by
    simp [Builtin.Range.rangeSize] <;> split <;> omega
  simp only [Builtin.Range.small, hs, Builtin.Range.rangeFitsLong]
  simp
  omega
theorem range_size (j : Int) : Builtin.Range.rangeSize 0 j 1 = ((j.toNat : Nat) : Int) := by
  simp [Builtin.Range.rangeSize] <;> split <;> omega
theorem items_vals {n : Nat} {acc : Array Value} (h : ItemsOf (fun i v => ∃ t, v = Value.int (0 + (i : Nat) * 1) t) acc n) : Vals (rangeV n) acc.toList := by
  have key : ∀ (us : List Value) (k : Nat), (∀ j v, us[j]? = some v → ∃ t, v = Value.int (((k + j : Nat)) : Int) t) → Vals ((List.range' k us.length).map fun i => V.int (Int.ofNat i)) us := by
    intro us
    induction us with
    | nil => intro k _; exact .nil
    | cons u r ih =>
      intro k hk
      obtain ⟨t, e⟩ := hk 0 u rfl
      refine .cons ⟨t, by rw [e]; rfl⟩ (ih (k + 1) fun j v hv => ?_)
      obtain ⟨t', e'⟩ := hk (j + 1) v (by simpa using hv)
      exact ⟨t', by rw [e']; congr 2; omega⟩
  have := key acc.toList 0 fun j v hv => by
    obtain ⟨t, e⟩ := h.2 j v (by simpa using hv)
    exact ⟨t, by rw [e]; congr 1; omega⟩
  have hl : acc.toList.length = n := by simpa using h.1
  rw [hl] at this
  unfold rangeV
  rw [List.range_eq_range']
  exact this
section
variable {prog : Program} {w : World} {A : Around} {E : Value → Shared → Prop} {s : Shared}
open AutoSeq1 (wpAny_loadPart')
theorem collect_range {Q : List Value → Shared → Prop} {r : Addr} {a b c : Int} {t u v : Tok} {n : Nat} (hh : A.handled = none) (hr : IsRange s.heap r a b c t u v) (hsmall : Builtin.Range.small a b c = true) (hn : Builtin.Range.rangeSize a b c = n) (hlen : n ≤ 2 ^ 24)
    (hQ : ∀ h' tk acc', (∀ b o', s.heap.get? b = some o' → h'.get? b = some o') → ItemsOf (fun i v => ∃ t, v = .int (a + i * c) t) acc' n → Q acc'.toList { s with heap := h', toks := tk }) :
    wpAny (model prog w) A (collect (.ref r)) Q E s := by
  unfold collect
  refine wpAny_bind (wpAny_runValue (codeAny_builtin F.entry_proto_collect ?_))
  rw [Around.under_plainId F.plain_proto_collect _]
  show wpAny _ A.in1 (newList [] >>= fun l => again (.builtin "list.__iadd__" ⟨[l, .ref r], []⟩)) _ _ s
  refine wpAny_bind (wpAny_newObj_type ?_)
  refine wpAny_pure ⟨plainId_quiet F.plain_list_iadd _, codeAny_builtin F.entry_list_iadd ?_⟩
  rw [Around.under_plainId F.plain_list_iadd _]
  show wpAny _ A.in1 (Builtin.List.listExtendWith (.ref s.heap.objs.size) (.ref r) (.ref s.heap.objs.size)) _ _ _
  have hS : (s.heap.push { cls := .type "list", data := .seq ([] : List Value).toArray }).get? s.heap.objs.size = some { cls := .type "list", data := .seq #[] 0 } := Heap.get?_push_size _ rfl
  have fin' : ∀ (h' : Heap) (tk : Nat) (acc' : Array Value) (c' : Nat), (∀ b o, b ≠ s.heap.objs.size → (s.heap.push { cls := .type "list", data := .seq ([] : List Value).toArray }).get? b = some o → h'.get? b = some o) →
      h'.get? s.heap.objs.size = some { cls := .type "list", dict := none, data := .seq acc' c', slots := #[] } → ItemsOf (fun i v => ∃ t, v = .int (a + i * c) t) acc' n → wpAny (model prog w) A (match Value.ref s.heap.objs.size with
      | Value.ref a => do
        match (← load a).data with
          | Data.seq xs _ => pure xs.toList
          | _ => unsupported "internal:collect"
      | _ => unsupported "internal:collect") Q E { s with heap := h', toks := tk } := fun h' tk acc' c' hk hS' hacc => by
    show wpAny _ A (load s.heap.objs.size >>= _) _ _ _
    refine wpAny_bind (wpAny_load hS' ?_)
    refine wpAny_pure (hQ h' tk acc' (fun b o' hb => ?_) hacc)
    exact hk b o' (Nat.ne_of_lt (Heap.lt_size hb)) (Heap.get?_push_of_some _ hb)
  refine wpAny_mono (wpAny_extend_range (A := A) (R := fun rs s' => rs = .ok (.ret (.ref s.heap.objs.size)) ∧ ∃ h' tk acc' c', s' = { s with heap := h', toks := tk } ∧ (∀ b o, b ≠ s.heap.objs.size → (s.heap.push { cls := .type "list", data := .seq ([] : List Value).toArray }).get? b = some o → h'.get? b = some o) ∧
      h'.get? s.heap.objs.size = some { cls := .type "list", dict := none, data := .seq acc' c', slots := #[] } ∧ ItemsOf (fun i v => ∃ t, v = .int (a + i * c) t) acc' n)
    (s := { s with heap := s.heap.push { cls := .type "list", data := .seq ([] : List Value).toArray } }) hh (Heap.get?_push_of_some _ hr) hsmall hn hlen s.heap.objs.size (.ref s.heap.objs.size) 0 hS (fun h' tk acc' c' hk hS' hacc => ⟨rfl, h', tk, acc', c', rfl, hk, hS', hacc⟩)) (fun fin s' h => ?_) (fun e s' h => ?_)
  · cases fin with
    | done f =>
      obtain ⟨e, h', tk, acc', c', rfl, hk, hS', hacc⟩ := h
      cases e
      exact fin' h' tk acc' c' hk hS' hacc
    | again c' => exact ⟨h.1, codeAny_mono h.2 fun r s'' hr => by
        obtain ⟨rfl, h', tk, acc', c', rfl, hk, hS', hacc⟩ := hr
        exact fin' h' tk acc' c' hk hS' hacc⟩
  · exact absurd h.1 (by simp)
end
theorem meets_tuple_new_range (r : Addr) (a b c : Int) (t u v : Tok) (n : Nat) (hsmall : Builtin.Range.small a b c = true) (hn : Builtin.Range.rangeSize a b c = n) (hlen : n ≤ 2 ^ 24) :
    Meets (Builtin.«tuple.__new__» ⟨[.type "tuple", .ref r], []⟩)
      (fun A R s => A.handled = none ∧ IsRange s.heap r a b c t u v ∧ ∀ (h' : Heap) tk acc', (∀ b o', s.heap.get? b = some o' → h'.get? b = some o') → ItemsOf (fun i v => ∃ t, v = .int (a + i * c) t) acc' n → R (.ok (.ret (.ref h'.objs.size))) { s with heap := h'.push { cls := .type "tuple", data := .seq acc' }, toks := tk }) :=
  .of_wp fun prog w A R s h => by
    obtain ⟨hp, g, d, tk, os⟩ := s; obtain ⟨hh, hr, h⟩ := h
    have hsub := sub_tuple_self
    have hinit := init_tuple_lookup
    have hmh := madeHere_tuple
    have hT : Shared.TypeIs ⟨hp, g, d, tk, os⟩ (.ref r) "range" := ⟨_, hr, rfl⟩
    have hh1 : A.in1.handled = none := hh
    wp_walk using AutoSeq1.wpAny_loadPart' hr, wpAny_typeOf hT, collect_range hh1 hr hsmall hn hlen
    intro h' tk' acc' hk hacc
    show wpAny _ _ (Builtin.Tuple.tupleExact acc'.toList.toArray >>= fun v => ret v) _ _ _
    unfold Builtin.Tuple.tupleExact
    have hsz : acc'.size ≤ sizeLine := by rw [hacc.1]; exact hlen
    refine wpAny_bind (wpAny_newObj_type ?_ (by show acc'.toList.toArray.size ≤ sizeLine; simpa using hsz))
    refine wpAny_pure ⟨_, rfl, ?_⟩
    have e : acc'.toList.toArray = acc' := by simp
    rw [e]
    exact h h' tk' acc' hk hacc
theorem call_tuple_range {prog : Program} {w : World} {A : Around} {E : Value → Shared → Prop} {s : Shared} {r : Addr} {a b c : Int} {t u v : Tok} {n : Nat} {Q : Value → Shared → Prop} (hh : A.handled = none) (hr : IsRange s.heap r a b c t u v) (hsmall : Builtin.Range.small a b c = true) (hn : Builtin.Range.rangeSize a b c = n) (hlen : n ≤ 2 ^ 24)
    (h : ∀ (h' : Heap) tk acc', (∀ b o', s.heap.get? b = some o' → h'.get? b = some o') → ItemsOf (fun i v => ∃ t, v = .int (a + i * c) t) acc' n → Q (.ref h'.objs.size) { s with heap := h'.push { cls := .type "tuple", data := .seq acc' }, toks := tk }) :
    wpAny (model prog w) A (call (.type "tuple") [.ref r]) Q E s :=
  callType_new F.called_tuple (by decide) (F.typeCall_tuple_1 _) (F.newCall_tuple_1 _) (fun obj => F.args_object_init_2 obj _) F.entry_tuple_new
    (meets_tuple_new_range r a b c t u v n hsmall hn hlen) ⟨hh, hr, fun h' tk acc' hk hacc => ⟨⟨_, Heap.get?_push_size _ rfl, rfl⟩, h h' tk acc' hk hacc⟩⟩
section
variable {X : Cx}
noncomputable def rRng (mk : List V → HO) : List V → Hp → VK → Prop := fun xs H Q => ∃ a j, xs = [.ref a] ∧ H a = some (.rng 0 j) ∧ -1000 ≤ j ∧ j ≤ 1000 ∧ ∀ p, H p = none → Q (.ref p) (upd H p (mk (rangeV j.toNat)))
theorem call_list_rng (hc : X.calm = true) : CallR X (.type "list") (rRng .lst) := by
  intro pins s σ H xs us Q I r h
  obtain ⟨a, j, rfl, hr, j1, j2, q⟩ := h
  obtain ⟨u, rfl, rx⟩ := vals1 r
  cases rx
  obtain ⟨t, u, v, ho⟩ := (show ObjOk X.prog X.w H s.heap a (.rng 0 j) from I.hok a _ hr)
  refine call_list_range (I.ok.hd hc) ho (range_small (by omega) (by omega)) (range_size j) (by omega) fun h' tk acc' c' hk hS' hacc => ?_
  refine ⟨.ref s.heap.objs.size, _, I.laid (t' := tk) (o := .lst (rangeV j.toNat)) hk (Nat.le_refl _) ⟨by rw [rangeV_len]; exact Nat.le_trans (by omega : j.toNat ≤ 1000) (by decide), acc'.toList, c', items_vals hacc, by simpa using hS'⟩, rfl, q _ (I.hok.fresh (Nat.le_refl _))⟩
theorem call_tuple_rng (hc : X.calm = true) : CallR X (.type "tuple") (rRng .tup) := by
  intro pins s σ H xs us Q I r h
  obtain ⟨a, j, rfl, hr, j1, j2, q⟩ := h
  obtain ⟨u, rfl, rx⟩ := vals1 r
  cases rx
  obtain ⟨t, u, v, ho⟩ := (show ObjOk X.prog X.w H s.heap a (.rng 0 j) from I.hok a _ hr)
  refine call_tuple_range (I.ok.hd hc) ho (range_small (by omega) (by omega)) (range_size j) (by omega) fun h' tk acc' hk hacc => ?_
  have I1 : Inv X pins σ H { s with heap := h', toks := tk } := I.kept hk
  have I2 : Inv X pins σ (upd H h'.objs.size (.tup (rangeV j.toNat))) { s with heap := h'.push { cls := .type "tuple", data := .seq acc' }, toks := tk } :=
    I1.laid (t' := tk) (fun b o e => Heap.get?_push_of_some _ e) (Nat.le_refl _) (show ObjOk X.prog X.w _ _ _ (.tup _) from ⟨by rw [rangeV_len]; exact Nat.le_trans (by omega : j.toNat ≤ 1000) (by decide), acc'.toList, items_vals hacc, by simpa using IsTupD.new h' acc'⟩)
  exact ⟨.ref h'.objs.size, _, I2, rfl, q _ (I1.hok.fresh (Nat.le_refl _))⟩
variable {a : Expr} {g : DenA} {pos p p1 pos1 : Pos}
@[simp] noncomputable def eListR (g : DenA) : Den := fun ρ => match iRange g ρ with
  | some (ds, ρ1) => some (.lst ds, 1, ρ1)
  | none => none
@[simp] noncomputable def eTupR (g : DenA) : Den := fun ρ => match iRange g ρ with
  | some (ds, ρ1) => some (.tup ds, 9, ρ1)
  | none => none
theorem rng_reads {K : PySem.W.Frag} {mk : List V → HO} {q0 : Nat} {md : List D → D} (al : ∀ {ρ : Rho} {σ : St} {H1 : Hp} {w1 : Wn} {t : Nat} {p : Addr} {vs : List V} {ds : List D}, Good K ρ σ H1 w1 t → H1 p = none → Reps K H1 w1 .f 0 ds vs [] → ∃ w' F, Good K ρ σ (upd H1 p (mk vs)) w' (t + 1) ∧ Go H1 w1 (upd H1 p (mk vs)) w' ∧ Rep K (upd H1 p (mk vs)) w' (.t t) q0 (md ds) (.ref p) F) :
    ∀ σ H Q, tD K (fun ρ => match iRange g ρ with
      | some (ds, ρ1) => some (md ds, q0, ρ1)
      | none => none) σ H Q → tCB (rRng mk) (tCons (tRange (tDA K g)) tNil) σ H Q := fun σ H Q hh0 => by
  obtain ⟨ρ, w, t, r', q, ρ', gd, ee, k⟩ := hh0
  dsimp only at ee
  split at ee
  · rename_i ds ρ1 h1
    cases ee
    unfold iRange at h1
    split at h1
    · rename_i n ρ2 h2
      split at h1
      · rename_i hn
        cases h1
        refine ⟨ρ, w, t, _, _, gd, h2, fun vs H1 w1 g1 go1 r1 => ?_⟩
        obtain ⟨v, rfl, rv⟩ := one r1
        have hv := intOf rv
        subst hv
        refine ⟨n, rfl, by omega, by omega, fun p hp => ⟨p, n, rfl, upd_same, hn.1, hn.2, fun l hl => ?_⟩⟩
        have ne : ∀ a x, H1 a = some x → a ≠ p := fun a x e => ne_of_none e hp
        have st : Stab H1 w1 (upd H1 p (.rng 0 n)) w1 := fun a x e nn => ⟨sm (by rw [upd_ne (ne a x e)]; exact e), nn⟩
        have nw : ∀ a o, w1 a = some o → a ≠ p := fun a o e => by obtain ⟨vs, q⟩ := g1.wl a o e; exact ne a _ q
        have g2 : Good K ρ' σ (upd H1 p (.rng 0 n)) w1 t := ⟨⟨fun a o e => by
          obtain ⟨us, q⟩ := g1.wl a o e
          exact ⟨us, by rw [upd_ne (nw a o e)]; exact q⟩, g1.wl.tb.upd rfl (.inl hp)⟩, g1.ws, g1.wt, g1.len, fun i d q e => by
          obtain ⟨v, F, h1, h2⟩ := g1.slot i d q e
          exact ⟨v, F, h1, Rep.go g1.wl st h2 fun a m => ⟨upd_ne (nw a _ (h2.owns a m)), h2.owns a m⟩⟩⟩
        have go2 : Go H1 w1 (upd H1 p (.rng 0 n)) w1 := ⟨st, fun a o e _ => ⟨upd_ne (nw a o e), e⟩⟩
        obtain ⟨w', F, a1, a2, a3⟩ := al g2 hl (reps_range n.toNat)
        exact k _ _ _ _ a1 ((go1.trans go2).trans a2) a3
      · cases h1
    · cases h1
  · cases ee
theorem pd_tupR (hc : X.calm = true) (hm : X.mg "tuple" = none) (hb : bootBuiltins "tuple" = some (.type "tuple")) (hmr : X.mg "range" = none) (ha : PDA X [a] g) (hg : Gl X "tuple" := by rfl) (hgr : Gl X "range" := by rfl) (hs : starEach [a] X.env = [(false, eval a X.env)] := by rfl)
    (he : starEach [.Call (.Name "range" p1) [a] [] pos1] X.env = (false, eval (.Call (.Name "range" p1) [a] [] pos1) X.env) :: starEach [] X.env := by rfl) (hpl : (backTo pos (starEach [] X.env)).any (·.1) = false := by rfl) : PD X (.Call (.Name "tuple" p) [.Call (.Name "range" p1) [a] [] pos1] [] pos) (eTupR g) :=
  PE.imp (pe_callTy (call_tuple_rng hc) hg hm hb (pa_cons (pe_range hgr hmr ha hs) pa_nil he) (by decide) (by decide) he hpl) (rng_reads fun g hp r => by
    obtain ⟨a1, a2, a3⟩ := allocT g hp r
    exact ⟨_, _, a1, a2, a3⟩)
end
end L3
set_option Elab.async false
set_option linter.all false
set_option maxRecDepth 100000
namespace L3
open PySem PySem.Spec PyProof.Rows L2
theorem wpAny_forIn_upto {M : Model} {A : Around} {E : Value → Shared → Prop} {s : Shared} {β : Type} {n : Nat} (f : Nat → β → Sem (ForInStep β)) (I : List Nat → β → Shared → Prop) (Q : β → Shared → Prop) (b : β)
    (turn : ∀ x rest b s, I (x :: rest) b s → wpAny M A (f x b) (fun r s' => match r with | .yield b' => I rest b' s' | .done b' => Q b' s') E s)
    (fin : ∀ b s, I [] b s → Q b s) (h : I (List.range' 0 n 1) b s) : wpAny M A (forIn [0:n] b f) Q E s := by
  rw [Std.Legacy.Range.forIn_eq_forIn_range']
  refine wpAny_forIn_list f I Q turn fin _ b ?_
  have e : (Std.Legacy.Range.size [0:n]) = n := by simp [Std.Legacy.Range.size]
  show I (List.range' 0 (Std.Legacy.Range.size [0:n]) 1) b s
  rw [e]
  exact h
open AutoSeq1 (wpAny_loadPart') in
theorem tuple_indexAt (l : Addr) (items : Array Value) (n : Nat) (dd : Option Addr) (sl : Array (Option Value)) (x : Value) (e : Value → Bool) (j : Nat) (hj : j < items.size) (hit : e items[j] = true) (hno : ∀ m (hm : m < items.size), m < j → e items[m] = false) :
    Meets (Builtin.«tuple.index» ⟨[.ref l, x], []⟩)
      (fun A R s => s.heap.get? l = some { cls := .type "tuple", dict := dd, data := .seq items n, slots := sl } ∧ (∀ y, y ∈ items → SeqAt.EqAt A.in1 s y x (e y)) ∧ R (.ok (.ret (.int j s.toks))) { s with toks := s.toks + 1 }) :=
  .of_wp fun prog w A R s h => by
    obtain ⟨hp, g, d, tk, os⟩ := s; obtain ⟨hl, he, h⟩ := h
    wp_walk using wpAny_loadPart' hl, wpAny_forIn_upto _ (fun rest b s' => b.1 = none ∧ s' = ⟨hp, g, d, tk, os⟩ ∧ ∃ i k, rest = List.range' i k 1 ∧ i + k = items.size ∧ i ≤ j) _
    case turn =>
      rintro y rest b s' ⟨hb, rfl, i, k, hr, hik, hij⟩
      cases k with
      | zero => simp at hr
      | succ k =>
        rw [List.range'_succ] at hr
        obtain ⟨rfl, rfl⟩ := List.cons.inj hr
        have hlt : y < items.size := by omega
        have hget : items[y]? = some items[y] := by simp [hlt]
        rw [hget]
        refine wpAny_bind (he _ (Array.getElem_mem hlt) prog w _ _ ?_)
        by_cases hyj : y = j
        · subst hyj
          rw [hit]
          wp_walk
          exact ⟨_, rfl, h⟩
        · rw [hno y hlt (by omega)]
          wp_walk
          exact ⟨rfl, rfl, y + 1, k, rfl, by omega, by omega⟩
    case fin =>
      rintro ⟨b1, b2⟩ s' ⟨hb, rfl, i, k, hr, hik, hij⟩
      cases k with
      | zero => omega
      | succ k => simp [List.range'_succ] at hr
    case h =>
      exact ⟨rfl, rfl, 0, items.size, by simp, by omega, by omega⟩
end L3
set_option Elab.async false
set_option linter.all false
set_option maxRecDepth 100000
namespace L3
open PySem PySem.Spec PyProof.Rows L2
noncomputable def ixOf (d : D) (ds : List D) : Option Nat := (toPs ds).findIdx? fun y => PyData.eqv y (toP d)
noncomputable def rIndexT (K : PySem.W.Frag) : V → List V → Hp → VK → Prop := fun x xs H Q => ∃ ds d y j, xs = [y] ∧ Is K H (.tup ds) x ∧ Is K H d y ∧ okD (.tup ds) = true ∧ okD d = true ∧ ixOf d ds = some j ∧ Q (.int (Int.ofNat j)) H
section
variable {X : Cx} {a b c e : Expr} {es : List Expr} {fa fb fc f : Den} {g : DenA} {pos p p1 p2 cpos apos : Pos}
theorem mt_indexT (hu : X.A.units + 65 < cLine) : MtR X "tuple.index" (rIndexT X.K) := by
  intro pins s σ H x xs v us Q I rx rs ⟨ds, d, y, j, e, ⟨w, o, q, F, h1⟩, ⟨w', o', q', F', h2⟩, k1, k2, hj, hq⟩
  subst e
  obtain ⟨u, rfl, ru⟩ := vals1 rs
  obtain ⟨as, ra⟩ := h1.reads I rx (okD_1 k1)
  obtain ⟨bs, rb⟩ := h2.reads I ru (okD_1 k2)
  replace k1 := okD_2 k1
  replace k2 := okD_2 k2
  unfold toP at ra k1
  have hc1 : PyData.canLayAll0 (toPs ds) = true := SeqAt.canLay_of_shaped k1
  have hc2 := SeqAt.canLay_of_shaped k2
  cases ra with
  | @tuple a ob vs n _ _ ho hcl hd hrs =>
    obtain ⟨cls, dd, data, sl⟩ := ob
    simp only at hcl hd
    subst hcl hd
    have hmap := SeqAt.readsAll_map _ _ _ hc1 hrs
    have hfi := List.findIdx?_eq_some_iff_getElem.mp hj
    obtain ⟨hjl, hjt, hjf⟩ := hfi
    have hlen : vs.size = (toPs ds).length := by rw [← hmap]; simp
    have hat : ∀ m (hm : m < vs.size) (hm' : m < (toPs ds).length), SeqAt.readOf s.heap vs[m] = (toPs ds)[m] := fun m hm hm' => by
      have : (vs.toList.map (SeqAt.readOf s.heap))[m]? = (toPs ds)[m]? := by rw [hmap]
      simpa [hm, hm'] using this
    refine call_meets PySem.F.slot_tuple_index ⟨_, ho, rfl⟩ PySem.F.entry_tuple_index (PySem.F.args_tuple_index_2 _ _)
      (tuple_indexAt a vs n dd sl u (fun y => PyData.eqv (SeqAt.readOf s.heap y) (toP d)) j (by omega) (by rw [hat j (by omega) hjl]; simpa using hjt) (fun m hm hmj => by rw [hat m hm (by omega)]; simpa using hjf m hmj)) ⟨ho, SeqAt.items_eqAt hrs rb hc1 hc2 (room_in_shaped k2 hu), ?_⟩
    exact ⟨.int (Int.ofNat j), H, I.tok _, ⟨_, rfl⟩, hq⟩
@[simp] noncomputable def eIndex (fo : Den) (g : DenA) : Den := fun ρ => match fo ρ with
  | some (.tup ds, _, ρ1) => match g ρ1 with
    | some ([d], ρ2) => if okD (.tup ds) = true ∧ okD d = true then match ixOf d ds with
      | some j => some (.int (Int.ofNat j), 9, ρ2)
      | none => none
      else none
    | _ => none
  | _ => none
theorem pd_index {k : Nat} (hr : Room k X.A) (ho : PD X a fa) (ha : PDA X [e] g)
    (hbase : attributeBase a "index" X.env (eval a X.env) = eval a X.env := by rfl)
    (hfew : ((backTo cpos (starEach [e] X.env)).all (fun x => !x.1) && (backToKw cpos (keywordEach [] X.env)).all (fun x => x.1.isSome)
      && decide ([e].length + ([] : List Keyword).length + (if ([] : List Keyword).isEmpty then 0 else 1) < 30)) = true := by rfl)
    (hline : (apos.endLine == cpos.line) = true := by rfl) (hs : starEach [e] X.env = (false, eval e X.env) :: starEach [] X.env := by rfl) (hplain : (backTo cpos (starEach [] X.env)).any (·.1) = false := by rfl) :
    PD X (.Call (.Attribute a "index" apos) [e] [] cpos) (eIndex fa g) :=
  PE.imp (pe_bm PySem.F.plainAttrs_tuple PySem.F.slot_tuple_index PySem.F.type_tuple_index (mt_indexT (u65 hr)) ho ha hbase hfew hline hs hplain) fun σ H Q hh0 => by
  obtain ⟨ρ, w, t, r', q, ρ', gd, ee, k⟩ := hh0
  unfold eIndex at ee
  split at ee
  · rename_i ds q1 ρ1 h1
    split at ee
    · rename_i d ρ2 h2
      split at ee
      · rename_i hok
        split at ee
        · rename_i j hj
          cases ee
          refine ⟨ρ, w, t, _, _, _, gd, h1, fun v H1 w1 F1 g1 go1 r1 => ?_⟩
          have r0 := r1.drop (o := .f) (Nat.le_refl t)
          have gg := g1.drop (t' := t)
          obtain ⟨p0, vs, rfl, hq, rs⟩ := r0.tupAt
          refine ⟨?_, ρ1, dropT t w1, t, _, _, gg, h2, fun vs2 H2 w2 g2 go2 r2 => ?_⟩
          · exact .inr (.inl ⟨rfl, .inr ⟨_, hq⟩⟩)
          · obtain ⟨v2, rfl, rv2⟩ := one r2
            have r3 : Rep X.K H2 w2 .f 0 (.tup ds) (.ref p0) [] := r0.go0 gg.wl go2.stab
            exact ⟨ds, d, v2, j, rfl, ⟨_, _, _, _, r3⟩, ⟨_, _, _, _, rv2⟩, hok.1, hok.2, hj, k _ H2 w2 [] g2.up ((go1.drop gd.wt).trans go2) (.int _)⟩
        · cases ee
      · cases ee
    · cases ee
  · cases ee
theorem Good.mut {K : PySem.W.Frag} {ρ : Rho} {σ : St} {H : Hp} {w : Wn} {t i : Nat} {ds : List D} (g : Good K ρ σ H w t) (e : ρ[i]? = some (some (.lst ds, 1))) :
    ∃ l vs, σ[i]? = some (some (.ref l)) ∧ H l = some (.lst vs) ∧ Reps K H w .f 0 ds vs [] ∧ ∀ ds' vs', Reps K H w .f 0 ds' vs' [] →
      Good K (ρ.set i (some (.lst ds', 1))) σ (upd H l (.lst vs')) w t ∧ Go H w (upd H l (.lst vs')) w := by
  obtain ⟨v, F, h1, h2⟩ := g.slot i _ _ e
  cases h2 with
  | @own _ l vs _ F' hl hw rs ne =>
    have hF := rs.zero
    subst hF
    refine ⟨l, vs, h1, hl, rs.any g.wl, fun ds' vs' r' => ?_⟩
    have nl : ∀ a o, w a = some o → o ≠ .s i → a ≠ l := fun a o e n z => by subst z; rw [hw] at e; exact n (Option.some.inj e).symm
    have nn : ∀ a, w a = none → a ≠ l := fun a e z => by subst z; rw [hw] at e; cases e
    have st : Stab H w (upd H l (.lst vs')) w := fun a x h n => ⟨sm (by rw [upd_ne (nn a n)]; exact h), n⟩
    refine ⟨⟨⟨fun a o h => ?_, g.wl.tb.upd rfl (.inr (g.wl l _ hw))⟩, g.ws, g.wt, by rw [List.length_set]; exact g.len, fun j d' q' e' => ?_⟩, ⟨st, fun a o h n => ⟨upd_ne (nl a o h (n i)), h⟩⟩⟩
    · by_cases z : a = l
      · subst z; exact ⟨_, upd_same⟩
      · obtain ⟨us, q⟩ := g.wl a o h
        exact ⟨us, by rw [upd_ne z]; exact q⟩
    · by_cases hj : i = j
      · subst hj
        rw [List.getElem?_set_self (List.getElem?_eq_some_iff.mp e).1] at e'
        cases e'
        exact ⟨_, _, h1, .own upd_same hw (Reps.go g.wl st r' (fun _ z => nomatch z)) (fun z => nomatch z)⟩
      · rw [List.getElem?_set_ne hj] at e'
        obtain ⟨v', F', h1', h2'⟩ := g.slot j d' q' e'
        exact ⟨v', F', h1', Rep.go g.wl st h2' fun a m => ⟨upd_ne (nl a _ (h2'.owns a m) (fun z => hj (by cases z; rfl))), h2'.owns a m⟩⟩
@[simp] noncomputable def isLst : Option (Option (D × Nat)) → Bool
  | some (some (.lst _, _)) => true
  | _ => false
theorem Good.isL {K : PySem.W.Frag} {ρ : Rho} {σ : St} {H : Hp} {w : Wn} {t i : Nat} (g : Good K ρ σ H w t) (h : isLst ρ[i]? = true) : ∃ l, σ[i]? = some (some (.ref l)) ∧ ∃ vs, SqL K H l vs := by
  unfold isLst at h
  split at h
  · rename_i ds q e
    obtain ⟨v, F, h1, h2⟩ := g.slot i _ _ e
    obtain ⟨p, vs, _, _, rfl, hq, _⟩ := h2.seqL
    exact ⟨p, h1, vs, hq⟩
  · cases h
@[simp] noncomputable def eApp (i : Nat) (g : DenA) : Den := fun ρ => if isLst ρ[i]? = true then match g ρ with
  | some ([d], ρ1) => match ρ1[i]? with
    | some (some (.lst ds, 1)) => if ds.length ≤ 1000 then some (.non, 9, ρ1.set i (some (.lst (ds ++ [d]), 1))) else none
    | _ => none
  | _ => none
  else none
theorem pd_append {i : Nat} {x : Str} (h : PE X (.Name x p1) (tVar i)) (ha : PDA X [e] g)
    (hbase : attributeBase (.Name x p1) "append" X.env (eval (.Name x p1) X.env) = eval (.Name x p1) X.env := by rfl)
    (hfew : ((backTo cpos (starEach [e] X.env)).all (fun x => !x.1) && (backToKw cpos (keywordEach [] X.env)).all (fun x => x.1.isSome)
      && decide ([e].length + ([] : List Keyword).length + (if ([] : List Keyword).isEmpty then 0 else 1) < 30)) = true := by rfl)
    (hline : (apos.endLine == cpos.line) = true := by rfl) (hs : starEach [e] X.env = (false, eval e X.env) :: starEach [] X.env := by rfl) (hplain : (backTo cpos (starEach [] X.env)).any (·.1) = false := by rfl) :
    PD X (.Call (.Attribute (.Name x p1) "append" apos) [e] [] cpos) (eApp i g) :=
  PE.imp (pe_bm PySem.F.plainAttrs_list PySem.F.slot_list_append PySem.F.type_list_append mt_append h ha hbase hfew hline hs hplain) fun σ H Q hh0 => by
  obtain ⟨ρ, w, t, r', q, ρ', gd, ee, k⟩ := hh0
  unfold eApp at ee
  split at ee
  · rename_i hl
    obtain ⟨l, hσ, us, hq⟩ := gd.isL hl
    split at ee
    · rename_i d ρ1 h1
      split at ee
      · rename_i ds e1
        split at ee
        · rename_i hlen
          cases ee
          refine ⟨_, hσ, .inl ⟨rfl, us, hq⟩, ρ, w, t, _, _, gd, h1, fun vs H1 w1 g1 go1 r1 => ?_⟩
          obtain ⟨v, rfl, rv⟩ := one r1
          obtain ⟨l', ws, hσ', hH, rs, mk⟩ := g1.mut e1
          rw [hσ] at hσ'
          cases hσ'
          have r2 : Reps X.K H1 w1 .f 0 (ds ++ [d]) (ws ++ [v]) [] := Reps.snoc (F := []) (G := []) rv rs (fun _ z => nomatch z)
          obtain ⟨m1, m2⟩ := mk _ _ r2
          refine ⟨l, ws, v, rfl, rfl, hH, by rw [← rs.length]; exact small1000 hlen, ?_⟩
          exact k .non _ w1 [] m1.up (go1.trans m2) .non
        · cases ee
      · cases ee
    · cases ee
  · cases ee
end
end L3
set_option Elab.async false
set_option linter.all false
set_option maxRecDepth 100000
namespace L3
open PySem PySem.Spec PyProof.Rows L2
theorem Reps.getQ {K : PySem.W.Frag} {H : Hp} {w : Wn} {o : Ow} {q : Nat} : ∀ {ds : List D} {vs : List V} {F : List Addr} {i : Nat} {d : D}, Reps K H w o q ds vs F → ds[i]? = some d → ∃ v G, vs[i]? = some v ∧ Rep K H w o q d v G ∧ ∀ a ∈ G, a ∈ F
  | _, _, _, _, _, .nil, e => by simp at e
  | _, _, _, 0, _, .cons r _ _, e => by
    simp at e; subst e; exact ⟨_, _, rfl, r, fun a m => List.mem_append_left _ m⟩
  | _, _, _, i + 1, d, .cons _ s _, e => by
    obtain ⟨v, G, h1, h2, h3⟩ := Reps.getQ (i := i) (d := d) s (by simpa using e)
    exact ⟨v, G, by simpa using h1, h2, fun a m => List.mem_append_right _ (h3 a m)⟩
theorem Reps.atQ {K : PySem.W.Frag} {H : Hp} {w : Wn} {o : Ow} {q : Nat} {ds : List D} {vs : List V} {F : List Addr} {i : Int} {d : D} (r : Reps K H w o q ds vs F) (h : L2.atI ds i = some d) : ∃ v G, L2.atI vs i = some v ∧ Rep K H w o q d v G ∧ ∀ a ∈ G, a ∈ F := by
  unfold L2.atI at h ⊢
  rw [← r.length]
  cases e : ixN ds.length i with
  | none => rw [e] at h; cases h
  | some j =>
    rw [e] at h
    exact r.getQ h
@[simp] noncomputable def eIxV (n : Nat) (fb : Den) : Den := fun ρ => match ρ[n]? with
  | some (some _) => match fb ρ with
    | some (.int i, _, ρ2) => match ρ2[n]? with
      | some (some (x, q)) => match atD x i with
        | some d => if d.isL = true ∧ 1 < q ∧ x.isL = true then none else some (d, dep0 d, ρ2)
        | none => none
      | _ => none
    | _ => none
  | _ => none
section
variable {X : Cx} {a b c e : Expr} {es : List Expr} {fa fb fc f : Den} {g : DenA} {pos p p1 p2 cpos apos : Pos}
theorem pd_ixV {n : Nat} {x : Str} (h : PE X (.Name x p1) (tVar n)) (hb : PD X b fb) (hs : PlainIx b := by exact fun _ _ => rfl) : PD X (.Subscript (.Name x p1) b pos) (eIxV n fb) := PE.imp (pe_ix ix_seq h hb hs) fun σ H Q hh0 => by
  obtain ⟨ρ, w, t, r', q, ρ', gd, ee, k⟩ := hh0
  unfold eIxV at ee
  split at ee
  · rename_i z0 e0
    obtain ⟨d0, q0⟩ := z0
    obtain ⟨v, F, hσ, _⟩ := gd.slot n d0 q0 e0
    split at ee
    · rename_i i q2 ρ2 h2
      split at ee
      · rename_i x q e2
        split at ee
        · rename_i d hd
          split at ee
          · cases ee
          · rename_i hn
            cases ee
            refine ⟨v, hσ, ρ, w, t, _, _, _, gd, h2, fun y H2 w2 F2 g2 go r2 => ?_⟩
            have hy := intOf r2
            subst hy
            have gg := g2.drop (t' := t)
            obtain ⟨v', F', hσ', rr⟩ := gg.slot n x q e2
            rw [hσ] at hσ'
            cases hσ'
            have fin : ∀ u, Rep X.K H2 (dropT t w2) (.t t) 0 r' u [] → Q u H2 := fun u ru => k u H2 (dropT t w2) [] gg.up (go.drop gd.wt) ru.dep
            cases x with
            | lst ds =>
              by_cases hq0 : q = 0
              · subst hq0
                obtain ⟨p0, vs, rfl, hq, rs⟩ := rr.seqL0
                obtain ⟨u, hu, ru⟩ := rs.atI hd
                exact .inl ⟨p0, vs, i, u, rfl, rfl, hq, hu, fin u (ru.any gg.wl)⟩
              · by_cases hq1 : q = 1
                · subst hq1
                  cases rr with
                  | own h0 _ rs _ =>
                    have z0 := rs.zero
                    subst z0
                    obtain ⟨u, hu, ru⟩ := rs.atI hd
                    exact .inl ⟨_, _, i, u, rfl, rfl, SqL.of h0, hu, fin u (ru.any gg.wl)⟩
                · obtain ⟨p0, vs, q', G, rfl, hq, rs⟩ := rr.seqL
                  obtain ⟨u, G', hu, ru, _⟩ := rs.atQ hd
                  refine .inl ⟨p0, vs, i, u, rfl, rfl, hq, hu, fin u ?_⟩
                  cases hL : r'.isL with
                  | false => exact ((ru.nolist hL).2 0).any gg.wl
                  | true => exact absurd ⟨hL, by omega, rfl⟩ hn
            | tup ds =>
              obtain ⟨p0, vs, rfl, hq, rs⟩ := rr.seqT
              obtain ⟨u, hu, ru⟩ := rs.atI hd
              exact .inr (.inl ⟨p0, vs, i, u, rfl, rfl, hq, hu, fin u (ru.any gg.wl)⟩)
            | _ => cases hd
        · cases ee
      · cases ee
    · cases ee
  · cases ee
@[simp] noncomputable def eRepL (fa fb : Den) : Den := fun ρ => match fa ρ with
  | some (.lst ds, 1, ρ1) => match fb ρ1 with
    | some (.int n, _, ρ2) => if -1000 ≤ n ∧ n ≤ 1000 ∧ ds.length * n.toNat ≤ 1000 then some (.lst (List.replicate n.toNat ds).flatten, 1, ρ2) else none
    | _ => none
  | _ => none
theorem Reps.app {K : PySem.W.Frag} {H : Hp} {w : Wn} {es : List D} {us : List V} (s : Reps K H w .f 0 es us []) : ∀ {ds : List D} {vs : List V}, Reps K H w .f 0 ds vs [] → Reps K H w .f 0 (ds ++ es) (vs ++ us) []
  | ds, vs, r => by
    generalize hF : ([] : List Addr) = F at r
    cases r with
    | nil => rw [← hF]; exact s
    | @cons _ d v ds vs F G r t _ =>
      have h1 : F = [] := r.zero
      have h2 : G = [] := t.zero
      subst h1 h2
      exact .cons (F := []) (G := []) r (Reps.app s t) (fun _ z => nomatch z)
theorem Reps.times {K : PySem.W.Frag} {H : Hp} {w : Wn} {ds : List D} {vs : List V} (r : Reps K H w .f 0 ds vs []) : ∀ n : Nat, Reps K H w .f 0 (List.replicate n ds).flatten (List.replicate n vs).flatten []
  | 0 => .nil
  | n + 1 => by
    rw [List.replicate_succ, List.replicate_succ, List.flatten_cons, List.flatten_cons]
    exact Reps.app (Reps.times r n) r
theorem pd_repL (ha : PD X a fa) (hb : PD X b fb) : PD X (.BinOp a .Mult b pos) (eRepL fa fb) := PE.imp (pe_op op_rep ha hb) fun σ H Q hh0 => by
  obtain ⟨ρ, w, t, r', q, ρ', gd, ee, k⟩ := hh0
  unfold eRepL at ee
  split at ee
  · rename_i ds ρ1 h1
    split at ee
    · rename_i n q2 ρ2 h2
      split at ee
      · rename_i hn
        cases ee
        refine seq2 gd h1 h2 fun u u' H2 w2 F1 F2 g2 go r1 r2 => ?_
        have hu' := intOf r2
        subst hu'
        cases r1 with
        | @own _ l vs _ F hl hw rs ne =>
          have hF := rs.zero
          subst hF
          have gg := g2.drop (t' := t)
          have rs' : Reps X.K H2 (dropT t w2) .f 0 ds vs [] := Reps.go g2.wl (fun a x h n => ⟨sm h, dropT_none n⟩) rs (fun _ z => nomatch z)
          refine ⟨l, n, vs, rfl, rfl, hl, by omega, by omega, ?_, fun p hp => ?_⟩
          · rw [← rs.length]; exact le1000 hn.2.2
          · obtain ⟨a1, a2, a3⟩ := alloc gg hp (rs'.times n.toNat)
            exact k _ _ _ _ a1 ((go.drop gd.wt).trans a2) a3
      · cases ee
    · cases ee
  · cases ee
end
end L3
set_option Elab.async false
set_option linter.all false
set_option maxRecDepth 100000
namespace L3
open PySem PySem.Spec PyProof.Rows L2
noncomputable abbrev DenQ := Rho → Option Int
noncomputable def tQ (K : PySem.W.Frag) (f : DenQ) : TE := fun σ H Q => ∃ ρ w t i, Good K ρ σ H w t ∧ f ρ = some i ∧ Q (.int i) H
noncomputable abbrev PQ (X : Cx) (e : Expr) (f : DenQ) : Prop := PE X e (tQ X.K f)
@[simp] noncomputable def qVar (n : Nat) : DenQ := fun ρ => match ρ[n]? with
  | some (some (.int i, _)) => some i
  | _ => none
@[simp] noncomputable def qIx (n : Nat) (f : DenQ) : DenQ := fun ρ => match f ρ with
  | some i => match ρ[n]? with
    | some (some (x, _)) => match atD x i with
      | some (.int j) => some j
      | _ => none
    | _ => none
  | none => none
section
variable {X : Cx} {a b c e : Expr} {es : List Expr} {fa fb fc f : Den} {qa qb : DenQ} {g : DenA} {pos p p1 p2 cpos apos : Pos}
theorem pq_ix {n : Nat} {x : Str} (h : PE X (.Name x p1) (tVar n)) (hb : PQ X b qb) (hs : PlainIx b := by exact fun _ _ => rfl) : PQ X (.Subscript (.Name x p1) b pos) (qIx n qb) := PE.imp (pe_ix ix_seq h hb hs) fun σ H Q hh0 => by
  obtain ⟨ρ, w, t, i, gd, ee, k⟩ := hh0
  unfold qIx at ee
  split at ee
  · rename_i i0 h0
    split at ee
    · rename_i x q e0
      split at ee
      · rename_i j hj
        cases ee
        obtain ⟨v, F, h1, h2⟩ := gd.slot n _ _ e0
        refine ⟨v, h1, ρ, w, t, i0, gd, h0, ?_⟩
        cases x with
        | lst ds =>
          obtain ⟨p0, vs, q', G, rfl, hq, rs⟩ := h2.seqL
          obtain ⟨u, G', hu, ru, _⟩ := rs.atQ hj
          rw [intOf ru] at hu
          exact .inl ⟨p0, vs, i0, _, rfl, rfl, hq, hu, k⟩
        | tup ds =>
          obtain ⟨p0, vs, rfl, hq, rs⟩ := h2.seqT
          obtain ⟨u, hu, ru⟩ := rs.atI hj
          rw [intOf ru] at hu
          exact .inr (.inl ⟨p0, vs, i0, _, rfl, rfl, hq, hu, k⟩)
        | _ => cases hj
      · cases ee
    · cases ee
  · cases ee
end
end L3
set_option Elab.async false
set_option linter.all false
set_option maxRecDepth 100000
namespace L3
open PySem PySem.Spec PyProof.Rows L2
@[simp] noncomputable def eAnd (fa fb : Den) : Den := fun ρ => match fa ρ with
  | some (.bl b, _, ρ1) => if b = true then fb ρ1 else some (.bl false, 9, ρ1)
  | _ => none
@[simp] noncomputable def eOr (fa fb : Den) : Den := fun ρ => match fa ρ with
  | some (.bl b, _, ρ1) => if b = true then some (.bl true, 9, ρ1) else fb ρ1
  | _ => none
@[simp] noncomputable def eNot (fa : Den) : Den := fun ρ => match fa ρ with
  | some (.bl b, _, ρ1) => some (.bl (!b), 9, ρ1)
  | _ => none
section
variable {X : Cx} {a b c e : Expr} {es rest : List Expr} {fa fb fc f : Den} {g : DenA} {pos p p1 p2 cpos apos : Pos}
theorem pd_one {op} (h : PD X a fa) : PD X (.BoolOp op [a] pos) fa := pe_one h
theorem pd_and (ha : PD X a fa) (hb : PD X (.BoolOp .And (b :: rest) pos) fb) : PD X (.BoolOp .And (a :: b :: rest) pos) (eAnd fa fb) := PE.imp (pe_and ha hb) fun σ H Q hh0 => by
  obtain ⟨ρ, w, t, r', q, ρ', gd, ee, k⟩ := hh0
  unfold eAnd at ee
  split at ee
  · rename_i b' q1 ρ1 h1
    refine ⟨ρ, w, t, _, _, _, gd, h1, fun v H1 w1 F1 g1 go1 r1 => ?_⟩
    cases r1
    refine ⟨b', rfl, ?_⟩
    split at ee
    · rename_i hb; rw [if_pos hb]
      exact ⟨ρ1, dropT t w1, t, r', q, ρ', g1.drop, ee, fun v H2 w2 F g2 go2 => k v H2 w2 F g2 ((go1.drop gd.wt).trans go2)⟩
    · rename_i hb; rw [if_neg hb]
      cases ee
      exact k _ H1 w1 [] g1 go1 (.bl false)
  · cases ee
theorem pd_or (ha : PD X a fa) (hb : PD X (.BoolOp .Or (b :: rest) pos) fb) : PD X (.BoolOp .Or (a :: b :: rest) pos) (eOr fa fb) := PE.imp (pe_or ha hb) fun σ H Q hh0 => by
  obtain ⟨ρ, w, t, r', q, ρ', gd, ee, k⟩ := hh0
  unfold eOr at ee
  split at ee
  · rename_i b' q1 ρ1 h1
    refine ⟨ρ, w, t, _, _, _, gd, h1, fun v H1 w1 F1 g1 go1 r1 => ?_⟩
    cases r1
    refine ⟨b', rfl, ?_⟩
    split at ee
    · rename_i hb; rw [if_pos hb]
      cases ee
      exact k _ H1 w1 [] g1 go1 (.bl true)
    · rename_i hb; rw [if_neg hb]
      exact ⟨ρ1, dropT t w1, t, r', q, ρ', g1.drop, ee, fun v H2 w2 F g2 go2 => k v H2 w2 F g2 ((go1.drop gd.wt).trans go2)⟩
  · cases ee
theorem pd_not (ha : PD X a fa) : PD X (.UnaryOp .Not a pos) (eNot fa) := PE.imp (pe_not ha) fun σ H Q hh0 => by
  obtain ⟨ρ, w, t, r', q, ρ', gd, ee, k⟩ := hh0
  unfold eNot at ee
  split at ee
  · rename_i b' q1 ρ1 h1
    cases ee
    refine ⟨ρ, w, t, _, _, _, gd, h1, fun v H1 w1 F1 g1 go1 r1 => ?_⟩
    cases r1
    exact ⟨b', rfl, k _ H1 w1 [] g1 go1 (.bl _)⟩
  · cases ee
end
section
variable {es rest : List Expr} {a b c e : Expr} {pos : Pos} {env : Env}
theorem se_BinOp {op} : starEach (.BinOp a op b pos :: rest) env = (false, eval (.BinOp a op b pos) env) :: starEach rest env := by simp only [starEach]
theorem se_UnaryOp {op} : starEach (.UnaryOp op a pos :: rest) env = (false, eval (.UnaryOp op a pos) env) :: starEach rest env := by simp only [starEach]
theorem se_ListComp {g sc} : starEach (.ListComp a g sc pos :: rest) env = (false, eval (.ListComp a g sc pos) env) :: starEach rest env := by simp only [starEach]
theorem se_Call {k} : starEach (.Call a es k pos :: rest) env = (false, eval (.Call a es k pos) env) :: starEach rest env := by simp only [starEach]
theorem se_Constant {v k} : starEach (.Constant v k pos :: rest) env = (false, eval (.Constant v k pos) env) :: starEach rest env := by simp only [starEach]
theorem se_Subscript : starEach (.Subscript a b pos :: rest) env = (false, eval (.Subscript a b pos) env) :: starEach rest env := by simp only [starEach]
theorem se_Name {x} : starEach (.Name x pos :: rest) env = (false, eval (.Name x pos) env) :: starEach rest env := by simp only [starEach]
theorem se_List : starEach (.List es pos :: rest) env = (false, eval (.List es pos) env) :: starEach rest env := by simp only [starEach]
theorem se_Tuple {k} : starEach (.Tuple es k pos :: rest) env = (false, eval (.Tuple es k pos) env) :: starEach rest env := by simp only [starEach]
theorem se_Lambda {ar sc} : starEach (.Lambda ar b sc pos :: rest) env = (false, eval (.Lambda ar b sc pos) env) :: starEach rest env := by simp only [starEach]
end
noncomputable def At (K : PySem.W.Frag) (mg : Str → Option Value) (x : Str) (st : Stmt) (ps : List Str) : Prop :=
  ∃ f fd, Fun K x x st f fd ∧ mg x = some (.ref f) ∧ Binds K fd ps []
noncomputable def Cal (P : Program) (w : World) (K : PySem.W.Frag) (mg : Str → Option Value) (base : Heap) (k : Nat) (x : Str) (n : Nat) (F : List D → Option (D × Nat)) : Prop :=
  ∃ f fd ps, FnOk P w K mg base CX0 k f fd ps (spD K n F) ∧ mg x = some (.ref f) ∧ PySem.W.keepIn K (.ref f) = true ∧ Binds K fd ps []
theorem Cal.mk {P : Program} {w : World} {K : PySem.W.Frag} {mg : Str → Option Value} {base : Heap} {k : Nat} {x : Str} {st : Stmt} {N ps : List Str} {body : DenS} (a : At K mg x st ps) (S : FnScope N ps (defScope st))
    (h : ∀ (f : Addr) (cdv : Value) (A : Around) (outer : List Env) (s : Shared) (H : Hp) (E : XK), Room k (A.deeper (envOfC x (defScope st) s.heap.objs.size f cdv)) → PDSs (cxOf CX0 P w K mg base N x (defScope st) f cdv A outer s H E).nox (defBody st) body) :
    Cal P w K mg base (k + 1) x ps.length (fnD N.length body) := by
  obtain ⟨f, fd, F, m, b⟩ := a
  exact ⟨f, fd, ps, fn_ok F S (h f), m, F.kp, b⟩
section
variable {X : Cx} {a b c e : Expr} {es rest : List Expr} {fa fb fc f : Den} {g : DenA} {pos p p1 p2 cpos apos : Pos}
theorem pd_callC {j k n : Nat} {x : Str} {F : List D → Option (D × Nat)} (C : Cal X.prog X.w X.K X.mg X.base k x n F) (hr : Room j X.A) (hk : k ≤ j) (ha : PDA X (e :: es) g)
    (hg : Gl X x := by rfl) (hdb : (x == ("__debug__" : Str)) = false := by decide) (he : starEach (e :: es) X.env = (false, eval e X.env) :: starEach es X.env := by rfl) (hpl : (backTo pos (starEach es X.env)).any (·.1) = false := by rfl) :
    PD X (.Call (.Name x p) (e :: es) [] pos) (eCall F n g) := by
  obtain ⟨f, fd, ps, G, hm, hkp, hb⟩ := C
  exact pd_callF G (hr.mono hk) hm hkp hb pass0 ha hg hdb he hpl
end
theorem law_sp {K : PySem.W.Frag} {F : List D → Option (D × Nat)} (h : ∀ ns : List Int, ns.length ≤ 63 → ∃ q, F [.lst (ns.map D.int)] = some (.bl true, q)) {H : Hp} {a : Addr} {ns : List Int} (hl : ns.length ≤ 63) (hS : SqL K H a (ns.map V.int)) (tb : TB K H) {E : XK} :
    spD K 1 F [.ref a] H (fun v _ => v = .bl true) E := by
  obtain ⟨q, e⟩ := h ns hl
  have r : Rep K H (fun _ => none) .f 0 (.lst (ns.map D.int)) (.ref a) [] := by
    rcases SqL.cases hS with z | z
    · exact .shr z rfl (reps_ints ns)
    · exact .kl z (reps_ints ns)
  exact ⟨rfl, [.lst (ns.map D.int)], fun _ => none, .bl true, q, (fun a o z => nomatch z), ⟨(fun a o z => nomatch z), tb⟩, .cons (F := []) (G := []) r .nil (fun _ z => nomatch z), e, fun v H' w' Fo _ _ rr => by cases rr; rfl⟩
theorem law_ok {P : Program} {w : World} {K : PySem.W.Frag} {mg : Str → Option Value} {base : Heap} {k : Nat} {x : Str} {st : Stmt} {N ps : List Str} {body : DenS} {f : Addr} {fd : FuncData} (F : Fun K x x st f fd) (S : FnScope N ps (defScope st))
    (h : ∀ (f : Addr) (cdv : Value) (A : Around) (outer : List Env) (s : Shared) (H : Hp) (E : XK), Room k (A.deeper (envOfC x (defScope st) s.heap.objs.size f cdv)) → PDSs (cxOf CX0 P w K mg base N x (defScope st) f cdv A outer s H E).nox (defBody st) body) :
    FnOk P w K mg base CX0 (k + 1) f fd ps (spD K ps.length (fnD N.length body)) := fn_ok F S (h f)
end L3
set_option Elab.async false
set_option linter.all false
set_option maxRecDepth 100000
namespace L3
open PySem PySem.Spec PyProof.Rows L2
section
variable {prog : Program} {w : World} {A : Around} {E : Value → Shared → Prop} {s : Shared}
theorem nextT_item {j p : Addr} {n : Nat} {vs : Array Value} {v : Value} {Q : Value → Shared → Prop} (a : s.heap.IsTupleIter j p n) (b : s.heap.IsTuple p vs) (c : vs[n]? = some v)
    (k : ∀ g : Heap, g.IsTupleIter j p (n + 1) → Heap.SameBut j s.heap g → Q v { s with heap := g }) : wpAny (model prog w) A (Builtin.SmallTypes.nextOf (.ref j)) Q E s := by
  obtain ⟨oj, ej, kj, dj⟩ := id a
  obtain ⟨op, ep, _, mp, dp⟩ := b
  unfold Builtin.SmallTypes.nextOf
  refine wpAny_bind (wpAny_callSpecial?_slot (name := Str.ofString "__next__") a.typeIs F.slot_tuple_iterator_next (wpAny_call_entry F.slot_tuple_iterator_next a.typeIs F.entry_tuple_iterator_next ?_ (F.args_tuple_iterator_next_1 _)))
  show wpAny _ _ (field (.ref j) 0 >>= _) _ _ s
  refine wpAny_bind (wpAny_field ej dj (x := .ref p) rfl ?_)
  show wpAny _ _ (if (Value.ref p == Value.none) = true then _ else _) _ _ s
  rw [if_neg (show ¬ ((Value.ref p == Value.none) = true) from Bool.false_ne_true)]
  show wpAny _ _ (field (.ref j) 1 >>= _) _ _ s
  refine wpAny_bind (wpAny_field ej dj (x := .int n 0) rfl ?_)
  show wpAny _ _ (seqItems? (.ref p) >>= _) _ _ s
  refine wpAny_bind (wpAny_seqItems ep dp ?_)
  simp only [Int.toNat_natCast, c]
  refine wpAny_bind (wpAny_setField ej dj (by simp) (wpAny_pure ⟨v, rfl, wpAny_pure (k _ ⟨_, Heap.get?_update_self _ ej (Obj.isFreed_of_fields (Obj.data_mapFields dj _)), (Obj.cls_mapFields ..).trans kj, ?_⟩ (Heap.SameBut.update ..))⟩))
  rw [Obj.data_mapFields dj]
  simp [rawInt]
theorem nextT_end {j p : Addr} {n : Nat} {vs : Array Value} {Q : Value → Shared → Prop} (hh : A.handled = none) (a : s.heap.IsTupleIter j p n) (b : s.heap.IsTuple p vs) (c : vs[n]? = none)
    (k : ∀ (g : Heap) x, Heap.ExtBut j s.heap g → (∃ o, g.get? x = some o ∧ o.cls = .type "StopIteration") → E (.ref x) { s with heap := g }) : wpAny (model prog w) A (Builtin.SmallTypes.nextOf (.ref j)) Q E s := by
  obtain ⟨oj, ej, kj, dj⟩ := id a
  obtain ⟨op, ep, _, mp, dp⟩ := b
  unfold Builtin.SmallTypes.nextOf
  refine wpAny_bind (wpAny_callSpecial?_slot (name := Str.ofString "__next__") a.typeIs F.slot_tuple_iterator_next (wpAny_call_entry F.slot_tuple_iterator_next a.typeIs F.entry_tuple_iterator_next ?_ (F.args_tuple_iterator_next_1 _)))
  show wpAny _ _ (field (.ref j) 0 >>= _) _ _ s
  refine wpAny_bind (wpAny_field ej dj (x := .ref p) rfl ?_)
  show wpAny _ _ (if (Value.ref p == Value.none) = true then _ else _) _ _ s
  rw [if_neg (show ¬ ((Value.ref p == Value.none) = true) from Bool.false_ne_true)]
  show wpAny _ _ (field (.ref j) 1 >>= _) _ _ s
  refine wpAny_bind (wpAny_field ej dj (x := .int n 0) rfl ?_)
  show wpAny _ _ (seqItems? (.ref p) >>= _) _ _ s
  refine wpAny_bind (wpAny_seqItems ep dp ?_)
  simp only [Int.toNat_natCast, c]
  refine wpAny_bind (wpAny_rule (wpAny_bind (wpAny_setField ej dj (by simp) ?_)))
  show wpAny _ _ (newExc (.type "StopIteration") [] >>= _) _ _ _; refine wpAny_bind ?_; simp only [newExc, newTuple]
  refine wpAny_bind (wpAny_newObj_type ?_ (by size_fits)); refine wpAny_bind (m := firstArgMember _ _) (wpAny_of_eq (a := Value.none) (by first | rfl | (simp only [firstArgMember]; rfl)) (wpAny_newObj_type ?_ (by size_fits)))
  simp only [raiseNew]
  refine wpAny_bind (wpAny_handled ?_); first | rw [show A.in1.handled = none from hh] | rw [hh]
  exact wpAny_bind (wpAny_pure (wpAny_throw (k _ _ (((Heap.SameBut.update ..).extBut.push _).push _) ⟨_, Heap.get?_push_size _ rfl, rfl⟩)))
end
end L3
set_option Elab.async false
set_option linter.all false
set_option maxRecDepth 100000
namespace L3
open PySem PySem.Spec PyProof.Rows L2
theorem turnedL {X : Cx} {pins : List (Addr × Obj)} {σ : St} {H : Hp} {s : Shared} {h' : Heap} {t' : Nat} {ch : List Addr} (I : Inv X pins σ H s) (k : ∀ b o, b ∉ ch → s.heap.get? b = some o → h'.get? b = some o) (hf : ∀ b ∈ ch, FpOk X pins H b) :
    Inv X pins σ H { s with heap := h', toks := t' } := by
  have nit : ∀ b u, H b = some u → b ∉ ch := fun b u e z => by rw [(hf b z).1] at e; cases e
  refine I.step (g' := s.gens) (d' := s.drawn) (ch := ch) (fun b hb => ?_) (fun b o _ _ hc e _ => k b o hc e) (fun b o _ _ hc e _ => ⟨o.slots, k b o hc e⟩) (fun _ _ _ _ n => n)
    (fun b o hc e => ⟨o, k b o hc e⟩) (fun _ _ e => e) (fun _ _ _ e => e) (fun b ps e => ⟨#[], by rw [e]; simp⟩) (fun m hm => ?_) (fun b u e => ?_) I.bare
  · obtain ⟨f0, f1, f2, f3, f4, f5⟩ := hf b hb
    exact ⟨f3, f1, f4, f5⟩
  · obtain ⟨o, es, ep, ho, r⟩ := hm
    exact ⟨o, es, ep, k _ o (fun z => (hf _ z).2.1 rfl) ho, r⟩
  · refine (I.hok b u e).stay (fun c v hc q => k c v ?_ q) (fun _ q => q) fun _ _ q => q
    rcases hc with z | z
    · rw [z]; exact nit b u e
    · exact nit c _ z
section
variable {X : Cx} {a b c e : Expr} {es elts : List Expr} {fa fb fc f : Den} {g : DenA} {pos p p1 p2 tp : Pos} {kt : Nat}
@[simp] noncomputable def iZipD (g : DenA) : DenI := fun ρ => match g ρ with
  | some ([.tup ds, .tup es], ρ1) => if ds.length ≤ 1000 then some ((ds.zip es).map fun x => .tup [x.1, x.2], ρ1) else none
  | _ => none
end
noncomputable abbrev DenPs := List D → Rho → Option Rho
noncomputable def tDGs (K : PySem.W.Frag) (b : Nat) (pt : DenPs) : TGs := fun vs σ H Q => ∃ ds ρ w t ρ', Good K ρ σ H w t ∧ Reps K H w .f 0 ds vs [] ∧ pt ds ρ = some ρ' ∧ ∀ σ' H' w', σ'.length = σ.length → (∀ i, i < b → σ'[i]? = σ[i]?) → Good K ρ' σ' H' w' t → Go H w H' w' → Q σ' H'
theorem PGs.imp {X : Cx} {tg : List Expr} {t t' : TGs} (h : PGs X tg t) (i : ∀ v σ H Q, t' v σ H Q → t v σ H Q) : PGs X tg t' := fun pins s σ H v u Q I r q => h pins s σ H v u Q I r (i v σ H Q q)
noncomputable abbrev PDGs (X : Cx) (b : Nat) (tg : List Expr) (pt : DenPs) : Prop := PGs X tg (tDGs X.K b pt)
@[simp] noncomputable def psNil : DenPs := fun ds ρ => match ds with
  | [] => some ρ
  | _ => none
@[simp] noncomputable def psCons (pt : DenP) (ps : DenPs) : DenPs := fun ds ρ => match ds with
  | [] => none
  | d :: r => match pt d ρ with
    | some ρ1 => ps r ρ1
    | none => none
@[simp] noncomputable def pTup (ps : DenPs) : DenP := fun d ρ => match d with
  | .tup ds => ps ds ρ
  | _ => none
section
variable {X : Cx} {k b : Nat} {e : Expr} {es : List Expr} {pt : DenP} {ps : DenPs} {pos : Pos}
theorem pdgs_nil : PDGs X b [] psNil := PGs.imp pgs_nil fun v σ H Q hh0 => by
  obtain ⟨ds, ρ, w, t, ρ', g, r, e, k⟩ := hh0
  unfold psNil at e
  split at e
  · cases e
    generalize hF : ([] : List Addr) = F at r
    cases r
    exact ⟨rfl, k σ H w rfl (fun _ _ => rfl) g Go.refl⟩
  · cases e
theorem pdgs_cons (h1 : PDG X b e pt) (h2 : PDGs X b es ps) (hs : (assignEach (e :: es) X.env).map (·.2) = assign e X.env :: (assignEach es X.env).map (·.2) := by rfl) : PDGs X b (e :: es) (psCons pt ps) := PGs.imp (pgs_cons h1 h2 hs) fun v σ H Q hh0 => by
  obtain ⟨ds, ρ, w, t, ρ', g, r, e, k⟩ := hh0
  unfold psCons at e
  split at e
  · cases e
  · rename_i d rest
    split at e
    · rename_i ρ1 h1
      generalize hF : ([] : List Addr) = F at r
      cases r with
      | cons ra rb _ =>
        have z1 := ra.zero
        have z2 := rb.zero
        subst z1 z2
        refine ⟨_, _, rfl, d, ρ, w, t, ρ1, g, ra, h1, fun σ1 H1 w1 l1 s1 g1 go1 => ⟨rest, ρ1, w1, t, ρ', g1, rb.go0 g.wl go1.stab, e, fun σ2 H2 w2 l2 s2 g2 go2 => k σ2 H2 w2 (l2.trans l1) (fun i hi => (s2 i hi).trans (s1 i hi)) g2 (go1.trans go2)⟩⟩
    · cases e
theorem pdg_tup {n : Nat} (hc : X.calm = true) (h : PDGs X b es ps) (hl : ∀ ds ρ ρ', ps ds ρ = some ρ' → ds.length = n) (hn : (assignEach es X.env).length = n := by rfl) (hst : (assignEach es X.env).findIdx? (·.1) = none := by rfl) : PDG X b (.Tuple es k pos) (pTup ps) := PG.imp (pg_tup hc h hn hst) fun v σ H Q hh0 => by
  obtain ⟨d, ρ, w, t, ρ', g, r, e, k⟩ := hh0
  unfold pTup at e
  split at e
  · rename_i ds
    obtain ⟨a, vs, rfl, hq, rs⟩ := r.seqT
    exact ⟨a, vs, rfl, hq, by rw [← rs.length]; exact hl _ _ _ e, ds, ρ, w, t, ρ', g, rs, e, k⟩
  · cases e
theorem ps_len2 {p q : DenP} : ∀ ds ρ ρ', psCons p (psCons q psNil) ds ρ = some ρ' → ds.length = 2 := fun ds ρ ρ' h => by
  match ds with
  | [] => cases h
  | [_] => unfold psCons at h; simp at h; split at h <;> cases h
  | [_, _] => rfl
  | _ :: _ :: _ :: _ =>
    exfalso
    unfold psCons at h
    simp at h
    split at h
    · split at h <;> cases h
    · cases h
end
end L3
set_option Elab.async false
set_option linter.all false
set_option maxRecDepth 100000
namespace L3
open PySem PySem.Spec PyProof.Rows L2
theorem bools_are : ∀ {bs : List Bool} {us : List Value}, Vals (bs.map V.bl) us → LSm.BoolsAre us bs
  | [], _, h => by cases h; exact .nil
  | b :: bs, _, h => by
    cases h with
    | cons r rr =>
      cases r
      exact .cons b (bools_are rr)
section
variable {X : Cx} {a b c e : Expr} {es : List Expr} {fa fb fc f : Den} {g : DenA} {pos p p1 p2 : Pos}
theorem call_all (hc : X.calm = true) : CallR X (.builtin "all") (fun xs H Q => ∃ (a : Addr) (bs : List Bool), xs = [.ref a] ∧ SqL X.K H a (bs.map V.bl) ∧ Q (.bl (bs.all id)) H) := by
  intro pins s σ H xs us Q I r h
  obtain ⟨l, bs, rfl, hq, q⟩ := h
  obtain ⟨u, rfl, ru⟩ := vals1 r
  cases ru
  obtain ⟨its, rv, pl, hz⟩ := I.list hq
  have hb := bools_are rv
  have hl : s.heap.IsList l its.toArray := pl.isList
  have lt : l < s.heap.objs.size := by obtain ⟨_, e, _⟩ := hl; exact Heap.lt_size e
  refine call_all_walk (wpAny_pyIter_list hl ⟨s.heap.objs.size, [s.heap.objs.size, l], [s.heap.objs.size], its.toArray.size, _, _, fun i => (bs[i]?).getD true, rfl, Walks.list (A := X.A.in1) (I.ok.hd hc) _ l (Nat.ne_of_lt lt) its.toArray,
    ⟨⟨_, Heap.get?_push_size _ rfl, rfl, rfl⟩, hl.push _⟩, fun i v s' Q' E' hP hQ => ?_, fun h' tk hk => ?_⟩)
  · obtain ⟨b, e, rfl⟩ := hb.get i v (by simpa using hP)
    simp only [e, Option.getD_some] at hQ
    exact wpAny_truthy_bool hQ
  · have e : ((List.range its.toArray.size).all fun i => (bs[i]?).getD true) = bs.all id := by
      rw [List.size_toArray, hb.length]; exact LSm.range_all bs
    rw [e]
    exact ⟨.bl (bs.all id), H, I.kept fun b o z => hk b o (fun m => by rw [List.mem_singleton.mp m] at z; exact Nat.lt_irrefl _ (Heap.lt_size z)) (Heap.get?_push_of_some _ z), rfl, q⟩
noncomputable def unBl : List D → Option (List Bool)
  | [] => some []
  | .bl b :: r => (unBl r).map (b :: ·)
  | _ => none
noncomputable def bAll : List D → Option D
  | [.lst ds] => (unBl ds).map fun bs => .bl (bs.all id)
  | _ => none
theorem unBl_vals {K : PySem.W.Frag} {H : Hp} {w : Wn} {o : Ow} : ∀ {ds : List D} {vs : List V} {bs : List Bool}, Reps K H w o 0 ds vs [] → unBl ds = some bs → vs = bs.map V.bl
  | ds, vs, bs, r, e => by
    generalize hF : ([] : List Addr) = F at r
    cases r with
    | nil => cases e; rfl
    | @cons _ d v ds' vs' F' G' r1 r2 _ =>
      have h2 : G' = [] := r2.zero
      subst h2
      cases r1 with
      | bl b =>
        unfold unBl at e
        cases e' : unBl ds' with
        | none => rw [e'] at e; cases e
        | some bs' =>
          rw [e'] at e
          cases e
          rw [unBl_vals r2 e']
          rfl
      | _ => cases e
theorem pd_all (hc : X.calm = true) (hm : X.mg "all" = none) (ha : PDA X [a] g) (hg : Gl X "all" := by rfl) (he : starEach [a] X.env = (false, eval a X.env) :: starEach [] X.env := by rfl) (hpl : (backTo pos (starEach [] X.env)).any (·.1) = false := by rfl) : PD X (.Call (.Name "all" p) [a] [] pos) (eB bAll g) :=
  PE.imp (pe_callB (call_all hc) hg hm PyProof.Rows.boot_all ha (by decide) (by decide) he hpl) (tCB_of fun ds d h => by
    unfold bAll at h
    split at h
    · rename_i ds0
      cases e : unBl ds0 with
      | none => rw [e] at h; cases h
      | some bs =>
        rw [e] at h
        cases h
        refine ⟨_, rfl, fun H w vs wl r Q hq => ?_⟩
        obtain ⟨v, rfl, rv⟩ := one r
        obtain ⟨p, ys, rfl, hs, rs⟩ := rv.seqL0
        rw [unBl_vals rs e] at hs
        exact ⟨p, bs, rfl, hs, hq⟩
    · cases h)
theorem unBl_map {α : Type} (l : List α) (f : α → Bool) : unBl (l.map fun i => .bl (f i)) = some (l.map f) := by
  induction l with
  | nil => rfl
  | cons a l ih => rw [List.map_cons, unBl, ih]; rfl
end
end L3
set_option Elab.async false
set_option linter.all false
set_option maxRecDepth 100000
namespace L3
open PySem PySem.Spec PyProof.Rows L2
inductive IT where
  | int | bool | tuple | list | str
noncomputable def IT.nm : IT → String
  | .int => "int"
  | .bool => "bool"
  | .tuple => "tuple"
  | .list => "list"
  | .str => "str"
noncomputable def isD : IT → D → Bool
  | .int, .int _ => true
  | .int, .bl _ => true
  | .bool, .bl _ => true
  | .tuple, .tup _ => true
  | .list, .lst _ => true
  | .str, .str _ => true
  | _, _ => false
noncomputable def tyD : D → String
  | .non => "NoneType"
  | .bl _ => "bool"
  | .int _ => "int"
  | .str _ => "str"
  | .tup _ => "tuple"
  | .dic _ _ => "dict"
  | .exc _ => "object"
  | .ob _ _ _ _ => "function"
  | .lst _ => "list"
section
variable {X : Cx} {pins : List (Addr × Obj)} {σ : St} {H : Hp} {s : Shared}
theorem isi_ok {w : Wn} {o : Ow} {q : Nat} {F : List Addr} {d : D} {x : V} {u c : Value} {b : Bool} {A : Around} {E : Value → Shared → Prop} {Q : Value → Shared → Prop} (I : Inv X pins σ H s) (rx : RelV x u) (r : Rep X.K H w o q d x F)
    (e : PySem.W.kitOne X.K (.type (tyD d)) c = some b) (hx : ∀ nm, d ≠ .exc nm) (h : ∀ tk, Q (.bool b) { s with toks := tk }) : wpAny (model X.prog X.w) A (call (.builtin "isinstance") [u, c]) Q E s := by
  cases r with
  | exc _ _ _ => exact absurd rfl (hx _)
  | ob h1 h2 x r =>
    cases rx
    obtain ⟨e1, _⟩ := (show ObjOk X.prog X.w H s.heap _ (.frz _ _) from I.hok _ _ h1)
    exact PySem.W.kia_one kitx_fun I.kIn ⟨_, e1, x.1⟩ e (fun z => nomatch z) h
  | non => exact isinst_ok I rx .non e h
  | bl y => exact isinst_ok I rx (.bl y) e h
  | int i => exact isinst_ok I rx (.int i) e h
  | str y => exact isinst_ok I rx (.str y) e h
  | tup ha _ => exact isinst_ok I rx (.tup ha) e h
  | dic ha _ => exact isinst_ok I rx (.dK ha) e h
  | kl ha _ =>
    obtain ⟨ob, its, n, hk, hc, hd, _⟩ := ha
    cases rx
    exact PySem.W.kia_one PySem.W.kitx_list I.kIn ⟨ob, I.kIn _ _ hk, hc⟩ e (fun z => nomatch z) h
  | shr ha _ _ =>
    rcases ha with ha | ⟨ob, ha⟩
    · exact isinst_ok I rx (.lst ha) e h
    · exact isinst_ok I rx (.frz ha) e h
  | own ha _ _ _ => exact isinst_ok I rx (.lst ha) e h
theorem kit_isD {K : PySem.W.Frag} (T : IT) (d : D) (hx : ∀ nm, d ≠ .exc nm) : PySem.W.kitOne K (.type (tyD d)) (.type T.nm) = some (isD T d) := by
  cases T <;> cases d <;> first | rfl | exact absurd rfl (hx _)
end
section
variable {X : Cx} {a b c e : Expr} {es : List Expr} {fa fb fc f : Den} {ga gb : DenT} {g : DenA} {pos p p1 p2 pT : Pos}
theorem call_isi (T : IT) : CallR X (.builtin "isinstance") (fun xs H Q => ∃ x w o q F d, xs = [x, .ty T.nm] ∧ Rep X.K H w o q d x F ∧ Q (.bl (isD T d)) H) := by
  intro pins s σ H xs us Q I r h
  obtain ⟨x, w, o, q, F, d, rfl, rd, hq⟩ := h
  obtain ⟨u, v, rfl, ru, rv⟩ := vals2 r
  cases rv
  by_cases hx : ∃ nm, d = .exc nm
  · obtain ⟨nm, rfl⟩ := hx
    cases rd with
    | exc ha xo _ =>
      obtain ⟨C, hc, k⟩ := xo
      cases ru
      obtain ⟨e1, _⟩ := (show ObjOk X.prog X.w H s.heap _ (.frz _ _) from I.hok _ _ ha)
      have hT : isD T (.exc nm) = false := by cases T <;> rfl
      rw [hT] at hq
      refine xc_noT (x := _) I.kIn ⟨e1, hc⟩ k.xc (by cases T <;> kernel_rfl) (k.no _ (by cases T <;> simp [IT.nm])) ⟨.bl false, H, I.tok _, rfl, hq⟩
  · exact isi_ok I ru rd (kit_isD T d fun nm z => hx ⟨nm, z⟩) (fun nm z => hx ⟨nm, z⟩) fun tk => ⟨.bl (isD T d), H, I.tok _, rfl, hq⟩
@[simp] noncomputable def eIsi (T : IT) (fa : Den) : Den := fun ρ => match fa ρ with
  | some (d, _, ρ1) => some (.bl (isD T d), 9, ρ1)
  | none => none
theorem pd_isi (T : IT) {t : Str} (hm : X.mg "isinstance" = none) (hmT : X.mg t = none) (hbT : bootBuiltins t = some (.type T.nm)) (ha : PD X a fa) (hg : Gl X "isinstance" := by rfl) (hgT : Gl X t := by rfl) (hnT : t ≠ "__name__" := by decide) (hdT : (t == ("__debug__" : Str)) = false := by decide)
    (hs : starEach [a, .Name t pT] X.env = (false, eval a X.env) :: starEach [.Name t pT] X.env := by rfl) (hpl : (backTo pos (starEach [.Name t pT] X.env)).any (·.1) = false := by rfl) : PD X (.Call (.Name "isinstance" p) [a, .Name t pT] [] pos) (eIsi T fa) :=
  PE.imp (pe_callB (call_isi T) hg hm PyProof.Rows.boot_isinstance (pa_cons ha (pa_cons (pe_bltn (v := .ty T.nm) hgT hmT hbT rfl hnT hdT) pa_nil se_Name) hs) (by decide) (by decide) hs hpl) fun σ H Q hh0 => by
  obtain ⟨ρ, w, t, r', q, ρ', gd, ee, k⟩ := hh0
  unfold eIsi at ee
  split at ee
  · rename_i d q1 ρ1 h1
    cases ee
    refine ⟨ρ, w, t, _, _, _, gd, h1, fun v H1 w1 F1 g1 go1 r1 => ?_⟩
    exact ⟨v, w1, _, _, F1, d, rfl, r1, k _ H1 (dropT t w1) [] g1.drop.up (go1.drop gd.wt) (.bl _)⟩
  · cases ee
@[simp] noncomputable def eCh (g1 g2 : D → D → Option D) (fa fb fc : Den) : Den := fun ρ => match fa ρ with
  | some (x, _, ρ1) => match fb ρ1 with
    | some (y, _, ρ2) => match g1 x y with
      | some (.bl true) => match fc ρ2 with
        | some (z, _, ρ3) => match g2 y z with
          | some d => some (d, 9, ρ3)
          | none => none
        | none => none
      | some (.bl false) => some (.bl false, 9, ρ2)
      | _ => none
    | none => none
  | none => none
theorem pd_chI {op op' : CmpOp} {g1 g2 : Int → Int → Option D} {h1 h2 : Int → Int → V} (ho : OpR X (compareOp op) (rI0 h1)) (ho' : OpR X (compareOp op') (rI0 h2)) (e1 : ∀ i j d, g1 i j = some d → scalV d = some (h1 i j)) (e2' : ∀ i j d, g2 i j = some d → scalV d = some (h2 i j))
    (ha : PD X a fa) (hb : PD X b fb) (hc : PD X c fc) (hm : lastMarks [op, op'] [b, c] = false := by with_unfolding_all rfl) : PD X (.Compare a [op, op'] [b, c] pos) (eCh (gI g1) (gI g2) fa fb fc) := PE.imp (pe_chain ho ho' ha hb hc hm) fun σ H Q hh0 => by
  obtain ⟨ρ, w, t, r', q, ρ', gd, ee, k⟩ := hh0
  unfold eCh at ee
  split at ee
  · rename_i x q1 ρ1 a1
    split at ee
    · rename_i y q2 ρ2 a2
      refine seq2 gd a1 a2 fun u v H2 w2 F1 F2 g2' go2 r1 r2 => ?_
      have gg := g2'.drop (t' := t)
      split at ee
      · rename_i hg
        obtain ⟨i, j, rfl, rfl, hg'⟩ := gI_some hg
        refine ⟨i, j, intOf r1, intOf r2, true, by have := e1 i j _ hg'; simpa [scalV] using this.symm, ?_⟩
        rw [if_pos rfl]
        split at ee
        · rename_i z q3 ρ3 a3
          refine ⟨ρ2, dropT t w2, t, z, q3, ρ3, gg, a3, fun v3 H3 w3 F3 g3 go3 r3 => ?_⟩
          split at ee
          · rename_i d hd
            cases ee
            obtain ⟨j', l, ej, rfl, hd'⟩ := gI_some hd
            cases ej
            exact ⟨j, l, intOf r2, intOf r3, fin0 k gd g3 ((go2.drop gd.wt).trans go3) (scal_rep (e2' j l _ hd'))⟩
          · cases ee
        · cases ee
      · rename_i hg
        obtain ⟨i, j, rfl, rfl, hg'⟩ := gI_some hg
        cases ee
        refine ⟨i, j, intOf r1, intOf r2, false, by have := e1 i j _ hg'; simpa [scalV] using this.symm, ?_⟩
        rw [if_neg (by decide)]
        exact fin0 k gd g2' go2 (.bl false)
      · cases ee
    · cases ee
  · cases ee
theorem pd_ch_le_lt (ha : PD X a fa) (hb : PD X b fb) (hc : PD X c fc) (hm : lastMarks [.LtE, .Lt] [b, c] = false := by with_unfolding_all rfl) : PD X (.Compare a [.LtE, .Lt] [b, c] pos) (eCh dLe dLt fa fb fc) :=
  pd_chI op_le op_lt (fun i j d h => by cases h; rfl) (fun i j d h => by cases h; rfl) ha hb hc hm
theorem pd_ch_le_le (ha : PD X a fa) (hb : PD X b fb) (hc : PD X c fc) (hm : lastMarks [.LtE, .LtE] [b, c] = false := by with_unfolding_all rfl) : PD X (.Compare a [.LtE, .LtE] [b, c] pos) (eCh dLe dLe fa fb fc) :=
  pd_chI op_le op_le (fun i j d h => by cases h; rfl) (fun i j d h => by cases h; rfl) ha hb hc hm
noncomputable def dIs : D → D → Option D
  | .bl x, .bl y => some (.bl (x == y))
  | _, _ => none
noncomputable def dIsNot : D → D → Option D
  | .bl x, .bl y => some (.bl (!(x == y)))
  | _, _ => none
theorem op_isB : OpR X (compareOp .Is) (fun x y H Q => ∃ i j, x = .bl i ∧ y = .bl j ∧ Q (.bl (i == j)) H) := by
  intro pins s σ H x y v u Q I rx ry h
  obtain ⟨i, j, rfl, rfl, q⟩ := h
  cases rx
  cases ry
  cases i <;> cases j
  · exact wpAny_pure ⟨.bl true, H, I, rfl, q⟩
  · exact wpAny_pure ⟨.bl false, H, I, rfl, q⟩
  · exact wpAny_pure ⟨.bl false, H, I, rfl, q⟩
  · exact wpAny_pure ⟨.bl true, H, I, rfl, q⟩
theorem op_isNotB : OpR X (compareOp .IsNot) (fun x y H Q => ∃ i j, x = .bl i ∧ y = .bl j ∧ Q (.bl (!(i == j))) H) := by
  intro pins s σ H x y v u Q I rx ry h
  obtain ⟨i, j, rfl, rfl, q⟩ := h
  cases rx
  cases ry
  cases i <;> cases j
  · exact wpAny_pure ⟨.bl false, H, I, rfl, q⟩
  · exact wpAny_pure ⟨.bl true, H, I, rfl, q⟩
  · exact wpAny_pure ⟨.bl true, H, I, rfl, q⟩
  · exact wpAny_pure ⟨.bl false, H, I, rfl, q⟩
theorem hIs {K : PySem.W.Frag} : ∀ σ H Q, tD K (e2 dIs fa fb) σ H Q → tOp (fun x y H Q => ∃ i j, x = .bl i ∧ y = .bl j ∧ Q (.bl (i == j)) H) (tD K fa) (tD K fb) σ H Q := tOp_of fun x y d h => by
  unfold dIs at h
  split at h
  · cases h
    exact ⟨_, rfl, fun H w o o' q q' u u' F F' r1 r2 _ Q hq => by cases r1; cases r2; exact ⟨_, _, rfl, rfl, hq⟩⟩
  · cases h
theorem hIsNot {K : PySem.W.Frag} : ∀ σ H Q, tD K (e2 dIsNot fa fb) σ H Q → tOp (fun x y H Q => ∃ i j, x = .bl i ∧ y = .bl j ∧ Q (.bl (!(i == j))) H) (tD K fa) (tD K fb) σ H Q := tOp_of fun x y d h => by
  unfold dIsNot at h
  split at h
  · cases h
    exact ⟨_, rfl, fun H w o o' q q' u u' F F' r1 r2 _ Q hq => by cases r1; cases r2; exact ⟨_, _, rfl, rfl, hq⟩⟩
  · cases h
theorem pd_is (ha : PD X a fa) (hb : PD X b fb) : PD X (.Compare a [.Is] [b] pos) (e2 dIs fa fb) := pd_cmp op_isB hIs ha hb (nomark _)
theorem pdt_isnot (ha : PD X a fa) (hb : PD X b fb) : PDT X (.Compare a [.IsNot] [b] pos) (tOfB (e2 dIsNot fa fb)) := pdt_cmp op_isNotB hIsNot ha hb (nomark _)
@[simp] noncomputable def eNeg (fa : Den) : Den := fun ρ => match fa ρ with
  | some (.int i, _, ρ1) => some (.int (-i), 9, ρ1)
  | _ => none
theorem pd_neg (ha : PD X a fa) : PD X (.UnaryOp .USub a pos) (eNeg fa) := PE.imp (pe_un un_neg ha) fun σ H Q hh0 => by
  obtain ⟨ρ, w, t, r', q, ρ', gd, ee, k⟩ := hh0
  unfold eNeg at ee
  split at ee
  · rename_i i q1 ρ1 h1
    cases ee
    refine ⟨ρ, w, t, _, _, _, gd, h1, fun v H1 w1 F1 g1 go1 r1 => ?_⟩
    exact ⟨i, intOf r1, k _ H1 (dropT t w1) [] g1.drop.up (go1.drop gd.wt) (.int _)⟩
  · cases ee
section
variable {prog : Program} {w : World} {A : Around} {E : Value → Shared → Prop} {s : Shared}
theorem tup_add0 (l b : Addr) (us vs : Array Value) (n m : Nat) (d1 d2 : Option Addr) (s1 s2 : Array (Option Value)) (h0 : us.isEmpty = true) :
    Meets (Builtin.«tuple.__add__» ⟨[.ref l, .ref b], []⟩) (fun _ R s => s.heap.get? l = some { cls := .type "tuple", dict := d1, data := .seq us n, slots := s1 } ∧ s.heap.get? b = some { cls := .type "tuple", dict := d2, data := .seq vs m, slots := s2 } ∧ R (.ok (.ret (.ref b))) s) :=
  .of_wp fun prog w A R s h => by
    obtain ⟨hp, g, d, tk, os⟩ := s
    obtain ⟨hl, hb, h⟩ := h
    have f2 := AutoSeq1.sub_tuple_tuple
    wp_walk using wpAny_loadPart' hl, wpAny_loadPart' hb
    exact ⟨_, rfl, h⟩
theorem cat_empty {t b : Addr} {ws : List Value} {Q : Value → Shared → Prop} (ht : IsTup s.heap t #[]) (hb : IsTup s.heap b ws.toArray) (h : Q (.ref b) s) : wpAny (model prog w) A (binaryOp .Add (.ref t) (.ref b)) Q E s := by
  obtain ⟨⟨c1, d1, a1, s1⟩, e1, hc1, n1, ha1⟩ := id ht
  obtain ⟨⟨c2, d2, a2, s2⟩, e2, hc2, n2, ha2⟩ := id hb
  simp only at hc1 ha1 hc2 ha2
  subst hc1 ha1 hc2 ha2
  exact concat_meets ⟨_, e1, rfl⟩ ⟨_, e2, rfl⟩ noFill_tuple_add seq_tuple_add PySem.F.slot_tuple_add PySem.F.entry_tuple_add (PySem.F.args_tuple_add_2 _ _) (tup_add0 t b #[] ws.toArray n1 n2 d1 d2 s1 s2 rfl) ⟨e1, e2, h⟩
end
theorem op_cat0 : OpR X (binaryOp .Add) (fun x y H Q => ∃ a b ys, x = .ref a ∧ y = .ref b ∧ SqT X.K H a [] ∧ SqT X.K H b ys ∧ Q (.ref b) H) := by
  intro pins s σ H x y v u Q I rx ry h
  obtain ⟨a, b, ys, rfl, rfl, ha, hb, q⟩ := h
  cases rx
  cases ry
  obtain ⟨its, r1, p1, _⟩ := I.tuple ha
  obtain ⟨its2, r2, p2, _⟩ := I.tuple hb
  cases r1
  exact cat_empty p1 p2 ⟨.ref b, H, I, rfl, q⟩
theorem OpR.or {f : Value → Value → Sem Value} {r r' : R2} (h : OpR X f r) (h' : OpR X f r') : OpR X f (fun x y H Q => r x y H Q ∨ r' x y H Q) := fun pins s σ H x y v u Q I rx ry q => q.elim (fun z => h pins s σ H x y v u Q I rx ry z) fun z => h' pins s σ H x y v u Q I rx ry z
@[simp] noncomputable def eCat (fa fb : Den) : Den := fun ρ => match fa ρ with
  | some (.tup ds, _, ρ1) => match fb ρ1 with
    | some (.tup es, _, ρ2) => if ds.length + es.length ≤ 1000 then some (.tup (ds ++ es), 9, ρ2) else none
    | _ => none
  | _ => none
theorem pd_cat (ha : PD X a fa) (hb : PD X b fb) : PD X (.BinOp a .Add b pos) (eCat fa fb) := PE.imp (pe_op (OpR.or op_cat0 op_catT) ha hb) fun σ H Q hh0 => by
  obtain ⟨ρ, w, t, r', q, ρ', gd, ee, k⟩ := hh0
  unfold eCat at ee
  split at ee
  · rename_i ds q1 ρ1 h1
    split at ee
    · rename_i es q2 ρ2 h2
      split at ee
      · rename_i hl
        cases ee
        refine seq2 gd h1 h2 fun u u' H2 w2 F1 F2 g2 go r1 r2 => ?_
        have r10 := r1.drop (o := .f) (Nat.le_refl t)
        have r20 := r2.drop (o := .f) (Nat.le_succ t)
        have gg := g2.drop (t' := t)
        have gog := go.drop gd.wt
        obtain ⟨p1, vs, rfl, q1', s1⟩ := r10.seqT
        obtain ⟨p2, us, rfl, q2', s2⟩ := r20.seqT
        have l1 := s1.length
        have l2 := s2.length
        cases ds with
        | nil =>
          have : vs = [] := List.length_eq_zero_iff.mp (by rw [← l1]; rfl)
          subst this
          refine .inl ⟨p1, p2, us, rfl, rfl, q1', q2', k _ H2 (dropT t w2) [] gg.up gog ?_⟩
          exact (Rep.go gg.wl (fun a x e n => ⟨sm e, n⟩) r20 (fun _ z => nomatch z) : Rep X.K H2 (dropT t w2) (.t t) 0 _ _ []).nolist rfl |>.2 9
        | cons d ds =>
          refine .inr ⟨p1, p2, vs, us, rfl, rfl, q1', q2', (fun z => by rw [z] at l1; cases l1), le1000 (by rw [← l1, ← l2]; exact hl), fun z => ?_, fun _ p hp => ?_⟩
          · have : es = [] := List.length_eq_zero_iff.mp (by rw [l2, z]; rfl)
            subst this
            rw [List.append_nil] at k
            exact k _ H2 (dropT t w2) [] gg.up gog ((Rep.go gg.wl (fun a x e n => ⟨sm e, n⟩) r10 (fun _ z => nomatch z) : Rep X.K H2 (dropT t w2) (.t t) 0 _ _ []).nolist rfl |>.2 9)
          · obtain ⟨a1, a2, a3⟩ := allocT gg hp (s2.app s1)
            exact k _ _ _ _ a1 (gog.trans a2) a3
      · cases ee
    · cases ee
  · cases ee
noncomputable abbrev DenO := Rho → Option (Option Int × Rho)
noncomputable def tDO (K : PySem.W.Frag) (f : DenO) : TO := fun σ H Q => ∃ ρ w t o ρ', Good K ρ σ H w t ∧ f ρ = some (o, ρ') ∧ ∀ H' w', Good K ρ' σ H' w' t → Go H w H' w' → Q o H'
noncomputable abbrev PDO (X : Cx) (e : Option Expr) (f : DenO) : Prop := PO X e (tDO X.K f)
@[simp] noncomputable def oNone : DenO := fun ρ => some (none, ρ)
@[simp] noncomputable def oSome (f : Den) : DenO := fun ρ => match f ρ with
  | some (.int i, _, ρ1) => some (some i, ρ1)
  | _ => none
theorem PO.imp {e : Option Expr} {t t' : TO} (h : PO X e t) (i : ∀ σ H Q, t' σ H Q → t σ H Q) : PO X e t' := fun pins s σ H Q I q => h pins s σ H Q I (i σ H Q q)
theorem pdo_none : PDO X none oNone := PO.imp po_none fun σ H Q hh0 => by
  obtain ⟨ρ, w, t, o, ρ', gd, ee, k⟩ := hh0
  cases ee
  exact k H w gd Go.refl
theorem pdo_some (h : PD X e f) : PDO X (some e) (oSome f) := PO.imp (po_some h) fun σ H Q hh0 => by
  obtain ⟨ρ, w, t, o, ρ', gd, ee, k⟩ := hh0
  unfold oSome at ee
  split at ee
  · rename_i i q1 ρ1 h1
    cases ee
    exact ⟨ρ, w, t, _, _, _, gd, h1, fun v H1 w1 F1 g1 go1 r1 => ⟨i, intOf r1, k H1 (dropT t w1) g1.drop (go1.drop gd.wt)⟩⟩
  · cases ee
section
variable {prog : Program} {w : World} {A : Around} {E : Value → Shared → Prop} {s : Shared}
theorem item_whole {t sl : Addr} {us : Array Value} {vl vu : Value} {lo hi : Option Int} {Q : Value → Shared → Prop} (ht : IsTup s.heap t us) (hs : s.heap.IsSliceOf sl vl vu .none) (pl : IsPart vl lo) (pu : IsPart vu hi)
    (hw : HT.sIx us.size 0 lo = 0 ∧ HT.sIx us.size us.size hi = us.size) (h : Q (.ref t) s) : wpAny (model prog w) A (getItem (.ref t) (.ref sl)) Q E s := by
  obtain ⟨os, hos, hcs, hds⟩ := id hs
  have ts : s.TypeIs (.ref sl) "slice" := ⟨os, hos, hcs⟩
  unfold getItem
  try with_reducible refine wpAny_holding ?_
  first | refine wpAny_bind (wpAny_pure ?_) | skip
  refine wpAny_bind (wpAny_sequenceKey ht.typeIs (by decide) (wpAny_bind (wpAny_callSpecial?_slot (name := Str.ofString "__getitem__") ht.typeIs PyProof.Rows.slot_tuple_getitem (wpAny_call_entry PyProof.Rows.slot_tuple_getitem ht.typeIs entry_tuple_getitem ?_ (args_tuple_getitem _ _)))))
  show wpAny _ _ (Builtin.Tuple.tupleItemsOf (.ref t) >>= _) _ _ s
  refine wpAny_bind (tupleItemsOf_ ht (wpAny_bind (wpAny_typeOf ts ?_)))
  rw [if_pos (by decide)]
  refine wpAny_bind (HT.sliceApplied_gen hs pl pu ?_)
  have yes : (((HT.sIx us.size 0 lo : Nat) : Int) == 0 && (1 : Int) == 1 && (HT.sIx us.size us.size hi - HT.sIx us.size 0 lo) == us.size) = true := by rw [hw.1, hw.2]; simp
  show wpAny _ _ (if (((HT.sIx us.size 0 lo : Nat) : Int) == 0 && (1 : Int) == 1 && (HT.sIx us.size us.size hi - HT.sIx us.size 0 lo) == us.size) = true then _ else _) _ _ s
  rw [if_pos yes]
  refine wpAny_bind (m := Builtin.Tuple.tupleIsExact _) ?_
  unfold Builtin.Tuple.tupleIsExact
  refine wpAny_bind (wpAny_typeOf ht.typeIs (wpAny_pure ?_))
  rw [if_pos (by decide)]
  exact wpAny_bind (wpAny_rule (wpAny_pure ⟨_, rfl, wpAny_pure h⟩))
end
noncomputable def cutD (xs : List D) (lo hi : Option Int) : List D := (xs.drop (HT.sIx xs.length 0 lo)).take (HT.sIx xs.length xs.length hi - HT.sIx xs.length 0 lo)
@[simp] noncomputable def eSl (fa : Den) (fl fh : DenO) : Den := fun ρ => match fa ρ with
  | some (.tup ds, _, ρ1) => match fl ρ1 with
    | some (lo, ρ2) => match fh ρ2 with
      | some (hi, ρ3) => some (.tup (cutD ds lo hi), 9, ρ3)
      | none => none
    | none => none
  | _ => none
theorem Reps.take0 {K : PySem.W.Frag} {H : Hp} {w : Wn} : ∀ {ds : List D} {vs : List V} (i : Nat), Reps K H w .f 0 ds vs [] → Reps K H w .f 0 (ds.take i) (vs.take i) []
  | _, _, 0, _ => by rw [List.take_zero, List.take_zero]; exact .nil
  | ds, vs, i + 1, r => by
    generalize hF : ([] : List Addr) = F at r
    cases r with
    | nil => exact .nil
    | cons r s _ =>
      have h2 := s.zero
      have h1 := r.zero
      subst h2
      subst h1
      exact .cons (F := []) (G := []) r (Reps.take0 i s) (fun _ z => nomatch z)
theorem sl_whole : SlR X (fun x lo hi H Q => ∃ a xs, x = .ref a ∧ SqT X.K H a xs ∧ (HT.sIx xs.length 0 lo = 0 ∧ HT.sIx xs.length xs.length hi = xs.length) ∧ Q (.ref a) H) := by
  intro pins s σ H x v vl vu lo hi sl Q I rx hs pl pu h
  obtain ⟨a, xs, rfl, hx, hw, q⟩ := h
  cases rx
  obtain ⟨its, r, ht, hz⟩ := I.tuple hx
  have hlen : its.toArray.size = xs.length := by rw [List.size_toArray]; exact r.length.symm
  exact ⟨"tuple", _, PyProof.Rows.slot_tuple_getitem.lookup, ht.typeIs, item_whole ht hs pl pu (by rw [hlen]; exact hw) ⟨.ref a, H, I, rfl, q⟩⟩
theorem pd_sl {lo hi : Option Expr} {fl fh : DenO} (ha : PD X a fa) (hl : PDO X lo fl) (hh : PDO X hi fh) : PD X (.Subscript a (.Slice lo hi none p2) pos) (eSl fa fl fh) := PE.imp (pe_slice (sl_whole.or sl_tup) ha hl hh) fun σ H Q hh0 => by
  obtain ⟨ρ, w, t, r', q, ρ', gd, ee, k⟩ := hh0
  unfold eSl at ee
  split at ee
  · rename_i ds q1 ρ1 h1
    split at ee
    · rename_i lo ρ2 h2
      split at ee
      · rename_i hi ρ3 h3
        cases ee
        refine ⟨ρ, w, t, _, _, _, gd, h1, fun v H1 w1 F1 g1 go1 r1 => ?_⟩
        have gg1 := g1.drop (t' := t)
        have r0 := r1.drop (o := .f) (Nat.le_refl t)
        refine ⟨ρ1, dropT t w1, t, _, _, gg1, h2, fun H2 w2 g2 go2 => ⟨ρ2, w2, t, _, _, g2, h3, fun H3 w3 g3 go3 => ?_⟩⟩
        have r3 := (r0.go0 gg1.wl go2.stab).go0 g2.wl go3.stab
        obtain ⟨p1, vs, rfl, q1', s1⟩ := r3.seqT
        have l1 := s1.length
        by_cases hw : HT.sIx ds.length 0 lo = 0 ∧ HT.sIx ds.length ds.length hi = ds.length
        · have ec : cutD ds lo hi = ds := by unfold cutD; rw [hw.1, hw.2, List.drop_zero, Nat.sub_zero, List.take_length]
          rw [ec] at k
          refine .inl ⟨p1, vs, rfl, q1', by rw [← l1]; exact hw, ?_⟩
          exact k _ H3 w3 [] g3.up (((go1.drop gd.wt).trans go2).trans go3) ((Rep.go g3.wl (fun a x e n => ⟨sm e, n⟩) r3 (fun _ z => nomatch z) : Rep X.K H3 w3 (.t t) 0 _ _ []).nolist rfl |>.2 9)
        · refine .inr ⟨p1, vs, rfl, q1', by rw [← l1]; exact hw, fun p hp => ?_⟩
          have s4 : Reps X.K H3 w3 .f 0 (cutD ds lo hi) (cutV vs lo hi) [] := by
            unfold cutD cutV
            rw [← l1]
            exact (s1.drop0 _).take0 _
          obtain ⟨a1, a2, a3⟩ := allocT g3 hp s4
          exact k _ _ _ _ a1 ((((go1.drop gd.wt).trans go2).trans go3).trans a2) a3
      · cases ee
    · cases ee
  · cases ee
end
end L3
set_option Elab.async false
set_option linter.all false
set_option maxRecDepth 100000
namespace L3
open PySem PySem.Spec PyProof.Rows L2
section
variable {X : Cx} {k b n : Nat} {a c e tg : Expr} {es : List Expr} {pt : DenP} {ps : DenPs} {pos : Pos} {fa fb f : Den}
theorem ps_len3 {p q r : DenP} : ∀ ds ρ ρ', psCons p (psCons q (psCons r psNil)) ds ρ = some ρ' → ds.length = 3 := fun ds ρ ρ' h => by
  match ds with
  | [] => cases h
  | [_] => unfold psCons at h; simp at h; split at h <;> cases h
  | [_, _] => unfold psCons at h; simp at h; split at h; (split at h <;> cases h); cases h
  | [_, _, _] => rfl
  | _ :: _ :: _ :: _ :: _ =>
    exfalso
    unfold psCons at h
    simp at h
    split at h
    · split at h
      · split at h <;> cases h
      · cases h
    · cases h
@[simp] noncomputable def sAsg (f : Den) (pt : DenP) : DenS := fun ρ => match f ρ with
  | some (d, _, ρ1) => match pt d ρ1 with
    | some ρ2 => some (.nx ρ2)
    | none => none
  | none => none
theorem pds_asg (he : PD X e f) (hg : PDG X 0 tg pt) (hs : swapsWithSole [tg] e pos.line X.env = pure false := by rfl) (hw : swappedStores [tg] e X.env = pure none := by rfl) (h1 : (assignEach [tg] X.env).map (·.2) = [assign tg X.env] := by rfl) : PDS X (.Assign [tg] e pos) (sAsg f pt) := PS.imp (ps_asg he hg hs hw h1) fun D σ H hh0 => by
  obtain ⟨ρ, w, o, g, ee, k⟩ := hh0
  unfold sAsg at ee
  split at ee
  · rename_i d q ρ1 h1
    split at ee
    · rename_i ρ2 h2
      cases ee
      refine ⟨ρ, w, 0, d, q, ρ1, g, h1, fun v H1 w1 F1 g1 go1 r1 => ?_⟩
      exact ⟨d, ρ1, dropT 0 w1, 0, ρ2, g1.drop, r1.drop (Nat.le_refl 0), h2, fun σ' H' w' hl _ g' go' => k σ' H' w' hl g' ((go1.drop g.wt).trans go')⟩
    · cases ee
  · cases ee
end
theorem noFill_tup : fillsNumberSlot (.type "tuple") "mul" = pure false := PySem.fillsNumberSlot_seq (id := "tuple.__mul__") (r := some (.builtin "tuple.__rmul__")) F.slot_tuple_mul.lookup (by decide +kernel) F.slot_tuple_rmul.lookup (by decide +kernel)
theorem repeat_tup : seqRepeat? (.type "tuple") = pure (some (.builtin "tuple.__mul__")) := by
  unfold seqRepeat?
  rw [PySem.seqSlot_of (T := "tuple") (name := "__mul__") (id := "tuple.__mul__") F.slot_tuple_mul.lookup (by decide +kernel), PySem.seqSlot_of (T := "tuple") (name := "__rmul__") (id := "tuple.__rmul__") F.slot_tuple_rmul.lookup (by decide +kernel)]; rfl
theorem int_rmul_tup (a : Int) (t : Tok) (l : Addr) (us : Array Value) (n : Nat) (dd : Option Addr) (sl : Array (Option Value)) :
    Meets (Builtin.«int.__rmul__» ⟨[.int a t, .ref l], []⟩) (fun _ R s => s.heap.get? l = some { cls := .type "tuple", dict := dd, data := .seq us n, slots := sl } ∧ R (.ok (.ret Value.notImplemented)) s) := .of_wp fun prog w A R s h => by
  obtain ⟨hp, g, d, tk, os⟩ := s
  obtain ⟨hl, h⟩ := h
  wp_walk
  exact ⟨_, rfl, h⟩
theorem tup_mul1 (t : Tok) (l : Addr) (us : Array Value) (n : Nat) (dd : Option Addr) (sl : Array (Option Value)) :
    Meets (Builtin.«tuple.__mul__» ⟨[.ref l, .int 1 t], []⟩) (fun _ R s => s.heap.get? l = some { cls := .type "tuple", dict := dd, data := .seq us n, slots := sl } ∧ R (.ok (.ret (.ref l))) s) := .of_wp fun prog w A R s h => by
  obtain ⟨hp, g, d, tk, os⟩ := s
  obtain ⟨hl, h⟩ := h
  have f1 := AutoSeq1.idx_int
  wp_walk using wpAny_loadPart' hl
  exact ⟨_, rfl, h⟩
theorem tup_mulN (k : Int) (t : Tok) (l : Addr) (us : Array Value) (n : Nat) (dd : Option Addr) (sl : Array (Option Value)) (h2 : ¬ (decide (k < -(2 ^ 63)) || decide (k ≥ 2 ^ 63)) = true) (h3 : ¬ (us.isEmpty || k == 1) = true) (h4 : ¬ (decide (k ≤ 0) || us.isEmpty) = true) (h5 : ¬ (us.size : Int) * k > (2 ^ 63 - 1) / 8) (h6 : ¬ Builtin.Tuple.tupleTooMany ((us.size : Int) * k) = true) (hsz : (List.foldl (· ++ ·) #[] (List.replicate k.toNat us)).size ≤ sizeLine) :
    Meets (Builtin.«tuple.__mul__» ⟨[.ref l, .int k t], []⟩) (fun _ R s => s.heap.get? l = some { cls := .type "tuple", dict := dd, data := .seq us n, slots := sl } ∧ R (.ok (.ret (.ref s.heap.objs.size))) { s with heap := s.heap.push { cls := .type "tuple", data := .seq (List.foldl (· ++ ·) #[] (List.replicate k.toNat us)) } }) := .of_wp fun prog w A R s h => by
  obtain ⟨hp, g, d, tk, os⟩ := s
  obtain ⟨hl, h⟩ := h
  have f1 := AutoSeq1.idx_int
  wp_walk using wpAny_loadPart' hl
  rw [if_neg h2]
  wp_walk using wpAny_loadPart' hl
  rw [if_neg h5]
  wp_walk using wpAny_loadPart' hl
  exact ⟨_, rfl, h⟩
section
variable {X : Cx} {a b c e : Expr} {fa fb fc f : Den} {pos : Pos}
theorem op_repT : OpR X (binaryOp .Mult) (fun x y H Q => ∃ a k xs, x = .ref a ∧ y = .int k ∧ SqT X.K H a xs ∧ xs ≠ [] ∧ 1 ≤ k ∧ xs.length * k.toNat ≤ 1000 ∧ (k = 1 → Q (.ref a) H) ∧ (k ≠ 1 → ∀ p, H p = none → Q (.ref p) (upd H p (.tup (List.replicate k.toNat xs).flatten)))) := by
  intro pins s σ H x y v u Q I rx ry h
  obtain ⟨l, k, xs, rfl, rfl, hq, hne, h1, hz, q1, q2⟩ := h
  cases rx
  obtain ⟨t, rfl⟩ := ry
  obtain ⟨its, r, pt, _⟩ := I.tuple hq
  obtain ⟨⟨c1, d1, a1, s1⟩, e, hc1, n1, ha1⟩ := id pt
  simp only at hc1 ha1
  subst hc1 ha1
  have hl := r.length
  have hpos : 0 < its.length := by rw [← hl]; exact List.length_pos_iff.mpr hne
  refine wpAny_binaryOp_repeat_ref (T := "tuple") (U := "int") (by decide) ⟨_, e, rfl⟩ (fun s' => typeIs_int s' k t) noFill_tup F.fills_int_mul F.slot_int_rmul repeat_tup F.slot_int_index.lookup
    (call_meets F.slot_int_rmul (typeIs_int s k t) F.entry_int_rmul (F.args_int_rmul_2 _ _) (int_rmul_tup k t l its.toArray n1 d1 s1) ⟨e, rfl, ⟨_, e, rfl⟩, ?_⟩)
  by_cases hk : k = 1
  · subst hk
    exact call_meets F.slot_tuple_mul ⟨_, e, rfl⟩ F.entry_tuple_mul (F.args_tuple_mul_2 _ _) (tup_mul1 t l its.toArray n1 d1 s1) ⟨e, ⟨.ref l, H, I, rfl, q1 rfl⟩⟩
  · have hm : its.length * k.toNat ≤ 1000 := by rw [← hl]; exact hz
    have hk' : k.toNat ≤ 1000 := by
      have := Nat.le_mul_of_pos_left k.toNat hpos
      omega
    have f0 : List.foldl (fun x1 x2 => x1 ++ x2) #[] (List.replicate k.toNat its.toArray) = (List.replicate k.toNat its).flatten.toArray := by
      have := foldl_rep its k.toNat []
      rw [List.nil_append] at this
      exact this
    have lf : (List.replicate k.toNat its).flatten.length ≤ 1000 := by rw [len_rep, Nat.mul_comm]; exact hm
    have em : ((its.toArray.size : Nat) : Int) * k = ((its.length * k.toNat : Nat) : Int) := by
      rw [List.size_toArray, Int.natCast_mul, Int.toNat_of_nonneg (by omega)]
    refine call_meets F.slot_tuple_mul ⟨_, e, rfl⟩ F.entry_tuple_mul (F.args_tuple_mul_2 _ _) (tup_mulN k t l its.toArray n1 d1 s1 (by simp; omega) (by simp [hk]; exact List.ne_nil_of_length_pos hpos) (by simp; exact ⟨by omega, List.ne_nil_of_length_pos hpos⟩) (by rw [em]; omega) (by
      unfold Builtin.Tuple.tupleTooMany
      rw [em]
      simp only [gt_iff_lt, decide_eq_true_eq, Int.not_lt]
      have : (1000 : Nat) ≤ sizeLine := by decide
      omega) (by rw [f0, List.size_toArray]; exact le1000 lf)) ⟨e, ?_⟩
    rw [f0]
    refine ⟨.ref s.heap.objs.size, _, I.laid (t' := s.toks) (o := .tup (List.replicate k.toNat xs).flatten) (fun b ob q => Heap.get?_push_of_some _ q) (Nat.le_refl _) ?_, rfl, q2 hk _ (I.hok.fresh (Nat.le_refl _))⟩
    exact ⟨le1000 (by rw [len_rep, Nat.mul_comm]; exact hz), _, r.rep k.toNat, IsTupD.new _ _⟩
@[simp] noncomputable def eRepT (fa fb : Den) : Den := fun ρ => match fa ρ with
  | some (.tup ds, _, ρ1) => match fb ρ1 with
    | some (.int n, _, ρ2) => if ds.isEmpty = false ∧ 1 ≤ n ∧ ds.length * n.toNat ≤ 1000 then some (.tup (List.replicate n.toNat ds).flatten, 9, ρ2) else none
    | _ => none
  | _ => none
theorem pd_repT (ha : PD X a fa) (hb : PD X b fb) : PD X (.BinOp a .Mult b pos) (eRepT fa fb) := PE.imp (pe_op op_repT ha hb) fun σ H Q hh0 => by
  obtain ⟨ρ, w, t, r', q, ρ', gd, ee, k⟩ := hh0
  unfold eRepT at ee
  split at ee
  · rename_i ds q1 ρ1 h1
    split at ee
    · rename_i n q2 ρ2 h2
      split at ee
      · rename_i hl
        cases ee
        obtain ⟨hd, hn, hz⟩ := hl
        refine seq2 gd h1 h2 fun u u' H2 w2 F1 F2 g2 go r1 r2 => ?_
        have r10 := r1.drop (o := .f) (Nat.le_refl t)
        have gg := g2.drop (t' := t)
        have gog := go.drop gd.wt
        obtain ⟨p1, vs, rfl, q1', s1⟩ := r10.seqT
        have l1 := s1.length
        refine ⟨p1, n, vs, rfl, intOf r2, q1', fun z => ?_, hn, by rw [← l1]; exact hz, fun z => ?_, fun _ p hp => ?_⟩
        · subst z
          have : ds = [] := List.length_eq_zero_iff.mp l1
          subst this
          cases hd
        · subst z
          have e : (List.replicate (Int.toNat 1) ds).flatten = ds := by show (List.replicate 1 ds).flatten = ds; simp
          rw [e] at k
          exact k _ H2 (dropT t w2) [] gg.up gog ((Rep.go gg.wl (fun a x e n => ⟨sm e, n⟩) r10 (fun _ z => nomatch z) : Rep X.K H2 (dropT t w2) (.t t) 0 _ _ []).nolist rfl |>.2 9)
        · obtain ⟨a1, a2, a3⟩ := allocT gg hp (s1.times n.toNat)
          exact k _ _ _ _ a1 (gog.trans a2) a3
      · cases ee
    · cases ee
  · cases ee
end
end L3
set_option Elab.async false
set_option linter.all false
set_option maxRecDepth 100000
namespace L3
open PySem PySem.Spec PyProof.Rows L2
section
variable {X : Cx} {a b c e : Expr} {es : List Expr} {fa fb fc f : Den} {ga gb : DenT} {g : DenA} {pos p p1 p2 cpos apos : Pos}
theorem pd_glob {x : Str} {i : Int} (h : ∃ t, X.mg x = some (.int i t)) (hg : Gl X x := by rfl) (hd : (x == ("__debug__" : Str)) = false := by decide) : PD X (.Name x pos) (eC (.int i)) := by
  obtain ⟨t, h⟩ := h
  exact pd_const (pe_glob (v := .int i) hg h ⟨t, rfl⟩ hd) fun _ _ _ _ _ => .int i
theorem pdt_chI {op op' : CmpOp} {g1 g2 : Int → Int → Option D} {h1 h2 : Int → Int → V} (ho : OpR X (compareOp op) (rI0 h1)) (ho' : OpR X (compareOp op') (rI0 h2)) (e1 : ∀ i j d, g1 i j = some d → scalV d = some (h1 i j)) (e2' : ∀ i j d, g2 i j = some d → scalV d = some (h2 i j))
    (ha : PD X a fa) (hb : PD X b fb) (hc : PD X c fc) (hm : lastMarks [op, op'] [b, c] = false := by with_unfolding_all rfl) : PDT X (.Compare a [op, op'] [b, c] pos) (tOfB (eCh (gI g1) (gI g2) fa fb fc)) := PT.imp (pt_chain ho ho' ha hb hc hm) (tTest_of fun σ H Q hh0 => by
  obtain ⟨ρ, w, t, r', q, ρ', gd, ee, k⟩ := hh0
  unfold eCh at ee
  split at ee
  · rename_i x q1 ρ1 a1
    split at ee
    · rename_i y q2 ρ2 a2
      refine seq2 gd a1 a2 fun u v H2 w2 F1 F2 g2' go2 r1 r2 => ?_
      have gg := g2'.drop (t' := t)
      split at ee
      · rename_i hg
        obtain ⟨i, j, rfl, rfl, hg'⟩ := gI_some hg
        refine ⟨i, j, intOf r1, intOf r2, true, by have := e1 i j _ hg'; simpa [scalV] using this.symm, ?_⟩
        rw [if_pos rfl]
        split at ee
        · rename_i z q3 ρ3 a3
          refine ⟨ρ2, dropT t w2, t, z, q3, ρ3, gg, a3, fun v3 H3 w3 F3 g3 go3 r3 => ?_⟩
          split at ee
          · rename_i d hd
            cases ee
            obtain ⟨j', l, ej, rfl, hd'⟩ := gI_some hd
            cases ej
            exact ⟨j, l, intOf r2, intOf r3, fin0 k gd g3 ((go2.drop gd.wt).trans go3) (scal_rep (e2' j l _ hd'))⟩
          · cases ee
        · cases ee
      · rename_i hg
        obtain ⟨i, j, rfl, rfl, hg'⟩ := gI_some hg
        cases ee
        refine ⟨i, j, intOf r1, intOf r2, false, by have := e1 i j _ hg'; simpa [scalV] using this.symm, ?_⟩
        rw [if_neg (by decide)]
        exact fin0 k gd g2' go2 (.bl false)
      · cases ee
    · cases ee
  · cases ee)
theorem pdt_ch_le_le (ha : PD X a fa) (hb : PD X b fb) (hc : PD X c fc) (hm : lastMarks [.LtE, .LtE] [b, c] = false := by with_unfolding_all rfl) : PDT X (.Compare a [.LtE, .LtE] [b, c] pos) (tOfB (eCh dLe dLe fa fb fc)) :=
  pdt_chI op_le op_le (fun i j d h => by cases h; rfl) (fun i j d h => by cases h; rfl) ha hb hc hm
@[simp] noncomputable def eExt (i : Nat) (f : Den) : Den := fun ρ => if isLst ρ[i]? = true then match f ρ with
  | some (.lst es, 1, ρ1) => match ρ1[i]? with
    | some (some (.lst ds, 1)) => if ds.length + es.length ≤ 1000 then some (.non, 9, ρ1.set i (some (.lst (ds ++ es), 1))) else none
    | _ => none
  | _ => none
  else none
theorem pd_extend {i : Nat} {x : Str} (h : PE X (.Name x p1) (tVar i)) (ha : PD X e f)
    (hbase : attributeBase (.Name x p1) "extend" X.env (eval (.Name x p1) X.env) = eval (.Name x p1) X.env := by rfl)
    (hfew : ((backTo cpos (starEach [e] X.env)).all (fun x => !x.1) && (backToKw cpos (keywordEach [] X.env)).all (fun x => x.1.isSome)
      && decide ([e].length + ([] : List Keyword).length + (if ([] : List Keyword).isEmpty then 0 else 1) < 30)) = true := by rfl)
    (hline : (apos.endLine == cpos.line) = true := by rfl) (hs : starEach [e] X.env = (false, eval e X.env) :: starEach [] X.env := by rfl) (hplain : (backTo cpos (starEach [] X.env)).any (·.1) = false := by rfl) :
    PD X (.Call (.Attribute (.Name x p1) "extend" apos) [e] [] cpos) (eExt i f) :=
  PE.imp (pe_bm PySem.F.plainAttrs_list PySem.F.slot_list_extend PySem.F.type_list_extend mt_extend h (pa_cons ha pa_nil hs) hbase hfew hline hs hplain) fun σ H Q hh0 => by
  obtain ⟨ρ, w, t, r', q, ρ', gd, ee, k⟩ := hh0
  unfold eExt at ee
  split at ee
  · rename_i hl
    obtain ⟨l, hσ, us, hq⟩ := gd.isL hl
    split at ee
    · rename_i es' ρ1 h1
      split at ee
      · rename_i ds e1
        split at ee
        · rename_i hlen
          cases ee
          refine ⟨_, hσ, .inl ⟨rfl, us, hq⟩, ρ, w, t, _, _, _, gd, h1, fun v H1 w1 F1 g1 go1 r1 => ?_⟩
          obtain ⟨l', ws, hσ', hH, rs, mk⟩ := g1.mut e1
          rw [hσ] at hσ'
          cases hσ'
          cases r1 with
          | own hb _ rz _ =>
            have z0 := rz.zero
            subst z0
            have rz' : Reps X.K H1 w1 .f 0 es' _ [] := rz.any g1.wl
            obtain ⟨m1, m2⟩ := mk _ _ (rz'.app rs)
            refine ⟨l, _, ws, _, rfl, rfl, hH, hb, le1000 (by rw [← rs.length, ← rz'.length]; exact hlen), ?_⟩
            exact k .non _ w1 [] m1 (go1.trans m2) .non
        · cases ee
      · cases ee
    · cases ee
  · cases ee
end
end L3
set_option Elab.async false
set_option linter.all false
set_option maxRecDepth 100000
namespace L3
open PySem PySem.Spec PyProof.Rows L2
section
variable {X : Cx} {a b c e : Expr} {es : List Expr} {fa fb fc f : Den} {ga gb gc : DenT} {g : DenA} {qa qb : DenQ} {s : DenS} {pos p p1 p2 cpos apos : Pos}
@[simp] noncomputable def sNever : DenS := fun _ => none
theorem pds_never {st : Stmt} : PDS X st sNever := PS.imp ps_never fun D σ H hh0 => by obtain ⟨ρ, w, o, g, ee, k⟩ := hh0; cases ee
@[simp] noncomputable def sSet1 (n : Nat) (qi : DenQ) (fe : Den) : DenS := fun ρ => match fe ρ with
  | some (d, _, ρ1) => match qi ρ1, ρ1[n]? with
    | some i, some (some (.lst ds, 1)) => match ixN ds.length i with
      | some m => some (.nx (ρ1.set n (some (.lst (ds.set m d), 1))))
      | none => none
    | _, _ => none
  | none => none
noncomputable def rCatL (K : PySem.W.Frag) : R2 := fun x y H Q => ∃ l b xs zs, x = .ref l ∧ y = .ref b ∧ SqL K H l xs ∧ SqL K H b zs ∧ xs.length + zs.length ≤ sizeLine ∧ ∀ p, H p = none → Q (.ref p) (upd H p (.lst (xs ++ zs)))
theorem op_catL : OpR X (binaryOp .Add) (rCatL X.K) := by
  intro pins s σ H x y v u Q I rx ry h
  obtain ⟨l, b, xs, zs, rfl, rfl, hH, hB, hz, q⟩ := h
  cases rx
  cases ry
  obtain ⟨its, r, pl, z⟩ := I.list hH
  obtain ⟨its2, r2, pl2, z2⟩ := I.list hB
  obtain ⟨⟨cls, dd, data, sl⟩, n, ho, hc, _, hd⟩ := pl
  obtain ⟨⟨cls2, dd2, data2, sl2⟩, n2, ho2, hc2, _, hd2⟩ := pl2
  simp only at hc hd hc2 hd2
  subst hc hd hc2 hd2
  have l1 := r.length
  have l2 := r2.length
  refine concat_meets ⟨_, ho, rfl⟩ ⟨_, ho2, rfl⟩ noFill_list_add seq_list_add PySem.F.slot_list_add PySem.F.entry_list_add (PySem.F.args_list_add_2 _ _) (list_addW l b its.toArray its2.toArray n n2 dd dd2 sl sl2 (by rw [List.size_toArray, List.size_toArray, ← l1, ← l2]; exact hz)) ⟨ho, ho2, ?_⟩
  have e : its.toArray ++ its2.toArray = (its ++ its2).toArray := by simp
  rw [e]
  exact ⟨.ref _, _, I.lnew (t' := s.toks) (r.append r2) (by rw [List.length_append]; omega), rfl, q _ I.fresh⟩
@[simp] noncomputable def eCatL (fa fb : Den) : Den := fun ρ => match fa ρ with
  | some (.lst ds, _, ρ1) => match fb ρ1 with
    | some (.lst es, _, ρ2) => if ds.length + es.length ≤ 1000 then some (.lst (ds ++ es), 1, ρ2) else none
    | _ => none
  | _ => none
theorem pd_catL (ha : PD X a fa) (hb : PD X b fb) : PD X (.BinOp a .Add b pos) (eCatL fa fb) := PE.imp (pe_op op_catL ha hb) fun σ H Q hh0 => by
  obtain ⟨ρ, w, t, r', q, ρ', gd, ee, k⟩ := hh0
  unfold eCatL at ee
  split at ee
  · rename_i ds q1 ρ1 h1
    split at ee
    · rename_i es q2 ρ2 h2
      split at ee
      · rename_i hl
        cases ee
        refine seq2 gd h1 h2 fun u u' H2 w2 F1 F2 g2 go r1 r2 => ?_
        have r10 := r1.drop (o := .f) (Nat.le_refl t)
        have r20 := r2.drop (o := .f) (Nat.le_succ t)
        have gg := g2.drop (t' := t)
        have gog := go.drop gd.wt
        obtain ⟨p1, vs, rfl, q1', s1⟩ := r10.seqL0
        obtain ⟨p2, us, rfl, q2', s2⟩ := r20.seqL0
        refine ⟨p1, p2, vs, us, rfl, rfl, q1', q2', le1000 (by rw [← s1.length, ← s2.length]; exact hl), fun p hp => ?_⟩
        obtain ⟨a1, a2, a3⟩ := alloc gg hp (s2.app s1)
        exact k _ _ _ _ a1 (gog.trans a2) a3
      · cases ee
    · cases ee
  · cases ee
end
end L3
set_option Elab.async false
set_option linter.all false
set_option maxRecDepth 100000
namespace L3
open PySem PySem.Spec PyProof.Rows L2
section
variable {X : Cx} {a b c e : Expr} {es : List Expr} {fa fb fc f : Den} {ga gb gc : DenT} {g : DenA} {qa qb : DenQ} {s : DenS} {pos p p1 p2 p3 cpos apos : Pos}
@[simp] noncomputable def qC (i : Int) : DenQ := fun _ => some i
theorem pq_int {i : Int} {j : Nat} : PQ X (.Constant (.int i) j pos) (qC i) := PE.imp pe_int fun σ H Q hh0 => by
  obtain ⟨ρ, w, t, i, gd, ee, k⟩ := hh0
  cases ee
  exact k
@[simp] noncomputable def qLenIx (n : Nat) (c : Int) : DenQ := fun ρ => match ρ[n]? with
  | some (some (.tup es, _)) => match L2.atI es c with
    | some d => match lenD d with
      | some m => some (Int.ofNat m)
      | none => none
    | none => none
  | _ => none
theorem pq_lenIx {n j : Nat} {c : Int} {x : Str} (hm : X.mg "len" = none) (h : PE X (.Name x p1) (tVar n)) (hg : Gl X "len" := by rfl) (hs : PlainIx (.Constant (.int c) j p2) := by exact fun _ _ => rfl)
    (he : starEach [.Subscript (.Name x p1) (.Constant (.int c) j p2) p3] X.env = (false, eval (.Subscript (.Name x p1) (.Constant (.int c) j p2) p3) X.env) :: starEach [] X.env := by rfl) (hpl : (backTo pos (starEach [] X.env)).any (·.1) = false := by rfl) :
    PQ X (.Call (.Name "len" p) [.Subscript (.Name x p1) (.Constant (.int c) j p2) p3] [] pos) (qLenIx n c) :=
  PE.imp (pe_callB call_len_seq hg hm PySem.boot_len (pa_cons (pe_ix ix_seq h pe_int hs) pa_nil he) (by decide) (by decide) he hpl) fun σ H Q hh0 => by
  obtain ⟨ρ, w, t, i, gd, ee, k⟩ := hh0
  unfold qLenIx at ee
  split at ee
  · rename_i es q e0
    split at ee
    · rename_i d hd
      split at ee
      · rename_i m hm'
        cases ee
        obtain ⟨v, F, h1, h2⟩ := gd.slot n _ _ e0
        obtain ⟨p0, vs, rfl, hq, rs⟩ := h2.seqT
        obtain ⟨u, hu, ru⟩ := rs.atI hd
        obtain ⟨p', ys, rfl, hs', hl⟩ := ru.len hm'
        exact ⟨_, h1, .inr (.inl ⟨p0, vs, c, _, rfl, rfl, hq, hu, p', ys, rfl, hs', by rw [hl]; exact k⟩)⟩
      · cases ee
    · cases ee
  · cases ee
@[simp] noncomputable def eDic2 (k l : Str) (qa qb : DenQ) : Den := fun ρ => match qa ρ, qb ρ with
  | some i, some j => some (.dic [k, l] [.int i, .int j], 9, ρ)
  | _, _ => none
theorem allocD {K : PySem.W.Frag} {ρ : Rho} {σ : St} {t : Nat} {H1 : Hp} {p : Addr} {ks : List Str} {vs : List V} {ds : List D} {w1 : Wn} (g : Good K ρ σ H1 w1 t) (hp : H1 p = none) (r : Reps K H1 w1 .f 0 ds vs []) :
    Good K ρ σ (upd H1 p (.dK (kvL ks vs))) w1 (t + 1) ∧ Go H1 w1 (upd H1 p (.dK (kvL ks vs))) w1 ∧ Rep K (upd H1 p (.dK (kvL ks vs))) w1 (.t t) 9 (.dic ks ds) (.ref p) [] := by
  have ne : ∀ a x, H1 a = some x → a ≠ p := fun a x e => ne_of_none e hp
  have nw : ∀ a o, w1 a = some o → a ≠ p := fun a o e => by obtain ⟨vs, q⟩ := g.wl a o e; exact ne a _ q
  have st : Stab H1 w1 (upd H1 p (.dK (kvL ks vs))) w1 := fun a x e n => ⟨sm (by rw [upd_ne (ne a x e)]; exact e), n⟩
  refine ⟨⟨⟨fun a o e => ?_, g.wl.tb.upd rfl (.inl hp)⟩, g.ws, fun a i e => Nat.lt_succ_of_lt (g.wt a i e), g.len, fun i d q e => ?_⟩, ⟨st, fun a o e _ => ⟨upd_ne (nw a o e), e⟩⟩, ?_⟩
  · obtain ⟨us, q⟩ := g.wl a o e
    exact ⟨us, by rw [upd_ne (nw a o e)]; exact q⟩
  · obtain ⟨v, F, h1, h2⟩ := g.slot i d q e
    exact ⟨v, F, h1, Rep.go g.wl st h2 fun a m => ⟨upd_ne (nw a _ (h2.owns a m)), h2.owns a m⟩⟩
  · exact .dic upd_same (Reps.go g.wl st r (fun _ z => nomatch z))
theorem pd_dic2 {k l : Str} {j1 j2 : Nat} (hkl : k ≠ l) (ha : PQ X a qa) (hb : PQ X b qb) :
    PD X (.Dict [some (.Constant (.str k) j1 p1), some (.Constant (.str l) j2 p2)] [a, b] pos) (eDic2 k l qa qb) :=
  PE.imp (pe_disp (pps_cons pe_str ha (pps_cons pe_str hb pps_nil)) rfl rfl (by simp) (by show 2 ≤ 15; decide)) fun σ H Q hh0 => by
  obtain ⟨ρ, w, t, r', q, ρ', gd, ee, kk⟩ := hh0
  unfold eDic2 at ee
  split at ee
  · rename_i i j hi hj
    cases ee
    intro p0 hp
    have ne : ∀ a x, H a = some x → upd H p0 (.dK []) a = some x := fun a x e => by rw [upd_ne (ne_of_none e hp)]; exact e
    obtain ⟨g1, go1⟩ := gd.more ⟨ne, fun t => t.upd rfl (.inl hp)⟩
    refine ⟨ρ, w, t, i, g1, hi, ρ, w, t, j, g1, hj, upd_same, [(.inr k, .int i), (.inr l, .int j)], rfl, by show 2 ≤ 15; decide, ?_⟩
    have e : mergeK [] [((.inr k : Key), V.int i), (.inr l, .int j)] = kvL [k, l] [.int i, .int j] := by
      have hkl' : ¬ ((Sum.inr k : Key) = .inr l) := fun z => hkl (Sum.inr.inj z)
      simp [mergeK, putK, kvL, hkl']
    rw [e, upd_upd]
    obtain ⟨a1, a2, a3⟩ := allocD (ks := [k, l]) (ds := [.int i, .int j]) (vs := [.int i, .int j]) gd hp (.cons (F := []) (G := []) (.int i) (.cons (F := []) (G := []) (.int j) .nil (fun _ z => nomatch z)) (fun _ z => nomatch z))
    exact kk _ _ _ _ a1 a2 a3
  · cases ee
noncomputable def dGet : List Str → List D → Str → Option D
  | x :: ks, d :: ds, k => if x = k then some d else dGet ks ds k
  | _, _, _ => none
@[simp] noncomputable def eGet2 (fo fe ff : Den) : Den := fun ρ => match fo ρ with
  | some (.dic ks ds, _, ρ1) => match fe ρ1 with
    | some (.str k, _, ρ2) => match ff ρ2 with
      | some (z, _, ρ3) => some ((dGet ks ds k).getD z, dep0 ((dGet ks ds k).getD z), ρ3)
      | none => none
    | _ => none
  | _ => none
theorem dGet_val {K : PySem.W.Frag} {H : Hp} {w : Wn} {o : Ow} (k : Str) : ∀ {ks : List Str} {ds : List D} {vs : List V}, Reps K H w o 0 ds vs [] →
    (∀ d, dGet ks ds k = some d → ∃ v, valV (kvL ks vs) (.inr k) = some v ∧ Rep K H w o 0 d v []) ∧ (dGet ks ds k = none → valV (kvL ks vs) (.inr k) = none)
  | [], ds, vs, r => by
    refine ⟨fun d h => ?_, fun _ => rfl⟩
    unfold dGet at h
    cases h
  | x :: ks, ds, vs, r => by
    generalize hF : ([] : List Addr) = F at r
    cases r with
    | nil => exact ⟨(fun d h => by unfold dGet at h; cases h), fun _ => rfl⟩
    | @cons _ d' v' ds' vs' F' G' r s _ =>
      have h1 : F' = [] := r.zero
      have h2 : G' = [] := s.zero
      subst h1 h2
      have ih := dGet_val k (ks := ks) s
      by_cases hx : x = k
      · subst hx
        refine ⟨fun d h => ?_, fun h => ?_⟩
        · unfold dGet at h
          rw [if_pos rfl] at h
          cases h
          exact ⟨v', valV_pos rfl, r⟩
        · unfold dGet at h
          rw [if_pos rfl] at h
          cases h
      · have hk : ¬ ((Sum.inr x : Key) = .inr k) := fun z => hx (Sum.inr.inj z)
        have e : valV (kvL (x :: ks) (v' :: vs')) (.inr k) = valV (kvL ks vs') (.inr k) := valV_neg hk
        rw [e]
        unfold dGet
        rw [if_neg hx]
        exact ih
theorem pd_get2 {k : Nat} (hr : Room k X.A) (ho : PD X a fa) (he : PD X b fb) (hf : PD X c fc)
    (hbase : attributeBase a "get" X.env (eval a X.env) = eval a X.env := by rfl)
    (hfew : ((backTo cpos (starEach [b, c] X.env)).all (fun x => !x.1) && (backToKw cpos (keywordEach [] X.env)).all (fun x => x.1.isSome)
      && decide (([b, c] : List Expr).length + ([] : List Keyword).length + (if ([] : List Keyword).isEmpty then 0 else 1) < 30)) = true := by rfl)
    (hline : (apos.endLine == cpos.line) = true := by rfl) (htr : backTo cpos (starEach [b, c] X.env) = [(false, eval b X.env), (false, eval c X.env)] := by rfl) :
    PD X (.Call (.Attribute a "get" apos) [b, c] [] cpos) (eGet2 fa fb fc) :=
  PE.imp (pe_dget2 (hu_of hr) ho he hf ⟨hbase, hfew, hline, htr⟩) fun σ H Q hh0 => by
  obtain ⟨ρ, w, t, r', q, ρ', gd, ee, kk⟩ := hh0
  unfold eGet2 at ee
  split at ee
  · rename_i ks ds q1 ρ1 h1
    split at ee
    · rename_i k0 q2 ρ2 h2
      split at ee
      · rename_i z q3 ρ3 h3
        cases ee
        refine ⟨ρ, w, t, _, _, _, gd, h1, fun x H1 w1 F1 g1 go1 r1 => ?_⟩
        have r1' := r1
        cases r1' with
        | @dic _ a0 _ vs0 _ hH0 _ =>
          refine ⟨a0, rfl, .inl ⟨_, .inl hH0⟩, ρ1, w1, t + 1, _, _, _, g1, h2, fun y H2 w2 F2 g2 go2 r2 => ⟨ρ2, w2, t + 2, _, _, _, g2, h3, fun zv H3 w3 F3 g3 go3 r3 => ?_⟩⟩
          have hy : y = kV (.inr k0) := by cases r2; rfl
          subst hy
          have r13 := (r1.gone g1.wl (go2.trans go3)).drop (o := .t t) (Nat.le_refl t)
          have rz := r3.drop (o := .t t) (t' := t) (by omega)
          have go := (go1.trans go2).trans go3
          cases r13 with
          | @dic _ _ _ vs _ hH rs =>
            obtain ⟨v1, v2⟩ := dGet_val (ks := ks) k0 rs
            refine ⟨_, DGet.k hH, ?_⟩
            cases hg : dGet ks ds k0 with
            | none =>
              rw [v2 hg]
              rw [hg] at kk
              exact fin0 kk gd g3 go rz.dep
            | some d =>
              obtain ⟨v, ev, rv⟩ := v1 d hg
              rw [ev]
              rw [hg] at kk
              exact fin0 kk gd g3 go rv.dep
      · cases ee
    · cases ee
  · cases ee
theorem se_Dict {rest : List Expr} {env : Env} {ks : List (Option Expr)} {vs : List Expr} : starEach (.Dict ks vs pos :: rest) env = (false, eval (.Dict ks vs pos) env) :: starEach rest env := by simp only [starEach]
end
end L3
set_option Elab.async false
set_option linter.all false
set_option maxRecDepth 100000
namespace L3
open PySem PySem.Spec PyProof.Rows L2
theorem drawsT {prog : Program} {w : World} {A : Around} (hh : A.handled = none) (it p : Addr) (hne : p ≠ it) (items : Array Value) :
    Draws prog w A it [it, p] items.size (fun i v => items[i]? = some v) (fun i h => h.IsTupleIter it p i ∧ h.IsTuple p items) where
  live := fun _ _ st => by obtain ⟨⟨o, ho, _⟩, _⟩ := st; exact ⟨o, ho⟩
  frame := fun _ _ _ st hk => by
    obtain ⟨a, ⟨o, e, r⟩⟩ := st
    exact ⟨a.at fun o e => hk it (by simp) o e, ⟨o, hk p (by simp) o e, r⟩⟩
  item := fun i s Q E hi st hQ => by
    refine nextT_item st.1 st.2 (v := items[i]) (by simp [hi]) fun h' hit' hs' => ?_
    exact hQ _ h' s.toks (by simp [hi]) ⟨hit', st.2.extBut hs'.extBut hne⟩ hs'
  done := fun s Q E st hE => nextT_end hh st.1 st.2 (by simp) hE
section
variable {prog : Program} {w : World} {A : Around} {E : Value → Shared → Prop} {s : Shared}
theorem enumT_new {p : Addr} {xs : Array Value} {Q : Value → Shared → Prop} (t1 : s.heap.IsTuple p xs)
    (k : ∀ h', IsEnum h' (s.heap.objs.size + 1) s.heap.objs.size 0 .none → h'.IsTupleIter s.heap.objs.size p 0 → h'.objs.size = s.heap.objs.size + 2 →
      (∀ b o, s.heap.get? b = some o → h'.get? b = some o) → Q (.ref (s.heap.objs.size + 1)) { s with heap := h' }) :
    wpAny (model prog w) A (call (.type "enumerate") [.ref p]) Q E s := by
  have mt : Meets (Builtin.«enumerate.__new__» ⟨[.type "enumerate", .ref p], []⟩) (fun _ R s' => s' = s ∧
      R (.ok (.ret (.ref (s.heap.push { cls := .type "tuple_iterator", data := .fields #[.ref p, .int 0 0] }).objs.size)))
        { s with heap := (s.heap.push { cls := .type "tuple_iterator", data := .fields #[.ref p, .int 0 0] }).push { cls := .type "enumerate", data := .fields #[.none, .bool false, .ref s.heap.objs.size, rawInt 0, .none, .none] } }) := .of_wp fun prog w A R s' h => by
    obtain ⟨rfl, h⟩ := h
    have hsub := sub_enumerate
    obtain ⟨hp, gn, dr, tk, os⟩ := s'
    have q1 : Heap.IsTuple (Shared.heap ⟨hp, gn, dr, tk, os⟩) p xs := t1
    wp_walk using wpAny_pyIter_tuple q1
    refine wpAny_stack_any fun st => wpAny_pure ?_
    split
    · rename_i c _ _ _ _ _
      cases (c == Value.type "enumerate")
      · wp_walk using wpAny_pyIter_tuple q1
        exact ⟨_, rfl, h⟩
      · wp_walk using wpAny_pyIter_tuple q1
        exact ⟨_, rfl, h⟩
    · wp_walk using wpAny_pyIter_tuple q1
      exact ⟨_, rfl, h⟩
  refine callType_new F.called_enumerate (by decide) (F.typeCall_enumerate_1 _) (F.newCall_enumerate_1 _) (fun obj => F.args_object_init_2 obj _) F.entry_enumerate_new mt ⟨rfl, ?_⟩
  have hz : (s.heap.push { cls := .type "tuple_iterator", data := .fields #[.ref p, .int 0 0] }).objs.size = s.heap.objs.size + 1 := Heap.size_push ..
  show _ ∧ _
  rw [hz]
  have he : IsEnum ((s.heap.push { cls := .type "tuple_iterator", data := .fields #[.ref p, .int 0 0] }).push
      { cls := .type "enumerate", data := .fields #[.none, .bool false, .ref s.heap.objs.size, rawInt 0, .none, .none] }) (s.heap.objs.size + 1) s.heap.objs.size 0 .none := by
    have := Heap.get?_push_size (s.heap.push { cls := .type "tuple_iterator", data := .fields #[.ref p, .int 0 0] })
      (o := { cls := .type "enumerate", data := .fields #[.none, .bool false, .ref s.heap.objs.size, rawInt 0, .none, .none] }) rfl
    rw [hz] at this; exact this
  exact ⟨⟨_, he, rfl⟩, k _ he ⟨_, Heap.get?_push_of_some _ (Heap.get?_push_size _ rfl), rfl, rfl⟩ (by rw [Heap.size_push, hz]) fun b o x => Heap.get?_push_of_some _ (Heap.get?_push_of_some _ x)⟩
end
structure Src (P : Program) (w : World) (K : PySem.W.Frag) (it p : Addr) (Sq : Hp → List V → Prop) (tn : Nat → Heap → Prop) : Prop where
  keep : ∀ i h h', tn i h → (∀ o, h.get? it = some o → h'.get? it = some o) → tn i h'
  obj : ∀ i h, tn i h → ∃ o vs, h.get? it = some o ∧ o.data = .fields vs
  draw : ∀ (X : Cx), X.prog = P → X.w = w → X.K = K → X.calm = true → ∀ (pins : List (Addr × Obj)) (s : Shared) (σ : St) (H : Hp) (xs : List V), Inv X pins σ H s → Sq H xs → ∃ (us : List Value) (St : Nat → Heap → Prop), Vals xs us ∧
    Draws P w X.A.in1 it [it, p] us.length (fun i v => us[i]? = some v) St ∧ (∀ i, tn i s.heap → St i s.heap) ∧ (∀ i h, St i h → tn i h) ∧ ∀ ys, Sq H ys → ys = xs
theorem src_list {P : Program} {w : World} {K : PySem.W.Frag} {it p : Addr} (hne : p ≠ it) : Src P w K it p (fun H xs => SqL K H p xs) (fun i h => h.IsListIter it p i) where
  keep := fun i h h' st k => st.at k
  obj := fun i h st => by obtain ⟨o, e, c, d⟩ := st; exact ⟨o, _, e, d⟩
  draw := fun X hP hw hK hc pins s σ H xs I hq => by
    subst hP hw hK
    obtain ⟨its, rv, pl, _⟩ := I.list hq
    have D := Draws.list (prog := X.prog) (w := X.w) (A := X.A.in1) (I.ok.hd hc) it p hne its.toArray
    rw [List.size_toArray] at D
    exact ⟨its, (fun i h => h.IsListIter it p i ∧ h.IsList p its.toArray), rv, (by simpa using D), fun i st => ⟨st, pl.isList⟩, fun i h st => st.1, fun ys hy => I.list_inj hy hq⟩
theorem src_tup {P : Program} {w : World} {K : PySem.W.Frag} {it p : Addr} (hne : p ≠ it) : Src P w K it p (fun H xs => SqT K H p xs) (fun i h => h.IsTupleIter it p i) where
  keep := fun i h h' st k => st.at k
  obj := fun i h st => by obtain ⟨o, e, c, d⟩ := st; exact ⟨o, _, e, d⟩
  draw := fun X hP hw hK hc pins s σ H xs I hq => by
    subst hP hw hK
    obtain ⟨its, rv, pl, _⟩ := I.tuple hq
    have D := drawsT (prog := X.prog) (w := X.w) (A := X.A.in1) (I.ok.hd hc) it p hne its.toArray
    rw [List.size_toArray] at D
    exact ⟨its, (fun i h => h.IsTupleIter it p i ∧ h.IsTuple p its.toArray), rv, (by simpa using D), fun i st => ⟨st, pl⟩, fun i h st => st.1, fun ys hy => I.tuple_inj hy hq⟩
noncomputable def Ite (Sq : Hp → List V → Prop) : It :=
  ⟨fun i H => ∃ xs x, Sq H xs ∧ xs[i]? = some x,
   fun i H v H' => ∃ T x, v = .ref T ∧ H T = none ∧ (∀ xs, Sq H xs → xs[i]? = some x) ∧ H' = upd H T (.tup [.int (Int.ofNat i), x]),
   fun i H => ∃ xs, Sq H xs ∧ xs.length = i⟩
theorem turn_enum {P : Program} {w : World} {K : PySem.W.Frag} {elts : List Expr} {kt : Nat} {tp : Pos} {e it p : Addr} {Sq : Hp → List V → Prop} {tn : Nat → Heap → Prop} (S : Src P w K it p Sq tn) (hne : e ≠ it) (hp : e ≠ p) :
    Turn P w K (.Tuple elts kt tp) (Ite Sq) [e, it] e (fun i h => (∃ old, IsEnum h e it i old) ∧ tn i h) where
  mem := by simp
  obj := fun i h st b hb => by
    obtain ⟨⟨old, he⟩, st⟩ := st
    simp only [List.mem_cons, List.not_mem_nil, or_false] at hb
    rcases hb with rfl | rfl
    · exact ⟨_, he, fun v e => nomatch e⟩
    · obtain ⟨o, vs, e, d⟩ := S.obj i h st
      exact ⟨o, e, fun v z => by rw [d] at z; cases z⟩
  keep := fun i h h' st k => by
    obtain ⟨⟨old, he⟩, st⟩ := st
    exact ⟨⟨old, k e (by simp) _ he⟩, S.keep i h h' st fun o z => k it (by simp) o z⟩
  item := by
    intro X hP hw hK hc i pins s σ H E I hf st hg
    obtain ⟨⟨old, he⟩, st⟩ := st
    obtain ⟨xs, x, hq, hx⟩ := hg
    obtain ⟨us, St, rv, D, s1, s2, inj⟩ := S.draw X hP hw hK hc pins s σ H xs I hq
    obtain ⟨u, hu, ru⟩ := rv.get hx
    have hlt : i < us.length := (List.getElem?_eq_some_iff.mp hu).1
    refine wpAny_pyNext_enum_itemD D he (s1 i st) hlt hne (by simp [hne, hp]) fun u' g tk hP' ho hs' hT hsz hk => ?_
    have eu : u' = u := by rw [hu] at hP'; exact (Option.some.inj hP').symm
    subst eu
    refine ⟨_, rfl, wpAny_letOwnedTupleGo_enum (s := { s with heap := g, toks := tk + 1 }) ho fun g' he' sb => ?_⟩
    have sb' : Heap.SameBut e g g' := sb
    have fr : H s.heap.objs.size = none := I.hok.fresh (Nat.le_refl _)
    have ri : RelV (.int (Int.ofNat i)) (.int i tk) := ⟨tk, rfl⟩
    have I1 : Inv X pins σ (upd H s.heap.objs.size (.tup [.int (Int.ofNat i), x])) { s with heap := s.heap.push { cls := .type "tuple", data := .seq #[.int i tk, u'] } } :=
      I.laid (t' := s.toks) (fun b q e => Heap.get?_push_of_some _ e) (Nat.le_refl _) (show ObjOk X.prog X.w _ _ _ (.tup _) from ⟨(by show 2 ≤ sizeLine; decide), [.int i tk, u'], .cons ri (.cons ru .nil), IsTupD.new _ _⟩)
    have lt : ∀ b ∈ [e, it], b < s.heap.objs.size := fun b hb => by
      simp only [List.mem_cons, List.not_mem_nil, or_false] at hb
      rcases hb with rfl | rfl
      · exact Heap.lt_size he
      · obtain ⟨o, _, e, _⟩ := S.obj i _ st; exact Heap.lt_size e
    have hn : ∀ b ∈ [e, it], upd H s.heap.objs.size (.tup [.int (Int.ofNat i), x]) b = none := fun b hb => by rw [upd_ne (Nat.ne_of_lt (lt b hb))]; exact (hf b hb).1
    have I2 : Inv X pins σ (upd H s.heap.objs.size (.tup [.int (Int.ofNat i), x])) { s with heap := g', toks := tk + 1 } := turnedL (s := { s with heap := s.heap.push { cls := .type "tuple", data := .seq #[.int i tk, u'] } }) (t' := tk + 1) (ch := [e, it]) I1 (fun b q nb z => by
      have b1 : b ≠ e := fun h => nb (by simp [h])
      have b2 : b ≠ it := fun h => nb (by simp [h])
      rcases Heap.get?_push_cases z with ⟨rfl, rfl⟩ | z'
      · exact sb'.extBut _ _ b1 hT
      · exact sb'.extBut _ _ b1 (hk b q b1 b2 z')) fun b hb => by
          obtain ⟨f0, f1, f2, f3, f4, f5⟩ := hf b hb
          exact ⟨hn b hb, f1, f2, f3, f4, f5⟩
    refine ⟨.ref s.heap.objs.size, _, I2, rfl, ⟨s.heap.objs.size, x, rfl, fr, fun zs hz => ?_, rfl⟩, ⟨⟨_, he'⟩, ?_⟩, hn⟩
    · rw [inj zs hz]; exact hx
    · exact S.keep _ _ _ (s2 _ _ hs') fun o z => sb'.extBut _ _ (Ne.symm hne) z
  done := by
    intro X hP hw hK hc i pins s σ H E I hf st hg
    obtain ⟨⟨old, he⟩, st⟩ := st
    obtain ⟨xs, hq, hx⟩ := hg
    obtain ⟨us, St, rv, D, s1, s2, inj⟩ := S.draw X hP hw hK hc pins s σ H xs I hq
    have hl : us.length = i := by rw [← rv.length]; exact hx
    subst hl
    refine wpAny_pyNext_enum_endD D he (s1 _ st) fun g kp => ⟨rfl, ?_⟩
    obtain ⟨f0, f1, f2, f3, f4, f5⟩ := hf it (by simp)
    exact I.turned (t' := s.toks) (fun b o hb z => kp b o hb z) f0 f1 f3 f4 f5
  self := fun _ _ _ _ _ st h => by
    obtain ⟨⟨old, he⟩, _⟩ := st
    exact wpAny_pyIter_enum he h
section
variable {X : Cx} {a b c e : Expr} {es elts : List Expr} {fa fb fc f : Den} {g : DenA} {pos p p1 p2 tp : Pos} {kt : Nat}
noncomputable def iEnu (K : PySem.W.Frag) (ta : TA) : TI := fun σ H R => ta σ H fun vs H1 => ∃ p, vs = [.ref p] ∧ (((∃ xs, SqL K H1 p xs) ∧ R (Ite fun H xs => SqL K H p xs) H1) ∨ ((∃ xs, SqT K H1 p xs) ∧ R (Ite fun H xs => SqT K H p xs) H1))
theorem pi_enum {ta : TA} (hg : Gl X "enumerate") (hm : X.mg "enumerate" = none) (ha : PA X [a] ta) (hs : starEach [a] X.env = [(false, eval a X.env)] := by rfl) :
    PI X (.Tuple elts kt tp) (.Call (.Name "enumerate" p) [a] [] pos) (iEnu X.K ta) := by
  intro pins s σ H R I h
  refine Call_ (ld_blt I hg hm boot_enumerate (PyProof.Rows.callWith_type1 (thn (ha pos pins s σ H _ I h) fun us s1 ⟨vs, H1, I1, r1, q1⟩ => ?_) hs rfl))
  obtain ⟨q, ee, hq⟩ := q1
  subst ee
  cases r1 with
  | cons r rr =>
    cases rr
    cases r
    have ne1 : s1.heap.objs.size + 1 ≠ s1.heap.objs.size := Nat.succ_ne_self _
    have fin : ∀ {g : Heap} {Sq : Hp → List V → Prop} {tn : Nat → Heap → Prop}, q < s1.heap.objs.size → Src X.prog X.w X.K s1.heap.objs.size q Sq tn → IsEnum g (s1.heap.objs.size + 1) s1.heap.objs.size 0 .none → tn 0 g → (∀ b o, s1.heap.get? b = some o → g.get? b = some o) → R (Ite Sq) H1 →
        wpAny (model X.prog X.w) X.A (pyIter (.ref (s1.heap.objs.size + 1))) (PIE X pins σ (.Tuple elts kt tp) R) X.xe { s1 with heap := g } := fun {g Sq tn} lq S he ht kp hR => by
      have ne2 : s1.heap.objs.size + 1 ≠ q := Nat.ne_of_gt (Nat.lt_succ_of_lt lq)
      refine wpAny_pyIter_enum he ⟨s1.heap.objs.size + 1, [s1.heap.objs.size + 1, s1.heap.objs.size], _, _, H1, rfl, I1.kept (t' := s1.toks) kp, turn_enum S ne1 ne2, ⟨⟨_, he⟩, ht⟩, fun b hb => ?_, hR⟩
      have far : s1.heap.objs.size ≤ b := by
        simp only [List.mem_cons, List.not_mem_nil, or_false] at hb
        rcases hb with rfl | rfl
        · exact Nat.le_add_right _ _
        · exact Nat.le_refl _
      exact I1.fpOk far (I1.hok.fresh far)
    rcases hq with ⟨⟨xs, hx⟩, hR⟩ | ⟨⟨xs, hx⟩, hR⟩
    · obtain ⟨its, rv, pl, _⟩ := I1.list hx
      have lq : q < s1.heap.objs.size := by obtain ⟨_, e, _⟩ := pl.isList; exact Heap.lt_size e
      exact call_enumerate_list pl.isList fun g he hi _ kp => fin lq (src_list (Nat.ne_of_lt lq)) he hi kp hR
    · obtain ⟨its, rv, pl, _⟩ := I1.tuple hx
      have lq : q < s1.heap.objs.size := by obtain ⟨_, e, _⟩ := pl; exact Heap.lt_size e
      exact enumT_new (show s1.heap.IsTuple q its.toArray from pl) fun g he hi _ kp => fin lq (src_tup (Nat.ne_of_lt lq)) he hi kp hR
noncomputable def enumD (ds : List D) : List D := ds.zipIdx.map fun x => .tup [.int (Int.ofNat x.2), x.1]
theorem enumD_len (ds : List D) : (enumD ds).length = ds.length := by simp [enumD]
theorem enumD_get (ds : List D) (i : Nat) : (enumD ds)[i]? = (ds[i]?).map fun d => .tup [.int (Int.ofNat i), d] := by
  simp only [enumD, List.getElem?_map, List.getElem?_zipIdx, Option.map_map]
  cases ds[i]? with
  | none => rfl
  | some d => simp
@[simp] noncomputable def iEnum (g : DenA) : DenI := fun ρ => match g ρ with
  | some ([.lst ds], ρ1) => if ds.length ≤ 1000 then some (enumD ds, ρ1) else none
  | some ([.tup ds], ρ1) => if ds.length ≤ 1000 then some (enumD ds, ρ1) else none
  | _ => none
theorem It.enum {K : PySem.W.Frag} {Sq : Hp → List V → Prop} {vs : List V} {ds : List D} {P : Hp → Wn → Prop} (hl : ds.length = vs.length) (sq : ∀ H w, P H w → Sq H vs ∧ Reps K H w .f 0 ds vs []) (ps : ∀ H w H' w', P H w → WL K w H → Stab H w H' w' → P H' w') : ItOk K (Ite Sq) (enumD ds) P := by
  refine ⟨fun i H w p hi => ⟨vs, vs[i]'(by rw [enumD_len] at hi; omega), (sq H w p).1, by simp⟩, fun i H w x H' d p wl hd y => ?_, fun H w p => ⟨vs, (sq H w p).1, by rw [enumD_len]; exact hl.symm⟩, ps⟩
  obtain ⟨T, v, rfl, hT, hv, rfl⟩ := y
  obtain ⟨q1, r1⟩ := sq H w p
  rw [enumD_get] at hd
  cases hz : ds[i]? with
  | none => rw [hz] at hd; cases hd
  | some d0 =>
    rw [hz] at hd
    cases hd
    obtain ⟨v', hv', rv⟩ := r1.get hz
    have ev : v' = v := by have := hv vs q1; rw [hv'] at this; exact Option.some.inj this
    subst ev
    have mo : ∀ a o, H a = some o → upd H T (.tup [.int (Int.ofNat i), v']) a = some o := fun a o e => by rw [upd_ne (ne_of_none e hT)]; exact e
    have st : Stab H w (upd H T (.tup [.int (Int.ofNat i), v'])) w := fun a x e n => ⟨sm (mo a x e), n⟩
    exact ⟨⟨mo, fun t => t.upd rfl (.inl hT)⟩, .tup upd_same (.cons (F := []) (G := []) (.int _) (.cons (F := []) (G := []) (Rep.go0 rv wl st) .nil (fun _ z => nomatch z)) (fun _ z => nomatch z)), ps _ _ _ _ p wl st⟩
theorem pdi_enum (hm : X.mg "enumerate" = none) (ha : PDA X [a] g) (hg : Gl X "enumerate" := by rfl) (hs : starEach [a] X.env = [(false, eval a X.env)] := by rfl) :
    PDI X (.Tuple elts kt tp) (.Call (.Name "enumerate" p) [a] [] pos) (iEnum g) := PI.imp (pi_enum hg hm ha hs) fun σ H R hh0 => by
  obtain ⟨ρ, w, t, ds, ρ', gd, ee, k⟩ := hh0
  unfold iEnum at ee
  split at ee
  · rename_i d1 ρ1 h1
    split at ee
    · rename_i hl
      cases ee
      refine ⟨ρ, w, t, _, _, gd, h1, fun vs H1 w1 g1 go1 r1 => ?_⟩
      obtain ⟨v, rfl, rv⟩ := one r1
      have hz : (enumD d1).length < sizeLine := by rw [enumD_len]; exact small1000 hl
      cases rv with
      | kl h r => exact ⟨_, rfl, .inl ⟨⟨_, h.sq⟩, k _ _ H1 w1 g1 go1 (It.enum (P := fun H w => (KL X.K _ _ ∨ False) ∧ Reps X.K H w .f 0 d1 _ []) r.length (fun H w p => ⟨p.1.elim (fun z => z.sq) fun z => z.elim, p.2⟩) fun H w H' w' p wl st => ⟨p.1, Reps.go wl st p.2 (fun _ z => nomatch z)⟩) ⟨.inl h, r⟩ hz⟩⟩
      | shr h n r => exact ⟨_, rfl, .inl ⟨⟨_, .inl h⟩, k _ _ H1 w1 g1 go1 (It.enum (P := fun H w => (Rd H _ (.lst _) ∧ w _ = none) ∧ Reps X.K H w .f 0 d1 _ []) r.length (fun H w p => ⟨.inl p.1.1, p.2⟩) fun H w H' w' p wl st => ⟨RdL.go st p.1.2 p.1.1, Reps.go wl st p.2 (fun _ z => nomatch z)⟩) ⟨⟨h, n⟩, r⟩ hz⟩⟩
    · cases ee
  · rename_i d1 ρ1 h1
    split at ee
    · rename_i hl
      cases ee
      refine ⟨ρ, w, t, _, _, gd, h1, fun vs H1 w1 g1 go1 r1 => ?_⟩
      obtain ⟨v, rfl, rv⟩ := one r1
      have hz : (enumD d1).length < sizeLine := by rw [enumD_len]; exact small1000 hl
      obtain ⟨p1, as, rfl, q1, s1⟩ := rv.seqT
      exact ⟨p1, rfl, .inr ⟨⟨_, q1⟩, k _ _ H1 w1 g1 go1 (It.enum (P := fun H w => SqT X.K H p1 as ∧ Reps X.K H w .f 0 d1 as []) s1.length (fun H w p => p) fun H w H' w' p wl st => ⟨SqT.go wl st p.1, Reps.go wl st p.2 (fun _ z => nomatch z)⟩) ⟨q1, s1⟩ hz⟩⟩
    · cases ee
  · cases ee
end
end L3
set_option Elab.async false
set_option linter.all false
set_option maxRecDepth 100000
namespace L3
open PySem PySem.Spec PyProof.Rows PySem.W L2
theorem objEx {P : Program} {w : World} {H : Hp} {h : Heap} {a : Addr} {o : HO} (x : ObjOk P w H h a o) : ∃ ob, h.get? a = some ob := by
  cases o with
  | lst xs => obtain ⟨_, _, _, _, e⟩ := x; exact ⟨_, e⟩
  | tup xs => obtain ⟨_, _, _, o, e, _⟩ := x; exact ⟨_, e⟩
  | dK kvs => obtain ⟨_, _, _, _, o, _, _, e, _⟩ := x; exact ⟨_, e⟩
  | dT kvs => obtain ⟨_, _, _, _, o, _, _, e, _⟩ := x; exact ⟨_, e⟩
  | set S n => obtain ⟨o, _, _, _, e, _⟩ := x; exact ⟨_, e⟩
  | ins C dx fs => obtain ⟨_, _, _, e, _⟩ := x; exact ⟨_, e⟩
  | own y => obtain ⟨_, e⟩ := x; exact ⟨_, e⟩
  | xd fs => obtain ⟨_, ⟨_, _, _, e, _⟩, _⟩ := x; exact ⟨_, e⟩
  | rng lo hi => obtain ⟨_, _, _, e⟩ := x; exact ⟨_, e⟩
  | frz ob u => obtain ⟨e, _⟩ := x; exact ⟨_, e⟩
  | tbl ps => exact ⟨_, (show h.get? a = some _ from x)⟩
  | met f y => exact ⟨_, (show h.get? a = some _ from x)⟩
  | ext φ => obtain ⟨_, ⟨_, e⟩, _⟩ := x; exact ⟨_, e⟩
theorem hokStay {P : Program} {w : World} {H : Hp} {h h' : Heap} (x : HOk P w H h) (k : ∀ b u o, H b = some u → h.get? b = some o → h'.get? b = some o) : HOk P w H h' := fun b u e =>
  (x b u e).stay (fun c o hc q => by
    rcases hc with z | z
    · rw [z] at q ⊢; exact k b u o e q
    · exact k c _ o z q) (fun _ q => q) fun _ _ q => q
structure Fly (P : Program) (w : World) (outer : List Env) (H : Hp) (s : Shared) (a C t : Addr) (B : Heap) (H' : Hp) (s' : Shared) : Prop where
  os : s'.os = s.os
  bare : AllBare s'.gens
  un : Un (frs outer) [] H H' s.heap s'.heap
  hok : HOk P w H' s'.heap
  fl : Heap.FlyingW B outer a (.ref C) (.ref t) s'.heap
  old : ∀ b o, s.heap.get? b = some o → H b = none → b ∉ frs outer → B.get? b = some o
  oldT : ∀ b o, s.heap.get? b = some o → b ∉ frs outer → ∃ o', B.get? b = some o'
  trk : ∀ b u o, H' b = some u → s'.heap.get? b = some o → B.get? b = some o
  free : H' a = none
noncomputable def CXF (P : Program) (w : World) : CXT := fun outer H s E e s' => ∃ (a C t : Addr) (B : Heap) (H' : Hp), e = .ref a ∧ Fly P w outer H s a C t B H' s' ∧ E (.ref C) none H'
section
variable {P : Program} {w : World} {K : PySem.W.Frag} {mg : Str → Option Value} {base : Heap} {N : List Str} {qual : Str} {scope : Scope} {f : Addr} {cd : Value} {A : Around} {outer : List Env} {s₀ : Shared} {H₀ : Hp} {E : XK} {pins : List (Addr × Obj)} {σ : St} {H : Hp} {s : Shared}
noncomputable abbrev cxF (P : Program) (w : World) (K : PySem.W.Frag) (mg : Str → Option Value) (base : Heap) (N : List Str) (qual : Str) (scope : Scope) (f : Addr) (cd : Value) (A : Around) (outer : List Env) (s₀ : Shared) (H₀ : Hp) (E : XK) : Cx := cxOf (CXF P w) P w K mg base N qual scope f cd A outer s₀ H₀ E
theorem frames_of (I : Inv (cxF P w K mg base N qual scope f cd A outer s₀ H₀ E) pins σ H s) {b : Addr} (hb : b ∈ frs outer) {o : Obj} (e : s.heap.get? b = some o) : ∀ vs, o.data ≠ .fields vs := by
  obtain ⟨_, o', ho, hd⟩ := I.funs.mem hb
  rw [e] at ho; cases ho
  exact hd
theorem raise_leave {h' : Heap} {e C : Addr} {vs : List Value} (I : Inv (cxF P w K mg base N qual scope f cd A outer s₀ H₀ E) pins σ H s) (hm : Heap.MadeExcOf s.heap h' e (.ref C) vs) (hE : E (.ref C) none H) :
    (cxF P w K mg base N qual scope f cd A outer s₀ H₀ E).xe (.ref e) { s with heap := h' } := by
  have nL : ∀ b o, s₀.heap.get? b = some o → b ≠ s₀.heap.objs.size := fun b o q => Nat.ne_of_lt (Heap.lt_size q)
  have hid : ∀ b o, s.heap.get? b = some o → b ≠ s₀.heap.objs.size → b ∉ frs outer → (hideAll s.heap (frs (envOfC qual scope s₀.heap.objs.size f cd :: outer))).get? b = some o := fun b o q n1 n2 => hideAll_get _ q fun hm => by
    rcases List.mem_cons.mp (show b ∈ s₀.heap.objs.size :: frs outer from hm) with z | z
    · exact n1 z
    · exact n2 z
  have hin : ∀ env ∈ (envOfC qual scope s₀.heap.objs.size f cd :: outer), ∀ b, env.frame = some b → b ∈ frs (envOfC qual scope s₀.heap.objs.size f cd :: outer) := fun env he b hb => List.mem_filterMap.mpr ⟨env, he, hb⟩
  have nstk : ∀ b u, H b = some u → b ≠ s₀.heap.objs.size ∧ b ∉ frs outer := fun b u q => by
    refine ⟨fun z => ?_, fun z => ?_⟩
    · have := I.free
      rw [z] at q
      have this' : H s₀.heap.objs.size = none := this
      rw [this'] at q; cases q
    · have := I.stkFree b (List.mem_cons_of_mem _ z)
      rw [this] at q; cases q
  have base0 : Un (frs outer) [] H₀ H s₀.heap s.heap := I.base
  show wpAny _ _ (leaving (envOfC qual scope s₀.heap.objs.size f cd) (.ref e)) _ _ _
  refine wpAny_leaves_madeW (s := { s with heap := h' }) (L := s₀.heap.objs.size) (outer := outer) I.ok.frames rfl (fun b o q => of_hideAll _ q) (funFrames_hide I.stack hin) hm fun h2 t fl _ _ up => ?_
  have old : ∀ b o, s₀.heap.get? b = some o → H₀ b = none → b ∉ frs outer → (hideAll s.heap (frs (envOfC qual scope s₀.heap.objs.size f cd :: outer))).get? b = some o := fun b o q n hb => hid b o (base0.keep b o q n hb (by simp)) (nL b o q) hb
  have slot : ∀ b o, s.heap.get? b = some o → b ∈ frs outer → ∃ sl, h2.get? b = some { o with slots := sl } := fun b o q hb => up b o (hm.keeps b o q) (frames_of I hb q)
  have trk : ∀ b u o, H b = some u → s.heap.get? b = some o → (hideAll s.heap (frs (envOfC qual scope s₀.heap.objs.size f cd :: outer))).get? b = some o := fun b u o q e => hid b o e (nstk b u q).1 (nstk b u q).2
  refine ⟨e, C, t, _, H, rfl, ⟨I.os, I.bare, ⟨fun b o q n hb _ => fl.1 b o (old b o q n hb), fun b o q n hb _ => ?_, fun b o q n _ => base0.free b o q n (by simp), fun b o q _ => ?_, base0.tups, base0.frzs, base0.tbls⟩, hokStay I.hok fun b u o q e => fl.1 b o (trk b u o q e), fl, old, fun b o q hb => ?_, fun b u o q e => ?_, ?_⟩, hE⟩
  · obtain ⟨sl, q1⟩ := base0.slot b o q n hb (by simp)
    obtain ⟨sl', q2⟩ := slot b _ q1 hb
    exact ⟨sl', q2⟩
  · obtain ⟨o', q1⟩ := base0.there b o q (by simp)
    by_cases hb : b ∈ frs outer
    · obtain ⟨sl, q2⟩ := slot b o' q1 hb
      exact ⟨_, q2⟩
    · exact ⟨o', fl.1 b o' (hid b o' q1 (nL b o q) hb)⟩
  · obtain ⟨o', q1⟩ := base0.there b o q (by simp)
    exact ⟨o', hid b o' q1 (nL b o q) hb⟩
  · obtain ⟨o1, q1⟩ := objEx (I.hok b u q)
    have q2 := trk b u o1 q q1
    have q3 := fl.1 b o1 q2
    have e' : h2.get? b = some o := e
    rw [q3] at e'; cases e'
    exact q2
  · cases q : H e with
    | none => rfl
    | some u =>
      obtain ⟨o1, q1⟩ := objEx (I.hok e u q)
      rw [hm.new] at q1; cases q1
end
end L3
set_option Elab.async false
set_option linter.all false
set_option maxRecDepth 100000
namespace L3
open PySem PySem.Spec PyProof.Rows PySem.W L2
structure XNm (K : Frag) (mg : Str → Option Value) (nm : Str) (C : Addr) : Prop extends XKls K nm C where
  mg : mg nm = some (.ref C)
theorem own_obj {K : Frag} {h : Heap} {C : Addr} {bmB : List Value} {newId : String} (X : K.In h) (q : excIn K C bmB newId = true) :
    ∃ bm N nm q bs hdct sn sub ab col dd k0 k1 k2 k3 k5 mN, h.get? C = some (excClassObj nm q C N bs bm hdct sn sub ab col dd k0 k1 k2 k3 k5 newId) ∧ h.Ns N mN ∧ mN "__init__" = none ∧ OwnTail h bmB bm := by
  unfold excIn at q
  split at q
  · rename_i dd cd sl ho
    split at q
    · rename_i C' bm k0 k1 k2 k3 n k5 hm hs
      simp only [Bool.and_eq_true, beq_iff_eq, Bool.not_eq_true'] at q
      obtain ⟨⟨⟨⟨⟨rfl, rfl⟩, hdel⟩, ht⟩, hok⟩, hni⟩ := q
      obtain ⟨nm, bs, mro, ns, qn, hd, sn, sub, ab, col, del⟩ := cd
      dsimp only at hm hdel hok hni
      subst hm hdel
      have hsl : sl = #[k0, k1, k2, k3, some (.builtin n), k5] := by
        obtain ⟨l⟩ := sl
        simp only at hs
        rw [hs]
      subst hsl
      exact ⟨bm, ns, nm, qn, bs, hd, sn, sub, ab, col, dd, k0, k1, k2, k3, k5, _, X _ _ ho, .of_isNs (isNs_of_in X hok), nsMap_none_of_in X hok hni, tail_of_in X ht⟩
    · cases q
  · cases q
section
variable {P : Program} {w : World} {K : PySem.W.Frag} {mg : Str → Option Value} {base : Heap} {N : List Str} {qual : Str} {scope : Scope} {f : Addr} {cd : Value} {A : Around} {outer : List Env} {s₀ : Shared} {H₀ : Hp} {E : XK} {pins : List (Addr × Obj)} {σ : St} {H : Hp} {s : Shared}
theorem ps_raise {nm txt : Str} {C : Addr} {j : Nat} {np cpos tpos pos : Pos} (hA : A.handled = none) (hC : XNm K mg nm C) (hg : Gl (cxF P w K mg base N qual scope f cd A outer s₀ H₀ E) nm) (hdb : (nm == ("__debug__" : Str)) = false := by decide) :
    PS (cxF P w K mg base N qual scope f cd A outer s₀ H₀ E) (.Raise (some (.Call (.Name nm np) [.Constant (.str txt) j tpos] [] cpos)) none pos) (fun _ _ H => E (.ref C) none H) := by
  intro pins s σ H D I h
  obtain ⟨tl, Nn, nm', q, bs, hdct, sn, sub, ab, col, dd, k0, k1, k2, k3, k5, mN, hC', hN, hni, T⟩ := own_obj I.mod.kin hC.ex
  refine wpAny_Raise_call_subT (C := C) (nm := nm') (q := q) (N := Nn) (bs := bs) (bm := tl) (hdct := hdct) (sn := sn) (sub := sub) (ab := ab) (col := col) (dd := dd) (k0 := k0) (k1 := k1) (k2 := k2) (k3 := k3) (k5 := k5)
    PySem.F.excBase_ValueError (mN := mN) (T.hasType PySem.F.excBase_ValueError.hasBase) hA rfl hni (ld_glob I hg hC.mg ⟨rfl, ?_⟩ hdb)
  refine Calls.evalArgs_plain (Calls.spliced_cons (thn (pe_str (j := j) (pos := tpos) pins s σ H (fun v H1 => v = .str txt ∧ H1 = H) I ⟨rfl, rfl⟩) fun u s1 hh0 => ?_))
  obtain ⟨v, H1, I1, r1, e1, e2⟩ := hh0
  subst e1 e2
  refine Calls.spliced_nil ⟨rfl, by show 1 ≤ sizeLine; decide, I1.bk _ _ hC', hN.keeps I1.bk, T.keeps I1.bk, fun h' e hm => raise_leave I1 hm h⟩
end
noncomputable abbrev DenX := Rho → Option Str
noncomputable def tX (K : PySem.W.Frag) (x : DenX) (E : XK) : TS := fun _ σ H => ∃ ρ w nm, Good K ρ σ H w 0 ∧ x ρ = some nm ∧ ∀ C H' w', nsIn K mainGlobals nm = some (some (.ref C)) → WL K w' H' → Go H w H' w' → E (.ref C) none H'
noncomputable def spX (K : PySem.W.Frag) (n : Nat) (F : List D → Option Str) : Sp := fun vs H _ E => vs.length = n ∧ ∃ ds w nm, (∀ a o, w a = some o → o = .f) ∧ WL K w H ∧ Reps K H w .f 0 ds vs [] ∧ F ds = some nm ∧
  ∀ C H' w', nsIn K mainGlobals nm = some (some (.ref C)) → WL K w' H' → Go H w H' w' → E (.ref C) none H'
noncomputable def fnX (n : Nat) (x : DenX) : List D → Option Str := fun ds => x (startD n ds)
noncomputable def CalX (P : Program) (w : World) (K : PySem.W.Frag) (mg : Str → Option Value) (base : Heap) (k : Nat) (x : Str) (n : Nat) (F : List D → Option Str) : Prop :=
  ∃ f fd ps, FnOk P w K mg base (CXF P w) k f fd ps (spX K n F) ∧ mg x = some (.ref f) ∧ PySem.W.keepIn K (.ref f) = true ∧ Binds K fd ps []
theorem CalX.mk {P : Program} {w : World} {K : PySem.W.Frag} {mg : Str → Option Value} {base : Heap} {k : Nat} {x : Str} {st : Stmt} {N ps : List Str} {xb : DenX} (a : At K mg x st ps) (S : FnScope N ps (defScope st))
    (h : ∀ (f : Addr) (cdv : Value) (A : Around) (outer : List Env) (s : Shared) (H : Hp) (E : XK), Room k (A.deeper (envOfC x (defScope st) s.heap.objs.size f cdv)) → PSs (cxF P w K mg base N x (defScope st) f cdv A outer s H E) (defBody st) (tX K xb E)) :
    CalX P w K mg base (k + 1) x ps.length (fnX N.length xb) := by
  obtain ⟨f, fd, F, m, b⟩ := a
  refine ⟨f, fd, ps, ?_, m, F.kp, b⟩
  obtain ⟨oc, od, kV, doc, pm, an, cdv, ct, osl, rfl, lk, hcd⟩ := F.ex
  refine fn_of lk hcd S (fun vs H Q E h => h.1) fun A outer s H vs Q E hr hsp => ⟨_, h f cdv A outer s H E hr, ?_⟩
  obtain ⟨hn, ds, w, nm, hw, wl, rs, e, k⟩ := hsp
  exact ⟨_, w, nm, good_start hw wl rs, e, k⟩
end L3
set_option Elab.async false
set_option linter.all false
set_option maxRecDepth 100000
namespace L3
open PySem PySem.Spec PyProof.Rows PySem.W L2
theorem xc_match {M : Model} {A : Around} {E : Value → Shared → Prop} {K : Frag} {s : Shared} {x C R : Addr} {ox : Obj} {Q : Bool → Shared → Prop} (X : K.In s.heap) (I : XAt s.heap x ox C) (hR : XCls K R) (hty : typeIn K (.ref R) = some (.type "type"))
    (hsub : subIn K (.ref C) (.ref R) = some true) (h : Q true s) : wpAny M A (excMatches (.ref x) (.ref R)) Q E s := by
  obtain ⟨h0, g, d, tt, os⟩ := s
  have L0 := I.type (M := M)
  have L1 := looks_typeIn (M := M) X hty
  have L2 := looks_isType (M := M) X hR.ci
  have L3 := looks_mroIn (M := M) X hR.mb
  have L4 := looks_subIn (M := M) X hsub
  have f := tc_notTuple
  have L5 : Looks M h0 (isSubtype (.type "type") (.type "tuple")) false := Looks.of_pure f
  unfold excMatches isInstance isExcClass
  repeat (first | lk | wp_step)
  exact h
section
variable {X : Cx} {pins : List (Addr × Obj)} {σ : St} {H H' : Hp} {s s' : Shared} {a C t : Addr} {B : Heap}
theorem name_goes {M : Model} {A : Around} {E : Value → Shared → Prop} {i : Nat} {x : Str} {pos : Pos} {Q : Unit → Shared → Prop} (I : Inv X pins σ H s) (hN : X.N.Nodup) (hi : X.N[i]? = some x) (hx : X.env.scope.names.lookup x = some .local)
    (h : ∀ s', Inv X pins (σ.set i none) H s' → Q () s') : wpAny M A (do bindName X.env x .none; unbindBehindTheSuite X.env x pos) Q E s := by
  obtain ⟨m, hn, hl⟩ := id I.loc
  have hcls : (X.env.scope.kind == .class || (X.env.scope.kind == .module && X.env.locals != X.env.globals)) = false := by rw [I.ok.kind]; rfl
  have hiσ : i < σ.length := by rw [I.len]; exact (List.getElem?_eq_some_iff.mp hi).1
  have cne := I.cne
  refine wpAny_nameGoes_keeps hx hn hcls fun h' v hn' hs => ?_
  obtain ⟨oL, _, _, hoL, _⟩ := id hn
  have tracked : HOk X.prog X.w H h' := fun b ob e => by
    refine (I.hok b ob e).stay (fun c w' hc q => (hs.2 c ?_).trans q) (fun _ q => q) fun _ _ q => q
    rintro rfl
    rcases hc with rfl | hc
    · rw [I.free] at e; cases e
    · rw [I.free] at hc; cases hc
  refine h _ ⟨I.ok, I.os, I.bare, ⟨fun b o e n hb hx => ?_, fun b o e n hb hx => ?_, I.base.free, fun b o e hx => ?_, I.base.tups, I.base.frzs, I.base.tbls⟩, ⟨_, hn', fun j y v' e1 e2 e3 => ?_⟩, fun y c e => ?_, I.free, I.freeC, fun p hp => ?_, tracked, by simpa using I.len⟩
  · exact (hs.2 b (Nat.ne_of_lt (Nat.lt_of_lt_of_le (Heap.lt_size e) I.ok.above))).trans (I.base.keep b o e n hb hx)
  · obtain ⟨sl, e1⟩ := I.base.slot b o e n hb hx
    exact ⟨sl, (hs.2 b (Nat.ne_of_lt (Nat.lt_of_lt_of_le (Heap.lt_size e) I.ok.above))).trans e1⟩
  · obtain ⟨o', e1⟩ := I.base.there b o e hx
    exact ⟨o', (hs.2 b (Nat.ne_of_lt (Nat.lt_of_lt_of_le (Heap.lt_size e) I.ok.above))).trans e1⟩
  · by_cases hj : j = i
    · subst hj
      rw [List.getElem?_set_self hiσ] at e2
      cases e2
    · rw [List.getElem?_set_ne (Ne.symm hj)] at e2
      obtain ⟨u', r', q⟩ := hl j y v' e1 e2 e3
      refine ⟨u', r', ?_⟩
      rcases q with ⟨k, e⟩ | ⟨k, c, e, z⟩
      · refine .inl ⟨k, ?_⟩
        have : y ≠ x := fun e => hj (nodup_ix hN e1 (e ▸ hi))
        simp [this, e]
      · exact .inr ⟨k, c, e, z.sameBut hs (cne y c e)⟩
  · obtain ⟨w', z⟩ := I.cell y c e
    exact ⟨w', z.sameBut hs (cne y c e)⟩
  · obtain ⟨e, n, ne, nf, d⟩ := I.pin p hp
    exact ⟨(hs.2 p.1 ne).trans e, n, ne, nf, d⟩
noncomputable def excO (a : Addr) (oe : Obj) : HO := .frz oe (.ext fun h => h.get? a = some oe)
theorem Fly.un2 (I : Inv X pins σ H s) (F : Fly X.prog X.w X.stack H s a C t B H' s') {h' : Heap} (fl : Heap.FlyingW B X.stack a (.ref C) (.ref t) h') (up : s'.heap.UpToSlots h') : Un (frs X.stack) [] H H' s.heap h' ∧ HOk X.prog X.w H' h' := by
  have slot : ∀ b o, s.heap.get? b = some o → H b = none → b ∈ frs X.stack → ∃ sl, h'.get? b = some { o with slots := sl } := fun b o q n hb => by
    obtain ⟨sl, q1⟩ := F.un.slot b o q n hb (by simp)
    obtain ⟨_, o', ho, hd⟩ := I.stack.mem hb
    rw [q] at ho; cases ho
    obtain ⟨sl', q2⟩ := up b _ q1 hd
    exact ⟨sl', q2⟩
  refine ⟨⟨fun b o q n hb _ => fl.1 b o (F.old b o q n hb), fun b o q n hb _ => slot b o q n hb, F.un.free, fun b o q _ => ?_, F.un.tups, F.un.frzs, F.un.tbls⟩, hokStay F.hok fun b u o q e => fl.1 b o (F.trk b u o q e)⟩
  by_cases hb : b ∈ frs X.stack
  · obtain ⟨sl, q2⟩ := slot b o q (I.stkFree b hb) hb
    exact ⟨_, q2⟩
  · obtain ⟨o2, q2⟩ := F.oldT b o q hb
    exact ⟨o2, fl.1 b o2 q2⟩
theorem Fly.inv (I : Inv X pins σ H s) (F : Fly X.prog X.w X.stack H s a C t B H' s') {h' : Heap} (fl : Heap.FlyingW B X.stack a (.ref C) (.ref t) h') (up : s'.heap.UpToSlots h') : Inv X pins σ H' { s' with heap := h' } :=
  I.call' (s' := { s' with heap := h' }) F.os (F.un2 I fl up).1 (F.un2 I fl up).2 F.bare (fun b hb => nomatch hb)
theorem Fly.inv2 (I : Inv X pins σ H s) (F : Fly X.prog X.w X.stack H s a C t B H' s') {h' : Heap} (fl : Heap.FlyingW B X.stack a (.ref C) (.ref t) h') (up : s'.heap.UpToSlots h') {oe : Obj} {vs : Array Value} (ho : h'.get? a = some oe) (hd : oe.data = .fields vs) :
    Inv X pins σ (upd H' a (excO a oe)) { s' with heap := h' } := by
  obtain ⟨u, hk⟩ := F.un2 I fl up
  have na : ∀ b x, H' b = some x → upd H' a (excO a oe) b = some x := fun b x q => by
    unfold upd
    rw [if_neg (fun z => by rw [z, F.free] at q; cases q)]
    exact q
  have nfr : a ∉ frs X.stack := fun hb => by
    obtain ⟨_, o', ho', hd'⟩ := fl.2.2.1.mem hb
    rw [ho] at ho'; cases ho'
    exact hd' vs hd
  refine I.call' (s' := { s' with heap := h' }) F.os ⟨u.keep, u.slot, fun b o q n e => ?_, u.there, fun b xs q => na b _ (u.tups b xs q), fun b o' u' q => na b _ (u.frzs b o' u' q), fun b ps q => ?_⟩ (fun b x q => ?_) F.bare (fun b hb => nomatch hb)
  · unfold upd
    rw [if_neg (fun z => ?_)]
    · exact u.free b o q n e
    · subst z
      obtain ⟨o2, q2⟩ := F.oldT b o q nfr
      rw [fl.2.1] at q2; cases q2
  · obtain ⟨m, q1⟩ := u.tbls b ps q
    exact ⟨m, na b _ q1⟩
  · by_cases hb : b = a
    · subst hb
      unfold upd at q
      rw [if_pos rfl] at q
      cases q
      exact ⟨ho, ho, ⟨_, ho⟩, fun h1 h2 q1 q2 => q2 _ q1⟩
    · have q' := q
      unfold upd at q
      rw [if_neg hb] at q
      exact (hk b x q).stay (fun _ _ _ z => z) (fun c z => na c _ z) (fun c xs z => na c _ z)
noncomputable abbrev Cx.mark (X : Cx) (e : Value) : Cx := { X with A := X.A.mark (some e), calm := false, xe := fun _ _ => False }
theorem Inv.mark (I : Inv X pins σ H s) (e : Value) : Inv (Cx.mark X e) pins σ H s :=
  ⟨⟨I.ok.mod, I.ok.kind, I.ok.glob, I.ok.blt, I.ok.above, I.ok.inj, I.ok.has, I.ok.cab, (fun z => by cases z), I.ok.frames, I.ok.stk, I.ok.exf, I.ok.bs, I.ok.bsz, I.ok.noex, I.ok.exfs, I.ok.funs, I.ok.frf⟩, I.os, I.bare, I.base, I.loc, I.cell, I.free, I.freeC, I.pin, I.hok, I.len⟩
theorem Inv.unmark {e : Value} (hX : X.Ok) (I : Inv (Cx.mark X e) pins σ H s) : Inv X pins σ H s := ⟨hX, I.os, I.bare, I.base, I.loc, I.cell, I.free, I.freeC, I.pin, I.hok, I.len⟩
theorem catch_ok {R n kx : Str} {RA : Addr} {np kp vp apos pos : Pos} {ie ik : Nat} {Q : Flow → Shared → Prop} {E : Value → Shared → Prop} (I : Inv X pins σ H s) (F : Fly X.prog X.w X.stack H s a C t B H' s') (hst : X.stack = X.env :: X.outer) (hfm : X.env.frame = some X.env.locals)
    (hN : X.N.Nodup) (hie : X.N[ie]? = some n) (hik : X.N[ik]? = some kx) (hne : X.env.scope.names.lookup n = some .local) (hnk : X.env.scope.names.lookup kx = some .local) (hR : XCls X.K RA) (hRt : typeIn X.K (.ref RA) = some (.type "type")) (hsub : subIn X.K (.ref C) (.ref RA) = some true) (hmg : X.mg R = some (.ref RA)) (hg : Gl X R)
    (hdb : (R == ("__debug__" : Str)) = false) (hdn : (n == ("__debug__" : Str)) = false) (hcn : (n == ("__classdict__" : Str)) = false) (hsw : swapsWith (.Name n vp) (some (.Name kx kp)) apos.line X.env = pure false)
    (hQ : ∀ s5 oe, oe.cls = .ref C → Inv X pins (((σ.set ie (some (.ref a))).set ik (some (.ref a))).set ie none) (upd H' a (excO a oe)) s5 → Q .next s5) :
    wpAny (model X.prog X.w) X.A (noteFrame (.ref a) X.env) (fun _ s₂ => wpAny (model X.prog X.w) X.A (setFlight (.ref a) none) (fun _ s₃ =>
      wpAny (model X.prog X.w) X.A (handleBy (.ref a) X.env [.ExceptHandler (some (.Name R np)) (some n) [.Assign [.Name kx kp] (.Name n vp) apos] pos]) Q E s₃) E s₂) E s' := by
  have hiσ : ie < σ.length := by rw [I.len]; exact (List.getElem?_eq_some_iff.mp hie).1
  have fl0 := F.fl
  have hst' := hst
  rw [hst] at fl0
  refine wpAny_looks_onW (L := X.env.locals) (outer := X.outer) (by rw [← hst]; exact I.ok.frames) hfm fl0 fun h₄ hheld₄ up₄ => ?_
  refine wpAny_landsW hheld₄ fun h₅ fl₅ up₅ => ?_
  have fl₅' := fl₅
  rw [← hst] at fl₅'
  have I5 := F.inv I fl₅' (up₄.trans up₅)
  obtain ⟨ob, hob, hobc⟩ := fl₅'.there
  have J5 := Inv.mark I5 (.ref a)
  refine wpAny_handleBy_cons (codeAny_handlers_test (ld_glob (X := Cx.mark X (.ref a)) J5 hg hmg ?_ hdb)) (by intro q; cases q)
  refine xc_match J5.kIn ⟨hob, hobc⟩ hR hRt hsub ?_
  refine codeAny_handlers_suite_as ?_
  refine lands_againW fl₅ fun h₆ fl₆ up₆ => ?_
  have fl₆' := fl₆
  rw [← hst] at fl₆'
  obtain ⟨oe, ws, hoe, hoec, hoed, hoe0⟩ := fl₆'.first
  have I6 := F.inv2 I fl₆' ((up₄.trans up₅).trans up₆) hoe hoed
  refine store_ok (v := .ref a) I6 hN hie (.inl hne) rfl (fun s7 I7 => ?_) (.inr hne)
  have J7 := Inv.mark I7 (.ref a)
  have body := pss_one (ps_set (X := Cx.mark X (.ref a)) (i := ik) (x := kx) (pos := apos) (pos' := kp) hN hik (.inl hnk) (pv (X := Cx.mark X (.ref a)) ie (x := n) (pos := vp) hie (.inl hne) hdn hcn) hsw (.inr hnk))
  refine wpAny_mono (body pins s7 _ _ { nx := fun σ' H1 => σ' = (σ.set ie (some (.ref a))).set ik (some (.ref a)) ∧ H1 = upd H' a (excO a oe), rt := fun _ _ => False } J7 ⟨.ref a, List.getElem?_set_self hiσ, rfl, rfl⟩) (fun fl s8 q => ?_) (fun _ _ z => False.elim z)
  cases fl with
  | next =>
    obtain ⟨σ8, H8, J8, rfl, rfl⟩ := q
    exact name_goes (Inv.unmark I.ok J8) hN hie hne fun s9 I9 => hQ s9 oe hoec I9
  | brk => obtain ⟨_, _, _, z⟩ := q; exact z.elim
  | cont => obtain ⟨_, _, _, z⟩ := q; exact z.elim
  | ret u => obtain ⟨_, _, _, _, _, z⟩ := q; exact z.elim
end
end L3
set_option Elab.async false
set_option linter.all false
set_option maxRecDepth 100000
namespace L3
open PySem PySem.Spec PyProof.Rows PySem.W L2
theorem Good.unset {K : PySem.W.Frag} {ρ : Rho} {σ : St} {H : Hp} {w : Wn} {t i : Nat} {v : Option V} (g : Good K ρ σ H w t) (hi : i < σ.length) :
    Good K (ρ.set i none) (σ.set i v) H (giveS i w) t ∧ Go H w H (giveS i w) := by
  have st : Stab H w H (giveS i w) := fun a x h n => ⟨sm h, giveS_none n⟩
  refine ⟨⟨⟨fun a o h => g.wl a o (giveS_some h).1, g.wl.tb⟩, fun a j h => by rw [List.length_set]; exact g.ws a j (giveS_some h).1, fun a j h => g.wt a j (giveS_some h).1, by rw [List.length_set, List.length_set]; exact g.len, fun j d' q' e' => ?_⟩, ⟨st, fun a o h n => ⟨rfl, giveS_ne h (n i)⟩⟩⟩
  by_cases hj : i = j
  · subst hj
    rw [List.getElem?_set_self (by rw [g.len]; exact hi)] at e'
    cases e'
  · rw [List.getElem?_set_ne hj] at e'
    obtain ⟨v', F, h1, h2⟩ := g.slot j d' q' e'
    exact ⟨v', F, by rw [List.getElem?_set_ne hj]; exact h1, Rep.go g.wl st h2 fun a m => ⟨rfl, giveS_ne (h2.owns a m) (fun z => hj (by cases z; rfl))⟩⟩
theorem Good.grow {K : PySem.W.Frag} {ρ : Rho} {σ : St} {H H' : Hp} {w : Wn} {t : Nat} (g : Good K ρ σ H w t) (h : ∀ b o, H b = some o → Sm o (H' b)) (tb : TB K H') : Good K ρ σ H' w t ∧ Go H w H' w := by
  have st : Stab H w H' w := fun a x e n => ⟨h a x e, n⟩
  have kp : ∀ a o, w a = some o → H' a = H a := fun a o e => by
    obtain ⟨vs, q⟩ := g.wl a o e
    rw [q, (h a _ q).eq rfl]
  refine ⟨⟨⟨fun a o e => ?_, tb⟩, g.ws, g.wt, g.len, fun i d q e => ?_⟩, st, fun a o e _ => ⟨kp a o e, e⟩⟩
  · obtain ⟨vs, q⟩ := g.wl a o e
    exact ⟨vs, (h a _ q).eq rfl⟩
  · obtain ⟨v, F, h1, h2⟩ := g.slot i d q e
    exact ⟨v, F, h1, Rep.go g.wl st h2 fun a m => ⟨kp a _ (h2.owns a m), h2.owns a m⟩⟩
noncomputable def Under (K : Frag) (mg : Str → Option Value) (R : Str) (L : List Str) : Prop := ∃ RA, XCls K RA ∧ typeIn K (.ref RA) = some (.type "type") ∧ mg R = some (.ref RA) ∧
  ∀ nm ∈ L, ∀ C, nsIn K mainGlobals nm = some (some (.ref C)) → XKls K nm C ∧ subIn K (.ref C) (.ref RA) = some true
end L3
set_option Elab.async false
set_option linter.all false
set_option maxRecDepth 100000
namespace L3
open PySem PySem.Spec PyProof.Rows PySem.W L2 PySem.SeqAt
noncomputable def IsC (K : Frag) (mg : Str → Option Value) (L : List Str) (nm : Str) : Prop := ∃ C, mg nm = some (.ref C) ∧ ∀ n ∈ L, ∀ B, nsIn K mainGlobals n = some (some (.ref B)) → (n = nm → isIn K (.ref B) C = true) ∧ (n ≠ nm → kin_not K B C = true)
section
variable {X : Cx} {a b c e : Expr} {es : List Expr} {fa fb fc f : Den} {ga gb : DenT} {g : DenA} {pos p p1 p2 pT cpos apos : Pos}
theorem call_isC {C : Addr} {L : List Str} {nm : Str} (h : ∀ n ∈ L, ∀ B, nsIn X.K mainGlobals n = some (some (.ref B)) → (n = nm → isIn X.K (.ref B) C = true) ∧ (n ≠ nm → kin_not X.K B C = true)) :
    CallR X (.builtin "isinstance") (fun xs H Q => ∃ x w o q F n, xs = [x, .ref C] ∧ n ∈ L ∧ Rep X.K H w o q (.exc n) x F ∧ Q (.bl (n == nm)) H) := by
  intro pins s σ H xs us Q I r hh
  obtain ⟨x, w, o, q, F, n, rfl, hn, rd, hq⟩ := hh
  obtain ⟨u, v, rfl, ru, rv⟩ := vals2 r
  cases rv
  cases rd with
  | exc ha xo _ =>
    obtain ⟨B, hc, k⟩ := xo
    cases ru
    obtain ⟨e1, _⟩ := (show ObjOk X.prog X.w H s.heap _ (.frz _ _) from I.hok _ _ ha)
    obtain ⟨h1, h2⟩ := h n hn B k.ns
    by_cases z : n = nm
    · rw [beq_iff_eq.mpr z] at hq
      exact xc_yes I.kIn ⟨e1, hc⟩ (h1 z) ⟨.bl true, H, I, rfl, hq⟩
    · rw [beq_eq_false_iff_ne.mpr z] at hq
      exact xc_no I.kIn ⟨e1, hc⟩ k.xc (h2 z) ⟨.bl false, H, I.tok _, rfl, hq⟩
noncomputable def eIsC (L : List Str) (nm : Str) (fa : Den) : Den := fun ρ => match fa ρ with
  | some (.exc n, _, ρ1) => if n ∈ L then some (.bl (n == nm), 9, ρ1) else none
  | _ => none
theorem pd_isC {L : List Str} {nm : Str} (hC : IsC X.K X.mg L nm) (hm : X.mg "isinstance" = none) (ha : PD X a fa) (hg : Gl X "isinstance" := by rfl) (hgT : Gl X nm := by rfl) (hdT : (nm == ("__debug__" : Str)) = false := by decide)
    (hs : starEach [a, .Name nm pT] X.env = (false, eval a X.env) :: starEach [.Name nm pT] X.env := by rfl) (hpl : (backTo pos (starEach [.Name nm pT] X.env)).any (·.1) = false := by rfl) : PD X (.Call (.Name "isinstance" p) [a, .Name nm pT] [] pos) (eIsC L nm fa) := by
  obtain ⟨C, hmC, hall⟩ := hC
  refine PE.imp (pe_callB (call_isC hall) hg hm PyProof.Rows.boot_isinstance (pa_cons ha (pa_cons (pe_glob (v := .ref C) hgT hmC rfl hdT) pa_nil se_Name) hs) (by decide) (by decide) hs hpl) fun σ H Q hh0 => ?_
  obtain ⟨ρ, w, t, r', q, ρ', gd, ee, k⟩ := hh0
  unfold eIsC at ee
  split at ee
  · rename_i n q1 ρ1 h1
    split at ee
    · rename_i hL
      cases ee
      refine ⟨ρ, w, t, _, _, _, gd, h1, fun v H1 w1 F1 g1 go1 r1 => ?_⟩
      exact ⟨v, w1, _, _, F1, n, rfl, hL, r1, k _ H1 (dropT t w1) [] g1.drop.up (go1.drop gd.wt) (.bl _)⟩
    · cases ee
  · cases ee
theorem call_isV : CallR X (.builtin "isinstance") (fun xs H Q => ∃ x w o q F n, xs = [x, .ty "ValueError"] ∧ Rep X.K H w o q (.exc n) x F ∧ Q (.bl true) H) := by
  intro pins s σ H xs us Q I r hh
  obtain ⟨x, w, o, q, F, n, rfl, rd, hq⟩ := hh
  obtain ⟨u, v, rfl, ru, rv⟩ := vals2 r
  cases rv
  cases rd with
  | exc ha xo _ =>
    obtain ⟨B, hc, k⟩ := xo
    cases ru
    obtain ⟨e1, _⟩ := (show ObjOk X.prog X.w H s.heap _ (.frz _ _) from I.hok _ _ ha)
    exact xc_yesT I.kIn ⟨e1, hc⟩ (by kernel_rfl) k.ve ⟨.bl true, H, I, rfl, hq⟩
noncomputable def eIsV (fa : Den) : Den := fun ρ => match fa ρ with
  | some (.exc n, _, ρ1) => some (.bl true, 9, ρ1)
  | _ => none
theorem pd_isV (hm : X.mg "isinstance" = none) (hmT : X.mg "ValueError" = none) (ha : PD X a fa) (hg : Gl X "isinstance" := by rfl) (hgT : Gl X "ValueError" := by rfl)
    (hs : starEach [a, .Name "ValueError" pT] X.env = (false, eval a X.env) :: starEach [.Name "ValueError" pT] X.env := by rfl) (hpl : (backTo pos (starEach [.Name "ValueError" pT] X.env)).any (·.1) = false := by rfl) : PD X (.Call (.Name "isinstance" p) [a, .Name "ValueError" pT] [] pos) (eIsV fa) := by
  refine PE.imp (pe_callB call_isV hg hm PyProof.Rows.boot_isinstance (pa_cons ha (pa_cons (pe_bltn (v := .ty "ValueError") hgT hmT (by kernel_rfl) rfl (by decide) (by decide)) pa_nil se_Name) hs) (by decide) (by decide) hs hpl) fun σ H Q hh0 => ?_
  obtain ⟨ρ, w, t, r', q, ρ', gd, ee, k⟩ := hh0
  unfold eIsV at ee
  split at ee
  · rename_i n q1 ρ1 h1
    cases ee
    refine ⟨ρ, w, t, _, _, _, gd, h1, fun v H1 w1 F1 g1 go1 r1 => ?_⟩
    exact ⟨v, w1, _, _, F1, n, rfl, r1, k _ H1 (dropT t w1) [] g1.drop.up (go1.drop gd.wt) (.bl _)⟩
  · cases ee
noncomputable def dIsN : D → D → Option D
  | .non, .non => some (.bl true)
  | .exc _, .non => some (.bl false)
  | .int _, .non => some (.bl false)
  | .tup _, .non => some (.bl false)
  | .str _, .non => some (.bl false)
  | _, _ => none
noncomputable def rIsN : R2 := fun x y H Q => y = .non ∧ ((x = .non ∧ Q (.bl true) H) ∨ ((∃ i, x = .int i) ∨ (∃ i, x = .str i) ∨ (∃ i, x = .ref i)) ∧ Q (.bl false) H)
theorem op_isN : OpR X (compareOp .Is) rIsN := by
  intro pins s σ H x y v u Q I rx ry h
  obtain ⟨rfl, h⟩ := h
  cases ry
  rcases h with ⟨rfl, q⟩ | ⟨⟨i, rfl⟩ | ⟨i, rfl⟩ | ⟨i, rfl⟩, q⟩
  · cases rx
    exact wpAny_pure ⟨.bl true, H, I, rfl, q⟩
  · obtain ⟨t, rfl⟩ := rx
    exact wpAny_pure ⟨.bl false, H, I, rfl, q⟩
  · obtain ⟨t, rfl⟩ := rx
    exact wpAny_pure ⟨.bl false, H, I, rfl, q⟩
  · cases rx
    exact wpAny_pure ⟨.bl false, H, I, rfl, q⟩
theorem hIsN {K : PySem.W.Frag} : ∀ σ H Q, tD K (e2 dIsN fa fb) σ H Q → tOp rIsN (tD K fa) (tD K fb) σ H Q := tOp_of fun x y d h => by
  unfold dIsN at h
  split at h
  · cases h
    exact ⟨_, rfl, fun H w o o' q q' u u' F F' r1 r2 _ Q hq => by cases r1; cases r2; exact ⟨rfl, .inl ⟨rfl, hq⟩⟩⟩
  · cases h
    exact ⟨_, rfl, fun H w o o' q q' u u' F F' r1 r2 _ Q hq => by cases r1; cases r2; exact ⟨rfl, .inr ⟨.inr (.inr ⟨_, rfl⟩), hq⟩⟩⟩
  · cases h
    exact ⟨_, rfl, fun H w o o' q q' u u' F F' r1 r2 _ Q hq => by cases r1; cases r2; exact ⟨rfl, .inr ⟨.inl ⟨_, rfl⟩, hq⟩⟩⟩
  · cases h
    exact ⟨_, rfl, fun H w o o' q q' u u' F F' r1 r2 _ Q hq => by cases r1; cases r2; exact ⟨rfl, .inr ⟨.inr (.inr ⟨_, rfl⟩), hq⟩⟩⟩
  · cases h
    exact ⟨_, rfl, fun H w o o' q q' u u' F F' r1 r2 _ Q hq => by cases r1; cases r2; exact ⟨rfl, .inr ⟨.inr (.inl ⟨_, rfl⟩), hq⟩⟩⟩
  · cases h
theorem pdt_isN (ha : PD X a fa) (hb : PD X b fb) : PDT X (.Compare a [.Is] [b] pos) (tOfB (e2 dIsN fa fb)) := pdt_cmp op_isN hIsN ha hb (nomark _)
end
end L3
set_option Elab.async false
set_option linter.all false
set_option maxRecDepth 100000
namespace L3
open PySem PySem.Spec PyProof.Rows L2
end L3
set_option Elab.async false
set_option linter.all false
set_option maxRecDepth 100000
namespace L3
open PySem PySem.Spec PyProof.Rows PySem.W L2
noncomputable def xNone : DenX := fun _ => none
noncomputable def xOr (x y : DenX) : DenX := fun ρ => match x ρ with
  | some nm => some nm
  | none => y ρ
noncomputable def xSeq (f : DenS) (x : DenX) : DenX := fun ρ => match f ρ with
  | some (.nx ρ1) => x ρ1
  | _ => none
noncomputable def xIte (g : DenT) (x y : DenX) : DenX := fun ρ => match g ρ with
  | some (b, ρ1) => if b = true then x ρ1 else y ρ1
  | none => none
noncomputable def xRaise (nm : Str) : DenX := fun _ => some nm
noncomputable def forX (pt : DenP) (s : DenS) (xb : DenX) : List D → Rho → Option Str
  | [], _ => none
  | d :: ds, ρ => match pt d ρ with
    | none => none
    | some ρ1 => match xb ρ1 with
      | some nm => some nm
      | none => match s ρ1 with
        | some (.nx ρ2) => forX pt s xb ds ρ2
        | some (.ct ρ2) => forX pt s xb ds ρ2
        | _ => none
noncomputable def xFor (it : DenI) (pt : DenP) (s : DenS) (xb : DenX) : DenX := fun ρ => match it ρ with
  | some (ds, ρ1) => forX pt s xb ds ρ1
  | none => none
noncomputable abbrev PXS (X : Cx) (E : XK) (st : Stmt) (x : DenX) : Prop := PS X st (tX X.K x E)
noncomputable abbrev PXB (X : Cx) (E : XK) (ss : List Stmt) (x : DenX) : Prop := PSs X ss (tX X.K x E)
section
variable {X : Cx} {E : XK} {st : Stmt} {ss rest a b : List Stmt} {x y : DenX} {f : DenS} {g : DenT} {c e : Expr} {es : List Expr} {pos pos' p : Pos}
theorem pxb_none : PXB X E ss xNone := fun _ _ _ _ _ _ h => by
  obtain ⟨_, _, _, _, e, _⟩ := h
  cases e
theorem pxb_or (hx : PXB X E ss x) (hy : PXB X E ss y) : PXB X E ss (xOr x y) := fun pins s σ H D I h => by
  obtain ⟨ρ, w, nm, g, e, k⟩ := h
  unfold xOr at e
  split at e
  · rename_i nm' h1
    cases e
    exact hx pins s σ H D I ⟨ρ, w, _, g, h1, k⟩
  · exact hy pins s σ H D I ⟨ρ, w, nm, g, e, k⟩
theorem pxb_seq (h1 : PDS X st f) (h2 : PXB X E rest x) : PXB X E (st :: rest) (xSeq f x) := PSs.imp (pss_cons h1 h2) fun D σ H hh0 => by
  obtain ⟨ρ, w, nm, g, e, k⟩ := hh0
  unfold xSeq at e
  split at e
  · rename_i ρ1 h1
    exact ⟨ρ, w, .nx ρ1, g, h1, fun σ' H' w' hl g' go' => ⟨ρ1, w', nm, g', e, fun C H2 w2 n wl go2 => k C H2 w2 n wl (go'.trans go2)⟩⟩
  · cases e
theorem pxb_first (h : PXS X E st x) : PXB X E (st :: rest) x := by
  intro pins s σ H D I hh
  refine wpAny_execs_cons (thn (h pins s σ H { nx := fun _ _ => False, rt := fun _ _ => False } I hh) fun fl s1 q => ?_)
  cases fl with
  | next => obtain ⟨_, _, _, z⟩ := q; exact z.elim
  | brk => obtain ⟨_, _, _, z⟩ := q; exact z.elim
  | cont => obtain ⟨_, _, _, z⟩ := q; exact z.elim
  | ret u => obtain ⟨_, _, _, _, _, z⟩ := q; exact z.elim
theorem pxs_ite (hc : PDT X c g) (ha : PXB X E a x) (hb : PXB X E b y) : PXS X E (.If c a b pos) (xIte g x y) := PS.imp (ps_if hc ha hb) fun D σ H hh0 => by
  obtain ⟨ρ, w, nm, gd, e, k⟩ := hh0
  unfold xIte at e
  split at e
  · rename_i b' ρ1 h1
    refine ⟨ρ, w, 0, b', ρ1, gd, h1, fun H1 w1 g1 go1 => ?_⟩
    cases b' with
    | true => exact ⟨ρ1, w1, nm, g1, e, fun C H2 w2 n wl go2 => k C H2 w2 n wl (go1.trans go2)⟩
    | false => exact ⟨ρ1, w1, nm, g1, e, fun C H2 w2 n wl go2 => k C H2 w2 n wl (go1.trans go2)⟩
  · cases e
theorem pxs_for {tg iter : Expr} {it : DenI} {pt : DenP} {body : List Stmt} {s : DenS} {xb : DenX} (hp : PassesOwn (model X.prog X.w) X.A X.env X.xe) (hc : X.calm = true) (hi : PDI X tg iter it) (hg : PDG X 0 tg pt) (hb : PDSs X body s) (hx : PXB X E body xb)
    (hs : ∀ x, foldedSetIterable iter X.env x = pure x := by intro _; rfl) : PXS X E (.For tg iter body [] pos) (xFor it pt s xb) := by
  have hb' : PSs X body (fun D σ H => tDS X.K s D σ H ∨ tX X.K xb E D σ H) := fun pins s σ H D I h => h.elim (fun z => hb pins s σ H D I z) fun z => hx pins s σ H D I z
  refine PS.imp (ps_for hp hc hi hg hb' hs) fun D σ H hh0 => ?_
  obtain ⟨ρ, w, nm, g, ee, k⟩ := hh0
  unfold xFor at ee
  split at ee
  · rename_i ds ρ1 h1
    refine ⟨ρ, w, 0, ds, ρ1, g, h1, fun J P H1 w1 g1 go1 ok p1 hl => ?_⟩
    refine ⟨fun i m σ' H' => m = ds.length - i ∧ i ≤ ds.length ∧ σ'.length = σ.length ∧ ∃ ρ' w', Good X.K ρ' σ' H' w' 0 ∧ P H' w' ∧ forX pt s xb (ds.drop i) ρ' = some nm ∧ ∀ C H2 w2, nsIn X.K mainGlobals nm = some (some (.ref C)) → WL X.K w2 H2 → Go H' w' H2 w2 → E (.ref C) none H2,
      ⟨ds.length, by simp, Nat.zero_le _, rfl, ρ1, w1, g1, p1, ee, fun C H2 w2 n wl go2 => k C H2 w2 n wl (go1.trans go2)⟩, ?_⟩
    rintro i m σ' H' ⟨rfl, hile, hσ, ρ', w', g', p', e', k'⟩
    by_cases hlt : i < ds.length
    · refine .inr ⟨ok.go i H' w' p' hlt, fun σ2 H2 => ds.length - (i + 1) = ds.length - (i + 1) ∧ i + 1 ≤ ds.length ∧ σ2.length = σ.length ∧ ∃ ρ2 w2, Good X.K ρ2 σ2 H2 w2 0 ∧ P H2 w2 ∧ forX pt s xb (ds.drop (i + 1)) ρ2 = some nm ∧ ∀ C H3 w3, nsIn X.K mainGlobals nm = some (some (.ref C)) → WL X.K w3 H3 → Go H2 w2 H3 w3 → E (.ref C) none H3,
        fun σ2 H2 n2 => ⟨ds.length - (i + 1), by omega, n2⟩, fun x H2 hy => ?_⟩
      obtain ⟨mo, rx, p2⟩ := ok.yld i H' w' x H2 ds[i] p' g'.wl (List.getElem?_eq_getElem hlt) hy
      obtain ⟨g2, go2⟩ := g'.more mo
      have ed : ds.drop i = ds[i] :: ds.drop (i + 1) := List.drop_eq_getElem_cons hlt
      rw [ed] at e'
      unfold forX at e'
      split at e'
      · cases e'
      · rename_i ρ3 h3
        refine ⟨ds[i], ρ', w', 0, ρ3, g2, rx, h3, fun σ4 H4 w4 l4 _ g4 go4 => ?_⟩
        have p4 := ok.st _ _ _ _ p2 g2.wl go4.stab
        split at e'
        · rename_i nm' h5
          cases e'
          exact .inr ⟨ρ3, w4, _, g4, h5, fun C H5 w5 n wl go5 => k' C H5 w5 n wl ((go2.trans go4).trans go5)⟩
        · refine .inl ?_
          have nx : ∀ {ρ5 : Rho}, forX pt s xb (ds.drop (i + 1)) ρ5 = some nm → ∀ σ5 H5 w5, σ5.length = σ4.length → Good X.K ρ5 σ5 H5 w5 0 → Go H4 w4 H5 w5 → ds.length - (i + 1) = ds.length - (i + 1) ∧ i + 1 ≤ ds.length ∧ σ5.length = σ.length ∧ ∃ ρ2 w2, Good X.K ρ2 σ5 H5 w2 0 ∧ P H5 w2 ∧ forX pt s xb (ds.drop (i + 1)) ρ2 = some nm ∧ ∀ C H3 w3, nsIn X.K mainGlobals nm = some (some (.ref C)) → WL X.K w3 H3 → Go H5 w2 H3 w3 → E (.ref C) none H3 := fun {ρ5} e5 σ5 H5 w5 l5 g5 go5 =>
            ⟨rfl, hlt, by rw [l5, l4, hσ], ρ5, w5, g5, ok.st _ _ _ _ p4 g4.wl go5.stab, e5, fun C H6 w6 n wl go6 => k' C H6 w6 n wl (((go2.trans go4).trans go5).trans go6)⟩
          split at e'
          · rename_i ρ5 h6
            exact ⟨ρ3, w4, .nx ρ5, g4, h6, nx e'⟩
          · rename_i ρ5 h6
            exact ⟨ρ3, w4, .ct ρ5, g4, h6, nx e'⟩
          · cases e'
    · have hi' : i = ds.length := Nat.le_antisymm hile (Nat.not_lt.mp hlt)
      subst hi'
      have ed : ds.drop ds.length = [] := by simp
      rw [ed] at e'
      cases e'
  · cases ee
end
section
variable {P : Program} {w : World} {K : PySem.W.Frag} {mg : Str → Option Value} {base : Heap} {N : List Str} {qual : Str} {scope : Scope} {f : Addr} {cd : Value} {A : Around} {outer : List Env} {s₀ : Shared} {H₀ : Hp} {E : XK}
theorem pxs_raise {nm txt : Str} {k j : Nat} {np cpos tpos pos : Pos} (hr : Room k (A.deeper (envOfC qual scope s₀.heap.objs.size f cd))) (hC : ∃ C, XNm K mg nm C) (hg : Gl (cxF P w K mg base N qual scope f cd A outer s₀ H₀ E) nm := by rfl) (hdb : (nm == ("__debug__" : Str)) = false := by decide) :
    PXS (cxF P w K mg base N qual scope f cd A outer s₀ H₀ E) E (.Raise (some (.Call (.Name nm np) [.Constant (.str txt) j tpos] [] cpos)) none pos) (xRaise nm) := by
  obtain ⟨C, hC⟩ := hC
  refine PS.imp (ps_raise hr.hd hC hg hdb) fun D σ H hh0 => ?_
  obtain ⟨ρ, w', nm', g, e, k⟩ := hh0
  cases e
  exact k C H w' hC.ns g.wl Go.refl
end
end L3
set_option Elab.async false
set_option linter.all false
set_option maxRecDepth 100000
namespace L3
open PySem PySem.Spec PyProof.Rows PySem.W L2
noncomputable abbrev DenY := Rho → Option (Str × Rho)
noncomputable def CE (Y : Cx) (pins : List (Addr × Obj)) (σ : St) (H : Hp) (w : Wn) (nm : Str) (ρ1 : Rho) (ev : Value) (s' : Shared) : Prop :=
  ∃ s1 H1 w1 a C t B H', ev = .ref a ∧ Inv Y.nox pins σ H1 s1 ∧ Good Y.K ρ1 σ H1 w1 0 ∧ Go H w H1 w1 ∧ Fly Y.prog Y.w Y.stack H1 s1 a C t B H' s' ∧ nsIn Y.K mainGlobals nm = some (some (.ref C)) ∧ (∀ b o, H1 b = some o → Sm o (H' b)) ∧ TB Y.K H'
noncomputable def PTS (Y : Cx) (st : Stmt) (y : DenY) : Prop := ∀ (pins : List (Addr × Obj)) (s : Shared) (σ : St) (H : Hp) (ρ : Rho) (w : Wn) (nm : Str) (ρ1 : Rho), Inv Y.nox pins σ H s → Good Y.K ρ σ H w 0 → y ρ = some (nm, ρ1) →
  wpAny (model Y.prog Y.w) Y.A (exec st Y.env) (fun _ _ => False) (CE Y pins σ H w nm ρ1) s
noncomputable def PTB (Y : Cx) (ss : List Stmt) (y : DenY) : Prop := ∀ (pins : List (Addr × Obj)) (s : Shared) (σ : St) (H : Hp) (ρ : Rho) (w : Wn) (nm : Str) (ρ1 : Rho), Inv Y.nox pins σ H s → Good Y.K ρ σ H w 0 → y ρ = some (nm, ρ1) →
  wpAny (model Y.prog Y.w) Y.A (execs ss Y.env) (fun _ _ => False) (CE Y pins σ H w nm ρ1) s
noncomputable def yCall (Fx : List D → Option Str) (n : Nat) (g : DenA) : DenY := fun ρ => match g ρ with
  | some (ds, ρ1) => if ds.length = n then (Fx ds).map fun nm => (nm, ρ1) else none
  | none => none
noncomputable def sTryG (L : List Str) (f : DenS) (y : DenY) (ie ik : Nat) : DenS := fun ρ => match y ρ with
  | some (nm, ρ1) => if nm ∈ L then some (.nx (((ρ1.set ie (some (.exc nm, 9))).set ik (some (.exc nm, 9))).set ie none)) else none
  | none => f ρ
section
variable {Y : Cx} {c e : Expr} {es : List Expr} {g : DenA} {gt : DenT} {x y : DenY} {a b ss : List Stmt} {st : Stmt} {pos : Pos}
theorem ptb_one (h : PTS Y st y) : PTB Y [st] y := fun pins s σ H ρ w nm ρ1 I gd e =>
  wpAny_execs_cons (thn (h pins s σ H ρ w nm ρ1 I gd e) fun _ _ z => z.elim)
theorem pts_call {z u : Str} {Fx : List D → Option Str} {j k n : Nat} {yp fp cpos spos : Pos} (CX : CalX Y.prog Y.w Y.K Y.mg Y.base k z n Fx) (hr : Room j Y.A) (hk : k ≤ j) (ha : PDA Y.nox (e :: es) g)
    (hgx : Gl Y z := by rfl) (hdx : (z == ("__debug__" : Str)) = false := by decide) (hsc : swapsWith (.Call (.Name z fp) (e :: es) [] cpos) (some (.Name u yp)) spos.line Y.env = pure false := by rfl)
    (he : starEach (e :: es) Y.env = (false, eval e Y.env) :: starEach es Y.env := by rfl) (hpl : (backTo cpos (starEach es Y.env)).any (·.1) = false := by rfl) :
    PTS Y (.Assign [.Name u yp] (.Call (.Name z fp) (e :: es) [] cpos) spos) (yCall Fx n g) := by
  intro pins s σ H ρ w nm ρ1 I gd ee
  unfold yCall at ee
  split at ee
  · rename_i ds ρ2 h1
    split at ee
    · rename_i hn
      obtain ⟨nm', hx, e0⟩ := Option.map_eq_some_iff.mp ee
      cases e0
      obtain ⟨fn, fd, ps, G, hm, hkp, hb⟩ := CX
      refine wpAny_Assign_Name ?_ hsc
      refine wpAny_Call_Name_kw (ld_glob (X := Y.nox) I hgx hm ?_ hdx)
      refine PySem.W.callWith_K (h₀ := Y.base) I.ok.mod.kin hkp (wpAny_mono (ha cpos pins s σ H (fun vs H1 => ∃ w1, Good Y.K ρ1 σ H1 w1 0 ∧ Go H w H1 w1 ∧ Reps Y.K H1 w1 .f 0 ds vs []) I ⟨ρ, w, 0, ds, ρ1, gd, h1, fun vs H1 w1 g1 go1 r1 => ⟨w1, g1, go1, r1⟩⟩) (fun us s1 hh1 => ?_) (fun _ _ z => False.elim z)) he hpl
      obtain ⟨vs, H1, I1, rv, w1, g1, go1, r1⟩ := hh1
      refine ⟨I1.kIn, ?_⟩
      have hsp : spX Y.K n Fx vs H1 (fun _ _ => False) (fun c _ H' => ∃ C, c = .ref C ∧ nsIn Y.K mainGlobals nm = some (some (.ref C)) ∧ (∀ b o, H1 b = some o → Sm o (H' b)) ∧ TB Y.K H') := by
        refine ⟨by rw [← r1.length]; exact hn, ds, fun a => (w1 a).map fun _ => Ow.f, nm, fun a o e => ?_, ⟨fun a o e => ?_, g1.wl.tb⟩, ?_, hx, fun C H2 w2 hns wl2 go2 => ⟨C, rfl, hns, fun b o e => ?_, wl2.tb⟩⟩
        · try dsimp only at e
          cases ew : w1 a with
          | none => rw [ew] at e; cases e
          | some o' => rw [ew] at e; cases e; rfl
        · try dsimp only at e
          cases ew : w1 a with
          | none => rw [ew] at e; cases e
          | some o' => exact g1.wl a o' ew
        · exact Reps.freeze (fun a n => by show (w1 a).map _ = _; rw [n]; rfl) r1 (fun _ z => nomatch z)
        · cases ew : w1 b with
          | none => exact (go2.stab b o e (by show (w1 b).map _ = _; rw [ew]; rfl)).1
          | some o' => exact sm (((go2.keep b .f (by show (w1 b).map _ = _; rw [ew]; rfl) (fun i z => nomatch z)).1).trans e)
      have hl : us.length = ps.length := by rw [← rv.length]; exact G.len _ _ _ _ hsp
      have hbb := hb s1 us I1.kIn (by rw [List.append_nil]; exact hl)
      rw [List.append_nil] at hbb
      refine wpAny_call (codeAny_mono (G.run Y.A Y.stack s1 H1 ⟨us, []⟩ us vs _ _ (hr.mono hk) I1.env0 hbb rv hsp) fun r s' hq => ?_)
      cases r with
      | ok fl =>
        cases fl with
        | ret u => obtain ⟨_, _, _, z⟩ := I1.after hq; exact z.2.elim
        | next => exact False.elim hq
        | brk => exact False.elim hq
        | cont => exact False.elim hq
      | error ev =>
        obtain ⟨a, C, t, B, H', rfl, F', C', eC, hns, hext, tb'⟩ := hq
        cases eC
        exact ⟨s1, H1, w1, a, C, t, B, H', rfl, I1, g1, go1, F', hns, hext, tb'⟩
    · cases ee
  · cases ee
theorem pds_tryG {R nn kx : Str} {L : List Str} {f : DenS} {ie ik : Nat} {np kp vp apos hpos : Pos} (hU : Under Y.K Y.mg R L) (hf : PDSs Y.nox ss f) (hx : PTB Y ss y) (hN : Y.N.Nodup) (hie : Y.N[ie]? = some nn) (hik : Y.N[ik]? = some kx) (hst : Y.stack = Y.env :: Y.outer := by rfl) (hfm : Y.env.frame = some Y.env.locals := by rfl)
    (hne : Y.env.scope.names.lookup nn = some .local := by rfl) (hnk : Y.env.scope.names.lookup kx = some .local := by rfl) (hg : Gl Y R := by rfl)
    (hdb : (R == ("__debug__" : Str)) = false := by decide) (hdn : (nn == ("__debug__" : Str)) = false := by decide) (hcn : (nn == ("__classdict__" : Str)) = false := by decide) (hsw : swapsWith (.Name nn vp) (some (.Name kx kp)) apos.line Y.env = pure false := by rfl) :
    PDS Y.nox (.Try ss [.ExceptHandler (some (.Name R np)) (some nn) [.Assign [.Name kx kp] (.Name nn vp) apos] hpos] [] [] pos) (sTryG L f y ie ik) := by
  intro pins s σ H Dn I hh
  obtain ⟨ρ, w, o, gd, ee, K'⟩ := hh
  unfold sTryG at ee
  refine wpAny_Try_except ?_
  split at ee
  · rename_i nm ρ1 h1
    split at ee
    · rename_i hL
      cases ee
      obtain ⟨RA, hR, hRt, hmg, hall⟩ := hU
      refine wpAny_mono (hx pins s σ H ρ w nm ρ1 I gd h1) (fun _ _ z => z.elim) fun ev s' q => ?_
      obtain ⟨s1, H1, w1, a, C, t, B, H', rfl, I1, g1, go1, F', hns, hext, tb'⟩ := q
      obtain ⟨hXk, hsub⟩ := hall nm hL C hns
      refine catch_ok (X := Y.nox) I1 F' hst hfm hN hie hik hne hnk hR hRt hsub hmg hg hdb hdn hcn hsw fun s5 oe hoc I5 => ?_
      have hσe : ie < σ.length := by rw [I.len]; exact (List.getElem?_eq_some_iff.mp hie).1
      have hσk : ik < σ.length := by rw [I.len]; exact (List.getElem?_eq_some_iff.mp hik).1
      have hfr := F'.free
      obtain ⟨g2, go2⟩ := g1.grow (H' := upd H' a (excO a oe)) (fun b o q => by
        obtain ⟨y, ey, _⟩ := (hext b o q).is
        unfold upd
        rw [if_neg (fun z => by rw [← z, ey] at hfr; cases hfr)]
        exact hext b o q) (tb'.upd rfl (.inl hfr))
      have rep : ∀ w', Rep Y.K (upd H' a (excO a oe)) w' .f 0 (.exc nm) (.ref a) [] := fun w' => .exc (ob := oe) (u := .ext fun h => h.get? a = some oe) (by unfold upd; rw [if_pos rfl]; rfl) ⟨C, hoc, hXk⟩ (fun _ z => nomatch z)
      obtain ⟨g3, go3⟩ := g2.setV (i := ie) hσe (rep _)
      obtain ⟨g4, go4⟩ := g3.setV (i := ik) (by rw [List.length_set]; exact hσk) (rep _)
      obtain ⟨g5, go5⟩ := g4.unset (i := ie) (v := none) (by rw [List.length_set, List.length_set]; exact hσe)
      exact ⟨_, _, I5, K' _ _ _ (by rw [List.length_set, List.length_set, List.length_set]) g5 ((((go1.trans go2).trans go3).trans go4).trans go5)⟩
    · cases ee
  · refine wpAny_mono (hf pins s σ H Dn I ⟨ρ, w, o, gd, ee, K'⟩) (fun fl s1 q => ?_) (fun _ _ z => False.elim z)
    cases fl with
    | next => exact wpAny_execs_nil q
    | brk => exact q
    | cont => exact q
    | ret u => exact q
end
end L3
set_option Elab.async false
set_option linter.all false
set_option maxRecDepth 100000
namespace L3
open PySem PySem.Spec PyProof.Rows PySem.W L2
noncomputable def spO (K : PySem.W.Frag) (n : Nat) (ob : D) (G : List D → Option (D × Nat)) : Sp := fun vs H Q _ => vs.length = n ∧ ∃ ds w r q, (∀ a o, w a = some o → o = .f) ∧ WL K w H ∧ Reps K H w .f 0 ds vs [] ∧ (∃ v, Rep K H w .f 0 ob v []) ∧ G ds = some (r, q) ∧
  ∀ v H' w' Fo, Go H w H' w' → WL K w' H' → Rep K H' w' (.t 0) q r v Fo → Q v H'
noncomputable def CalO (P : Program) (w : World) (K : PySem.W.Frag) (mg : Str → Option Value) (base : Heap) (k : Nat) (ob : D) (n : Nat) (G : List D → Option (D × Nat)) : Prop :=
  ∃ f fo vs ds fd ps, ob = .ob f fo vs ds ∧ fo.data = .func fd ∧ FnOk P w K mg base CX0 k f fd ps (spO K n ob G) ∧ ∀ us : List Value, us.length = ps.length → bindArgs fd ⟨us, []⟩ = pure (ps.zip us)
open Classical in
noncomputable def eCallO (ob : D) (G : List D → Option (D × Nat)) (i n : Nat) (g : DenA) : Den := fun ρ => if ρ[i]? = some (some (ob, 9)) then eCall G n g ρ else none
section
variable {X : Cx} {e : Expr} {es : List Expr} {g : DenA} {pos p : Pos}
theorem pd_callO {i j k n : Nat} {x : Str} {ob : D} {G : List D → Option (D × Nat)} (h : PE X (.Name x p) (tVar i)) (C : CalO X.prog X.w X.K X.mg X.base k ob n G) (hr : Room j X.A) (hk : k ≤ j) (ha : PDA X (e :: es) g)
    (he : starEach (e :: es) X.env = (false, eval e X.env) :: starEach es X.env := by rfl) (hpl : (backTo pos (starEach es X.env)).any (·.1) = false := by rfl) : PD X (.Call (.Name x p) (e :: es) [] pos) (eCallO ob G i n g) := by
  intro pins s σ H Q I hh0
  obtain ⟨ρ, w, t, r', q, ρ', gd, ee, k'⟩ := hh0
  unfold eCallO at ee
  split at ee
  · rename_i hs
    unfold eCall at ee
    split at ee
    · rename_i ds ρ1 h1
      split at ee
      · rename_i hn
        split at ee
        · rename_i r0 q0 h2
          cases ee
          obtain ⟨f, fo, cvs, cds, fd, ps, rfl, hfd, F, hb⟩ := C
          obtain ⟨v, F0, s1, s2⟩ := gd.slot i _ _ hs
          have hrep := s2.nolist rfl
          obtain rfl := hrep.1
          cases s2 with
          | ob a1 a2 a3 a4 =>
          have fnAt : ∀ {H1 : Hp} {s1 : Shared} {σ1 : St} {u : HO}, Inv X pins σ1 H1 s1 → H1 f = some (.frz fo u) → FnAt f s1.heap := fun {H1 s1 σ1 u} I1 e1 => by
            obtain ⟨e2, _⟩ := (show ObjOk X.prog X.w H1 s1.heap _ (.frz _ _) from I1.hok _ _ e1)
            obtain ⟨oc, od, da, sl⟩ := fo
            cases hfd
            exact ⟨_, _, _, _, e2⟩
          refine wpAny_Call_Name_kw (thn (h pins s σ H (fun v' H' => v' = .ref f ∧ H' = H) I ⟨_, s1, rfl, rfl⟩) fun u s1 hh1 => ?_)
          obtain ⟨v', H', I1, rv, e1, e2⟩ := hh1
          subst e1
          obtain rfl : H = H' := e2.symm
          cases rv
          refine callWith_F (fnAt I1 a1) (thn (ha pos pins s1 σ H (fun vs H1 => ∃ w1, Good X.K ρ' σ H1 w1 t ∧ Go H w H1 w1 ∧ Reps X.K H1 w1 .f 0 ds vs []) I1 ⟨ρ, w, t, ds, ρ', gd, h1, fun vs H1 w1 g1 go1 r1 => ⟨w1, g1, go1, r1⟩⟩) fun us s2 hh2 => ?_) he hpl
          obtain ⟨vs, H1, I2, rv2, w1, g1, go1, r1⟩ := hh2
          have rob : Rep X.K H1 w1 .f 0 (.ob f fo cvs cds) (.ref f) [] := Rep.go gd.wl go1.stab (hrep.2 0) (fun _ z => nomatch z)
          obtain ⟨u1, b1⟩ : ∃ u, H1 f = some (.frz fo u) := by
            cases rob with
            | ob b1 _ _ _ => exact ⟨_, b1⟩
          refine ⟨fnAt I2 b1, ?_⟩
          have hsp : spO X.K n (.ob f fo cvs cds) G vs H1 Q E0 := by
            refine ⟨by rw [← r1.length]; exact hn, ds, fun a => (w1 a).map fun _ => Ow.f, r', q, fun a o e => ?_, ⟨fun a o e => ?_, g1.wl.tb⟩, ?_, ⟨.ref f, ?_⟩, h2, fun v H2 w2 Fo go2 wl2 rr => ?_⟩
            · try dsimp only at e
              cases ew : w1 a with
              | none => rw [ew] at e; cases e
              | some o' => rw [ew] at e; cases e; rfl
            · try dsimp only at e
              cases ew : w1 a with
              | none => rw [ew] at e; cases e
              | some o' => exact g1.wl a o' ew
            · exact Reps.freeze (fun a n => by show (w1 a).map _ = _; rw [n]; rfl) r1 (fun _ z => nomatch z)
            · exact Rep.freeze (fun a n => by show (w1 a).map _ = _; rw [n]; rfl) rob (fun _ z => nomatch z)
            · obtain ⟨b1, b2, b3⟩ := back g1 go2 wl2 rr
              exact k' _ _ _ _ b1 (go1.trans b2) b3
          have hl : us.length = ps.length := by rw [← rv2.length]; exact F.len _ _ _ _ hsp
          refine wpAny_call (codeAny_mono (F.run X.A X.stack s2 H1 ⟨us, []⟩ us vs Q E0 (hr.mono hk) I2.env0 (.of_eq (hb us hl)) rv2 hsp) fun r s' hq => ?_)
          cases r with
          | error e => exact False.elim hq
          | ok fl =>
            cases fl with
            | ret u => exact I2.after hq
            | next => exact False.elim hq
            | brk => exact False.elim hq
            | cont => exact False.elim hq
        · cases ee
      · cases ee
    · cases ee
  · cases ee
end
end L3
set_option Elab.async false
set_option linter.all false
set_option maxRecDepth 100000
namespace L3
open PySem PySem.Spec PyProof.Rows PySem.W L2
theorem revLook {x : Str} {u : Value} : ∀ {ps : List Str} {us : List Value} {i : Nat}, ps.Nodup → ps[i]? = some x → us[i]? = some u → (ps.zip us).reverse.lookup x = some u
  | [], _, _, _, h, _ => by simp at h
  | _ :: _, [], _, _, _, h => by simp at h
  | p :: ps, v :: us, 0, nd, h1, h2 => by
    simp at h1 h2
    subst h1
    subst h2
    rw [List.zip_cons_cons, List.reverse_cons, List.lookup_append]
    have : (ps.zip us).reverse.lookup p = none := List.lookup_eq_none_iff.mpr fun q hq => by
      have := (List.of_mem_zip (List.mem_reverse.mp hq)).1
      exact bne_iff_ne.mpr fun z => (List.nodup_cons.mp nd).1 (z ▸ this)
    rw [this]
    simp
  | p :: ps, v :: us, i + 1, nd, h1, h2 => by
    rw [List.zip_cons_cons, List.reverse_cons, List.lookup_append, revLook (i := i) (List.nodup_cons.mp nd).2 (by simpa using h1) (by simpa using h2)]
    rfl
theorem callE {prog : Program} {w : World} {A : Around} {R : Result → Shared → Prop} {s : Shared} {a c : Addr} {args : Args} {o oc : Obj} {fd : FuncData} {body : Expr} {fs : Array Value} {q : Str} {t : Tok} (hroom : A.depth < recursionLimit) (ho : s.heap.get? a = some o)
    (hd' : o.data = .func fd) (hco : fd.scope.isCoroutine = false) (hgen : fd.scope.isGenerator = false) (hbody : fd.body = .expr body) (hc : fd.code = .ref c) (hoc : s.heap.get? c = some oc) (hdc : oc.data = .fields fs) (hq : fs[1]? = some (.str q t))
    (h : wpAny (model prog w) A.in1 (bindArgs fd args) (fun binds s₁ =>
      wpAny (model prog w) A.in1 (newFunctionEnv fd.scope fd.globals fd.closure binds (q ++ ".<locals>.") (some a) fd.code none fd.builtins)
        (fun env s₂ => s₂.heap.NoLimit ∧ codeAny (model prog w) A (.expr body env) R s₂) (fun e s' => R (.error e) s') s₁) (fun e s' => R (.error e) s') s) :
    codeAny (model prog w) A (.call (.ref a) args) R s := by
  refine codeAny_of_tree ?_
  show wpAny _ A.in1 (callAny (.ref a) args) _ _ s
  simp only [callAny]
  refine wpAny_bind (wpAny_load ho ?_)
  simp only [hd', callFunction, hco, hgen, hbody, hc]
  rw [hc] at h
  refine wpAny_bind (m := field (.ref c) 1) (wpAny_field hoc hdc hq (wpAny_bind (wpAny_pure ?_)))
  exact wpAny_bind (wpAny_mono h (fun binds s₁ h₁ => wpAny_bind (wpAny_mono h₁ (fun env s₂ h₂ => wpAny_bind (wpAny_enterFrame h₂.1 hroom
    (wpAny_pure (And.intro rfl h₂.2)))) fun _ _ h' => h')) fun _ _ h' => h')
noncomputable def cxL (P : Program) (w : World) (K : PySem.W.Frag) (mg : Str → Option Value) (base : Heap) (N : List Str) (qual : Str) (scope : Scope) (f : Addr) (cd : Value) (cl : List (Str × Addr)) (A : Around) (outer : List Env) (s : Shared) (H : Hp) : Cx where
  prog := P
  w := w
  K := K
  mg := mg
  base := base
  A := A.deeper (envX qual scope s.heap.objs.size f cd cl)
  N := N
  s₀ := s
  H₀ := H
  env := envX qual scope s.heap.objs.size f cd cl
  outer := outer
  stack := envX qual scope s.heap.objs.size f cd cl :: outer
  ex := []
  calm := true
  fn := fun _ => false
  pn := []
  xe := fun _ _ => False
structure LamScope (ps cs : List Str) (sc : Scope) : Prop where
  kind : sc.kind = .function
  co : sc.isCoroutine = false
  gen : sc.isGenerator = false
  nd : (ps ++ cs).Nodup
  par : ∀ x ∈ ps, sc.names.lookup x = some .local
  cap : ∀ x ∈ cs, sc.names.lookup x = some .free
  nocell : ∀ y ∈ sc.names, y.2 ≠ .cell
  free : ∀ x, sc.names.lookup x = some .free → x ∈ cs
structure CellsOk (base : Heap) (cl : List (Str × Addr)) (cs : List Str) (cvs : List V) : Prop where
  len : cvs.length = cs.length
  at' : ∀ (i : Nat) (x : Str) (v : V), cs[i]? = some x → cvs[i]? = some v → ∃ c u, cl.lookup x = some c ∧ RelV v u ∧ base.IsCell c (some u)
  inj : ∀ x y c, cl.lookup x = some c → cl.lookup y = some c → x = y
  all : ∀ x c, cl.lookup x = some c → ∃ v, base.IsCell c v
theorem lam_start {P : Program} {w : World} {K : PySem.W.Frag} {mg : Str → Option Value} {base : Heap} {ps cs : List Str} {qual : Str} {scope : Scope} {f : Addr} {cd : Value} {cl : List (Str × Addr)} {A : Around} {outer : List Env} {s : Shared} {h1 : Heap} {tk : Nat} {H : Hp} {us : List Value} {vs cvs : List V}
    (S : LamScope ps cs scope) (C : CellsOk base cl cs cvs) (hd : A.handled = none) (e0 : Env0 P w K mg base A outer s H) (hl : vs.length = ps.length) (r : Vals vs us)
    (hns : h1.Ns s.heap.objs.size (fun x => (ps.zip us).reverse.lookup x)) (hk : ∀ b o, s.heap.get? b = some o → h1.get? b = some o) :
    Inv (cxL P w K mg base (ps ++ cs) qual scope f cd cl A outer s H) [] (L2.start (ps ++ cs) (vs ++ cvs)) H { s with heap := h1, toks := tk } := by
  have noA : ∀ b : Addr, b ∉ (cxL P w K mg base (ps ++ cs) qual scope f cd cl A outer s H).ex := fun b z => absurd (show b ∈ ([] : List Addr) from z) (by simp)
  refine ⟨⟨e0.mod, S.kind, rfl, rfl, Nat.le_refl _, C.inj, fun y hy => ?_, (fun y c z => by cases z), fun _ => hd, Around.frames_deeper e0.frames, .inr ⟨rfl, rfl⟩, fun b z => absurd z (noA b), e0.bs, e0.bsz, fun b _ _ => noA b, fun b z => absurd z (noA b), e0.funs, e0.frf⟩,
    rfl, e0.bare, Un.kept hk, ⟨_, hns, fun i y v h1 h2 h3 => ?_⟩, fun y c h => ?_, e0.hok.fresh (Nat.le_refl _), fun y c h => ?_, fun p hp => absurd (show p ∈ ([] : List (Addr × Obj)) from hp) (by simp), e0.hok.kept hk, ?_⟩
  · have hy : scope.names.lookup y = some .cell ∨ scope.names.lookup y = some .free := hy
    rcases hy with hy | hy
    · exact absurd rfl (S.nocell _ (PySem.mem_of_lookup hy))
    · obtain ⟨i, hi⟩ := List.mem_iff_getElem?.mp (S.free y hy)
      have : i < cvs.length := by rw [C.len]; exact (List.getElem?_eq_some_iff.mp hi).1
      obtain ⟨c, u, e, _⟩ := C.at' i y _ hi (List.getElem?_eq_getElem this)
      exact ⟨c, e⟩
  · have hN : (ps ++ cs)[i]? = some y := h1
    have h2' : (vs ++ cvs)[i]? = some v := by
      unfold L2.start at h2
      have hl2 : (vs ++ cvs).length = (ps ++ cs).length := by rw [List.length_append, List.length_append, hl, C.len]
      rw [hl2, Nat.sub_self, List.replicate_zero, List.append_nil, List.getElem?_map] at h2
      cases e : (vs ++ cvs)[i]? with
      | none => rw [e] at h2; cases h2
      | some a => rw [e] at h2; cases h2; rfl
    by_cases hi : i < ps.length
    · rw [List.getElem?_append_left hi] at hN
      rw [List.getElem?_append_left (by rw [hl]; exact hi)] at h2'
      obtain ⟨u, hu, rv⟩ := r.get h2'
      exact ⟨u, rv, .inl ⟨S.par y (List.mem_of_getElem? hN), revLook (List.nodup_append.mp S.nd).1 hN hu⟩⟩
    · rw [List.getElem?_append_right (Nat.le_of_not_lt hi)] at hN
      rw [List.getElem?_append_right (by rw [hl]; exact Nat.le_of_not_lt hi), hl] at h2'
      obtain ⟨c, u, e, rv, hc⟩ := C.at' _ y v hN h2'
      exact ⟨u, rv, .inr ⟨.inr (S.cap y (List.mem_of_getElem? hN)), c, e, (hc.keeps fun b o e => (e0.bs b o e).1).keeps hk⟩⟩
  · obtain ⟨v, hv⟩ := C.all y c h
    exact ⟨v, (hv.keeps fun b o e => (e0.bs b o e).1).keeps hk⟩
  · obtain ⟨v, o, ho, _⟩ := C.all y c h
    exact (e0.bs c o ho).2
  · unfold L2.start
    show _ = (ps ++ cs).length
    rw [List.length_append, List.length_map, List.length_replicate, List.length_append, List.length_append, hl, C.len]
    omega
noncomputable def lamD (fb : Den) (cds : List D) : List D → Option (D × Nat) := fun ds => match fb (startD (ds ++ cds).length (ds ++ cds)) with
  | some (d, q, _) => some (d, q)
  | none => none
theorem fn_lam {P : Program} {w : World} {K : PySem.W.Frag} {mg : Str → Option Value} {base : Heap} {ps cs : List Str} {nm qual : Str} {params : Arguments} {body : Expr} {scope : Scope} {cl : List (Str × Addr)} {pm ctv : Value} {f c : Addr} {k : Nat} {cvs : List V} {cds : List D} {fb : Den}
    (S : LamScope ps cs scope) (C : CellsOk base cl cs cvs)
    (hbody : ∀ (q : Str) (A : Around) (outer : List Env) (s : Shared) (H : Hp), Room k (A.deeper (envX q scope s.heap.objs.size f (.ref c) cl)) → PD (cxL P w K mg base (ps ++ cs) q scope f (.ref c) cl A outer s H) body fb) :
    FnOk P w K mg base CX0 (k + 1) f (kla_fn nm qual params body scope cl pm (.ref c) ctv) ps (spO K ps.length (.ob f (kla_obj nm qual params body scope cl pm c ctv) cvs cds) (lamD fb cds)) := by
  refine ⟨fun vs H Q E h => h.1, fun A outer s H args us vs Q E hr e0 hb r hsp => ?_⟩
  obtain ⟨hn, ds, wn, r', q', hw, wl, rs, ⟨vo, ro⟩, ee, k'⟩ := hsp
  cases ro with
  | ob a1 a2 a3 a4 =>
  obtain ⟨x1, ⟨fd', x2, x3⟩, fs, q, t, x4, x5⟩ := a3
  cases x2
  cases x3
  obtain ⟨o1, _⟩ := (show ObjOk P w H s.heap _ (.frz _ _) from e0.hok _ _ a1)
  obtain ⟨o2, _⟩ := (show ObjOk P w H s.heap _ (.frz _ _) from e0.hok _ _ a2)
  have lim : s.heap.NoLimit := e0.mod.nolimit.keeps fun b o e => (e0.bs b o e).1
  refine callE hr.depth o1 rfl S.co S.gen rfl rfl o2 x4 x5 (hb _ _ _ _ ?_)
  refine wpAny_newFunctionEnv S.nocell (fun y hy => S.par y.1 (List.of_mem_zip hy).1) (fun h1 hns hsb => ⟨lim.fresh _ hsb, ?_⟩) S.kind
  have hk : ∀ b o, s.heap.get? b = some o → h1.get? b = some o := fun b o e => hsb.extBut b o (Nat.ne_of_lt (Heap.lt_size e)) (Heap.get?_push_of_some _ e)
  show codeAny _ _ (.expr body (envX q scope s.heap.objs.size f (.ref c) cl)) _ _
  have I := lam_start (cd := .ref c) (f := f) (qual := q) (tk := s.toks + (ps.zip us).length) S C hr.hd e0 hn r hns hk
  unfold lamD at ee
  split at ee
  · rename_i d q0 ρ' h1
    cases ee
    have gd : Good K (startD (ds ++ cds).length (ds ++ cds)) (L2.start (ps ++ cs) (vs ++ cvs)) H wn 0 := by
      have e1 : (ds ++ cds).length = (ps ++ cs).length := by rw [List.length_append, List.length_append, rs.length, a4.length, hn, C.len]
      rw [e1]
      refine good_start hw wl ?_
      have app : ∀ {ds : List D} {vs : List V}, Reps K H wn .f 0 ds vs [] → Reps K H wn .f 0 (ds ++ cds) (vs ++ cvs) [] := by
        intro ds
        induction ds with
        | nil => intro vs r; cases r; exact a4
        | cons d ds ih =>
          intro vs r
          generalize hF : ([] : List Addr) = F at r
          cases r with
          | cons r1 r2 ne =>
            obtain rfl := r1.zero
            obtain rfl := r2.zero
            exact .cons (F := []) (G := []) r1 (ih r2) (fun _ z => nomatch z)
      exact app rs
    refine kla_codeExpr (wpAny_mono (hbody q A outer s H (hr.deeper _) [] _ _ H Q I ⟨_, wn, 0, _, _, _, gd, h1, fun v H' w' F g1 go1 r1 => k' v H' w' F go1 g1.wl r1⟩) (fun v s' hh => ?_) fun e s' z => False.elim z)
    obtain ⟨v', H', J, rv, qq⟩ := hh
    exact ⟨v', H', J.os, J.bare, J.base, J.hok, rv, qq⟩
  · cases ee
end L3
set_option Elab.async false
set_option linter.all false
set_option maxRecDepth 100000
namespace L3
open PySem PySem.Spec PyProof.Rows PySem.W L2
structure Lm (K : PySem.W.Frag) (mg : Str → Option Value) (base : Heap) : Prop where
  bm : ∃ bm o, mg "__builtins__" = some (.ref bm) ∧ bm ≠ builtinsNs ∧ base.get? bm = some o ∧ o.cls = .type "module" ∧ o.dict = some builtinsNs ∧ o.data = .plain
  cd : ∀ x ∈ lamNms, ∀ c P, tabIn K x = some (c, P) → CodeHd base c P
theorem among_snoc {pos : Pos} {a b : Int} {c cv : Value} : ∀ (l : List Value), TriplesOk l → codeAmong pos (l ++ [rawInt a, rawInt b, c]) = some cv → codeAmong pos l = some cv ∨ cv = c := by
  intro l h
  fun_induction TriplesOk l with
  | case1 =>
    intro e
    simp only [List.nil_append, rawInt, codeAmong] at e
    split at e
    · cases e; exact .inr rfl
    · cases e
  | case2 a1 t1 a2 t2 v rest ih =>
    intro e
    simp only [List.cons_append, codeAmong] at e ⊢
    split at e
    · rename_i hc
      rw [if_pos hc]
      exact .inl e
    · rename_i hc
      rw [if_neg hc]
      exact ih h e
  | case3 => exact h.elim
theorem TB.grow {K : PySem.W.Frag} {H : Hp} (t : TB K H) {P c : Addr} {ps : Array Value} {a b : Int} {oc : Obj} {u : HO} {fs : Array Value} {q : Str} {tk : Tok} (hP : H P = some (.tbl ps)) (hc : H c = none) (hu : ∀ xs, u ≠ .lst xs) (h1 : oc.data = .fields fs) (h2 : fs[1]? = some (.str q tk)) :
    TB K (L2.upd (L2.upd H P (.tbl (ps ++ #[rawInt a, rawInt b, .ref c]))) c (.frz oc u)) := by
  have hcP : P ≠ c := fun z => by rw [z, hc] at hP; cases hP
  have frz : ∀ d o v, H d = some (.frz o v) → L2.upd (L2.upd H P (.tbl (ps ++ #[rawInt a, rawInt b, .ref c]))) c (.frz oc u) d = some (.frz o v) := fun d o v e => by
    rw [upd_ne (fun z => by rw [z, hc] at e; cases e), upd_ne (fun z => by rw [z, hP] at e; cases e)]
    exact e
  have get : ∀ Q qs, L2.upd (L2.upd H P (.tbl (ps ++ #[rawInt a, rawInt b, .ref c]))) c (.frz oc u) Q = some (.tbl qs) → (Q = P ∧ qs = ps ++ #[rawInt a, rawInt b, .ref c]) ∨ H Q = some (.tbl qs) := fun Q qs e => by
    by_cases h1 : Q = c
    · subst h1; rw [upd_same] at e; cases e
    · rw [upd_ne h1] at e
      by_cases h2 : Q = P
      · subst h2; rw [upd_same] at e; cases e; exact .inl ⟨rfl, rfl⟩
      · rw [upd_ne h2] at e; exact .inr e
  refine ⟨fun Q qs e => ?_, fun Q qs e pos cv hcv => ?_, fun x hx c' P' e => ?_⟩
  · rcases get Q qs e with ⟨_, rfl⟩ | e
    · have := TriplesOk_snoc a b (.ref c) ps.toList (t.tr P ps hP)
      simpa using this
    · exact t.tr Q qs e
  · have old : ∀ Q qs, H Q = some (.tbl qs) → codeAmong pos qs.toList = some cv → ∃ c' oc' u' vs q t, cv = .ref c' ∧ L2.upd (L2.upd H P (.tbl (ps ++ #[rawInt a, rawInt b, .ref c]))) c (.frz oc u) c' = some (.frz oc' u') ∧ oc'.data = .fields vs ∧ vs[1]? = some (.str q t) ∧ ∀ xs, u' ≠ .lst xs := fun Q qs e hcv => by
      obtain ⟨c', oc', u', vs, q', t', g1, g2, g3, g4, g5⟩ := t.cd Q qs e pos cv hcv
      exact ⟨c', oc', u', vs, q', t', g1, frz _ _ _ g2, g3, g4, g5⟩
    rcases get Q qs e with ⟨_, rfl⟩ | e
    · rcases among_snoc (pos := pos) (cv := cv) (c := .ref c) (a := a) (b := b) ps.toList (t.tr P ps hP) (by simpa using hcv) with z | z
      · exact old P ps hP z
      · exact ⟨c, oc, u, fs, q, tk, z, upd_same, h1, h2, hu⟩
    · exact old Q qs e hcv
  · obtain ⟨qs, e'⟩ := t.is x hx c' P' e
    have n1 : P' ≠ c := fun z => by rw [z, hc] at e'; cases e'
    by_cases n2 : P' = P
    · subst n2; exact ⟨_, by rw [upd_ne n1, upd_same]⟩
    · exact ⟨qs, by rw [upd_ne n1, upd_ne n2]; exact e'⟩
noncomputable def kn (a : Addr) (o : Obj) : HO := .frz o (.ext fun h => h.get? a = some o)
theorem kn_ok {P : Program} {w : World} {H : Hp} {h : Heap} {a : Addr} {o : Obj} (e : h.get? a = some o) : ObjOk P w H h a (kn a o) := ⟨e, e, ⟨o, e⟩, fun _ _ p k => k _ p⟩
section
variable {X : Cx} {pins : List (Addr × Obj)} {σ : St} {H : Hp} {s : Shared} {E : Value → Shared → Prop} {Q : Value → Shared → Prop}
theorem Inv.table {P c f : Addr} {ps ps' : Array Value} {oc fo : Obj} {h' : Heap} {tk : Nat} (I : Inv X pins σ H s) (hP : H P = some (.tbl ps)) (hx : Heap.ExtBut P s.heap h') (hc : s.heap.objs.size ≤ c) (hf : c < f) (e1 : h'.get? c = some oc) (e2 : h'.get? P = some (tabObj (ps ++ ps'))) (e3 : h'.get? f = some fo) :
    Inv X pins σ (L2.upd (L2.upd (L2.upd H P (.tbl (ps ++ ps'))) c (kn c oc)) f (kn f fo)) { s with heap := h', toks := tk } := by
  have nc : H c = none := I.hok.fresh hc
  have nf : H f = none := I.hok.fresh (Nat.le_trans hc (Nat.le_of_lt hf))
  have keep : ∀ b u, H b = some u → b ≠ P → L2.upd (L2.upd (L2.upd H P (.tbl (ps ++ ps'))) c (kn c oc)) f (kn f fo) b = some u := fun b u e n => by
    rw [upd_ne (ne_of_none e nf), upd_ne (ne_of_none e nc), upd_ne n]; exact e
  have PP : L2.upd (L2.upd (L2.upd H P (.tbl (ps ++ ps'))) c (kn c oc)) f (kn f fo) P = some (.tbl (ps ++ ps')) := by
    rw [upd_ne (ne_of_none hP nf), upd_ne (ne_of_none hP nc), upd_same]
  have kp : ∀ b o, s.heap.get? b = some o → H b = none → h'.get? b = some o := fun b o e n => hx b o (fun z => by rw [z, hP] at n; cases n) e
  refine I.un ⟨fun b o e n _ _ => kp b o e n, fun b o e n _ _ => ⟨o.slots, kp b o e n⟩, fun b o e n _ => ?_, fun b o e _ => ?_, fun b xs e => keep b _ e (fun z => by rw [z, hP] at e; cases e), fun b o u e => keep b _ e (fun z => by rw [z, hP] at e; cases e), fun b qs e => ?_⟩ fun a o e => ?_
  · have lt := Heap.lt_size e
    rw [upd_ne (Nat.ne_of_lt (Nat.lt_trans (Nat.lt_of_lt_of_le lt hc) hf)), upd_ne (Nat.ne_of_lt (Nat.lt_of_lt_of_le lt hc)), upd_ne (fun z => by rw [z, hP] at n; cases n)]
    exact n
  · by_cases hb : b = P
    · rw [hb]; exact ⟨_, e2⟩
    · exact ⟨o, hx b o hb e⟩
  · by_cases hb : b = P
    · subst hb
      rw [hP] at e; cases e
      exact ⟨ps', PP⟩
    · exact ⟨#[], by rw [Array.append_empty]; exact keep b _ e hb⟩
  · by_cases h1 : a = f
    · subst h1; rw [upd_same] at e; cases e; exact kn_ok e3
    · rw [upd_ne h1] at e
      by_cases h2 : a = c
      · subst h2; rw [upd_same] at e; cases e; exact kn_ok e1
      · rw [upd_ne h2] at e
        by_cases h3 : a = P
        · subst h3; rw [upd_same] at e; cases e; exact e2
        · rw [upd_ne h3] at e
          refine (I.hok a o e).stay (fun b u hb q => hx b u (fun z => ?_) q) (fun b q => keep b _ q (fun z => by rw [z, hP] at q; cases q)) fun b xs q => keep b _ q (fun z => by rw [z, hP] at q; cases q)
          subst z
          rcases hb with hb | hb
          · exact h3 hb.symm
          · rw [hP] at hb; cases hb
theorem lam_make {params : Arguments} {body : Expr} {scope : Scope} {pos : Pos} {A : Around} {M : Model} {x : Str} {c P : Addr} {clos : List (Str × Addr)} (I : Inv X pins σ H s) (L : Lm X.K X.mg X.base) (tb : TB X.K H) (hx : x ∈ lamNms) (ht : tabIn X.K x = some (c, P)) (hcode : X.env.code = .ref c)
    (hcl : closureFor scope X.env = pure clos) (hdf : defaultsOf params X.env = ([], []))
    (h : ∀ (f c' : Addr) (pm ctv : Value) (oc : Obj) (h' : Heap) (tk : Nat) (H' : Hp) (u u' : HO), Inv X pins σ H' { s with heap := h', toks := tk } → H' f = some (.frz (kla_obj "<lambda>" (X.env.qual ++ "<lambda>") params body scope clos pm c' ctv) u) → H' c' = some (.frz oc u') →
      Clo (kla_obj "<lambda>" (X.env.qual ++ "<lambda>") params body scope clos pm c' ctv) c' oc → (∀ b o, H b = some o → Sm o (H' b)) → TB X.K H' → Q (.ref f) { s with heap := h', toks := tk }) :
    wpAny M A (eval (.Lambda params body scope pos) X.env) Q E s := by
  obtain ⟨ps, hP⟩ := tb.is x hx c P ht
  have oP : s.heap.get? P = some (tabObj ps) := I.hok P _ hP
  have C := (L.cd x hx c P ht).keeps I.bk
  have hg := I.mod.glob.keeps I.bk
  have hgP : mainGlobals ≠ P := fun q => by
    obtain ⟨o, es, ep, e, hd, _⟩ := hg
    rw [q, oP] at e; cases e; cases hd
  have hB : s.heap.BuiltinsAt X.mg P := by
    obtain ⟨bm, ob, b1, b2, b3, b4, b5, b6⟩ := L.bm
    have b3' := I.bk _ _ b3
    refine ⟨bm, ob, b1, b2, fun q => ?_, fun q => ?_, b3', b4, b5, b6⟩
    · obtain ⟨o, es, ep, e, hd, _⟩ := hg
      rw [q, e] at b3'; cases b3'; rw [hd] at b6; cases b6
    · rw [q, oP] at b3'; cases b3'; cases b4
  refine kla_eval hdf ?_
  cases hf : codeAmong pos ps.toList with
  | none =>
    refine kla_makeFunction (mg := X.mg) hcl I.ok.glob hg hcode C oP (tb.tr P ps hP) hf hgP hB fun c' ctv h' tk hxb hge hlt hrec htb => ?_
    obtain ⟨c2, oc, vs, t, e2, hoc, hd, hv⟩ := hrec
    cases e2
    have nc : H c' = none := I.hok.fresh hge
    have nf : H h'.objs.size = none := I.hok.fresh (Nat.le_trans hge (Nat.le_of_lt hlt))
    refine h h'.objs.size c' _ ctv oc _ tk _ _ _ (Inv.table (ps' := #[rawInt pos.line, rawInt pos.col, .ref c']) (oc := oc) I hP (fun b o n e => Heap.get?_push_of_some _ (hxb b o n e)) hge hlt (Heap.get?_push_of_some _ hoc) (Heap.get?_push_of_some _ htb) (Heap.get?_push_size _ rfl)) upd_same
      (by rw [upd_ne (Nat.ne_of_lt hlt), upd_same]; rfl) ⟨rfl, ⟨_, rfl, rfl⟩, vs, _, t, hd, hv⟩ (fun b o e => ?_) ((tb.grow (u := .ext fun h => h.get? c' = some oc) hP nc (fun _ z => nomatch z) hd hv).upd rfl (.inl ?_))
    · by_cases hb : b = P
      · subst hb
        rw [hP] at e; cases e
        exact ⟨_, by rw [upd_ne (ne_of_none hP nf), upd_ne (ne_of_none hP nc), upd_same]⟩
      · exact sm (by rw [upd_ne (ne_of_none e nf), upd_ne (ne_of_none e nc), upd_ne hb]; exact e)
    · rw [upd_ne (Nat.ne_of_gt hlt), upd_ne (ne_of_none hP nf).symm]; exact nf
  | some cv =>
    obtain ⟨c', oc, u', vs, q, t, rfl, hc', hd, hv, _⟩ := tb.cd P ps hP pos cv hf
    refine kla_makeFunctionHit (mg := X.mg) hcl I.ok.glob hg hcode C oP (tb.tr P ps hP) hf hB fun ctv h' tk hk hsz => ?_
    have nf : H h'.objs.size = none := I.hok.fresh hsz
    refine h h'.objs.size c' _ ctv oc _ tk _ _ _ (I.laid (o := kn _ _) (fun b o e => Heap.get?_push_of_some _ (hk b o e)) hsz (kn_ok (Heap.get?_push_size _ rfl))) upd_same (by rw [upd_ne (ne_of_none hc' nf)]; exact hc') ⟨rfl, ⟨_, rfl, rfl⟩, vs, _, t, hd, hv⟩ (fun b o e => sm (by rw [upd_ne (ne_of_none e nf)]; exact e)) (tb.upd rfl (.inl nf))
end
end L3
set_option Elab.async false
set_option linter.all false
set_option maxRecDepth 100000
namespace L3
open PySem PySem.Spec PyProof.Rows PySem.W L2
noncomputable def addB (base h : Heap) (ex : List Addr) : Heap := hideAll h ((List.range h.objs.size).filter fun b => (base.get? b).isNone && !ex.contains b)
theorem of_addB {base h : Heap} {ex : List Addr} {b : Addr} {o : Obj} (e : (addB base h ex).get? b = some o) : h.get? b = some o ∧ ((base.get? b).isSome = true ∨ b ∈ ex) := by
  have e1 := of_hideAll _ e
  refine ⟨e1, ?_⟩
  by_cases hb : b ∈ ((List.range h.objs.size).filter fun b => (base.get? b).isNone && !ex.contains b)
  · have := hideAll_none (h := h) _ hb
    unfold addB at e
    rw [this] at e; cases e
  · rw [List.mem_filter] at hb
    have : ¬ (((base.get? b).isNone && !ex.contains b) = true) := fun z => hb ⟨List.mem_range.mpr (Heap.lt_size e1), z⟩
    cases h1 : base.get? b with
    | some o' => exact .inl rfl
    | none =>
      rw [h1] at this
      simp at this
      exact .inr this
theorem addB_get {base h : Heap} {ex : List Addr} {b : Addr} {o : Obj} (e : h.get? b = some o) (hb : (base.get? b).isSome = true ∨ b ∈ ex) : (addB base h ex).get? b = some o :=
  hideAll_get _ e fun z => by
    have := (List.mem_filter.mp z).2
    rw [Bool.and_eq_true_iff] at this
    rcases hb with hb | hb
    · have t1 := this.1
      cases q : base.get? b with
      | none => rw [q] at hb; cases hb
      | some o => rw [q] at t1; cases t1
    · have t2 := this.2
      simp at t2
      exact t2 hb
noncomputable def capL : List Str → List (Str × Addr) → List (Str × Addr)
  | [], _ => []
  | x :: xs, cells => match cells.lookup x with
    | some c => (x, c) :: capL xs cells
    | none => capL xs cells
theorem capL_of {cells : List (Str × Addr)} {x : Str} {c : Addr} : ∀ {xs : List Str}, (capL xs cells).lookup x = some c → cells.lookup x = some c
  | [], h => by cases h
  | y :: xs, h => by
    unfold capL at h
    split at h
    · rename_i c' e
      rw [List.lookup_cons] at h
      split at h
      · rename_i hb
        cases h
        rw [eq_of_beq hb]; exact e
      · exact capL_of h
    · exact capL_of h
theorem capL_in {cells : List (Str × Addr)} {x : Str} {c : Addr} (e : cells.lookup x = some c) : ∀ {xs : List Str}, x ∈ xs → (capL xs cells).lookup x = some c
  | [], h => by cases h
  | y :: xs, h => by
    unfold capL
    by_cases hy : x = y
    · subst hy
      rw [e]
      simp
    · have hm : x ∈ xs := by rcases List.mem_cons.mp h with z | z; exact absurd z hy; exact z
      split
      · rw [List.lookup_cons, beq_eq_false_iff_ne.mpr hy]
        exact capL_in e hm
      · exact capL_in e hm
noncomputable def capD : List Nat → Rho → Option (List D)
  | [], _ => some []
  | i :: is, ρ => match ρ[i]? with
    | some (some (d, _)) => if d.isL = false then match capD is ρ with
      | some ds => some (d :: ds)
      | none => none
      else none
    | _ => none
theorem capD_ok {K : PySem.W.Frag} {ρ : Rho} {σ : St} {H : Hp} {w : Wn} {t : Nat} (g : Good K ρ σ H w t) : ∀ {is : List Nat} {ds : List D}, capD is ρ = some ds → ∃ vs, Reps K H w .f 0 ds vs [] ∧ vs.length = is.length ∧ ∀ (j i : Nat), is[j]? = some i → ∃ v, vs[j]? = some v ∧ σ[i]? = some (some v)
  | [], ds, e => by
    cases e
    exact ⟨[], .nil, rfl, fun j i h => by simp at h⟩
  | i :: is, ds, e => by
    unfold capD at e
    split at e
    · rename_i d q h1
      split at e
      · rename_i hl
        split at e
        · rename_i ds' h2
          cases e
          obtain ⟨vs, r, l, k⟩ := capD_ok g h2
          obtain ⟨v, F, s1, s2⟩ := g.slot i d q h1
          obtain ⟨hF, hr⟩ := s2.nolist hl
          refine ⟨v :: vs, .cons (F := []) (G := []) ((hr 0).any g.wl) r (fun _ z => nomatch z), by simp [l], fun j i' hj => ?_⟩
          cases j with
          | zero => simp at hj; subst hj; exact ⟨v, rfl, s1⟩
          | succ j => exact k j i' (by simpa using hj)
        · cases e
      · cases e
    · cases e
noncomputable def ob0 (cds : List D) : D := .ob 0 ⟨.none, none, .plain, #[]⟩ [] cds
open Classical in
noncomputable def eTab (F : D → (List D → Option (D × Nat)) → List D → Option (D × Nat)) (fb : Den) (is : List Nat) (fN : Den) : Den := fun ρ => match fN ρ with
  | some (.int m, _, ρ1) => match capD is ρ1 with
    | some cds => if ∀ f fo vs, F (.ob f fo vs cds) (lamD fb cds) [.int m, .ob f fo vs cds] = F (ob0 cds) (lamD fb cds) [.int m, ob0 cds] then match F (ob0 cds) (lamD fb cds) [.int m, ob0 cds] with
      | some (r, q) => some (r, q, ρ1)
      | none => none
      else none
    | none => none
  | _ => none
theorem pd_tab {X : Cx} {x y : Str} {c P fn : Addr} {j k kb : Nat} {ps caps : List Str} {is : List Nat} {params : Arguments} {body eN : Expr} {scope : Scope} {fN fb : Den} {F : D → (List D → Option (D × Nat)) → List D → Option (D × Nat)} {p lp pos : Pos}
    (hfn : X.fn = fun _ => true) (L : Lm X.K X.mg X.base) (hx : x ∈ lamNms) (ht : tabIn X.K x = some (c, P)) (hcode : X.env.code = .ref c) (S : LamScope ps caps scope)
    (hm : X.mg y = some (.ref fn)) (hkp : keepIn X.K (.ref fn) = true) (hr : Room j X.A) (hk : k ≤ j)
    (hF : ∀ base' ob G, CalO X.prog X.w X.K X.mg base' (kb + 1) ob ps.length G → Cal X.prog X.w X.K X.mg base' k y 2 (F ob G))
    (hbody : ∀ (base' : Heap) (f c' : Addr) (cl : List (Str × Addr)) (q : Str) (A : Around) (outer : List Env) (s : Shared) (H : Hp), Room kb (A.deeper (envX q scope s.heap.objs.size f (.ref c') cl)) → PD (cxL X.prog X.w X.K X.mg base' (ps ++ caps) q scope f (.ref c') cl A outer s H) body fb)
    (hbind : ∀ (cl : List (Str × Addr)) (pm cdv ctv : Value) (us : List Value), us.length = ps.length → bindArgs (kla_fn "<lambda>" (X.env.qual ++ "<lambda>") params body scope cl pm cdv ctv) ⟨us, []⟩ = pure (ps.zip us))
    (hN : ∀ (j : Nat) (z : Str), caps[j]? = some z → ∃ i, is[j]? = some i ∧ X.N[i]? = some z ∧ X.env.scope.names.lookup z = some .cell) (hl : is.length = caps.length) (ha : PD X eN fN)
    (hcl : closureFor scope X.env = pure (capL caps X.env.cells) := by rfl) (hdf : defaultsOf params X.env = ([], []) := by rfl) (hg : Gl X y := by rfl) (hdb : (y == ("__debug__" : Str)) = false := by decide)
    (he : starEach [eN, .Lambda params body scope lp] X.env = (false, eval eN X.env) :: starEach [.Lambda params body scope lp] X.env := by rfl) (hpl : (backTo pos (starEach [.Lambda params body scope lp] X.env)).any (·.1) = false := by rfl) :
    PD X (.Call (.Name y p) [eN, .Lambda params body scope lp] [] pos) (eTab F fb is fN) := by
  intro pins s σ H Q I hh0
  obtain ⟨ρ, w, t, r', q, ρ', gd, ee, k'⟩ := hh0
  unfold eTab at ee
  split at ee
  · rename_i m q1 ρ1 h1
    split at ee
    · rename_i cds hc
      split at ee
      · rename_i hall
        split at ee
        · rename_i r0 q0 hres
          cases ee
          refine wpAny_Call_Name_kw (ld_glob I hg hm ?_ hdb)
          refine PySem.W.callWith_K (h₀ := X.base) I.ok.mod.kin hkp ?_ he hpl
          rw [he]
          show wpAny _ _ (spliced ((false, eval eN X.env) :: backTo pos (starEach [.Lambda params body scope lp] X.env))) _ _ s
          refine Calls.spliced_cons (thn (ha pins s σ H (fun v H1 => ∃ w1 F1, Good X.K ρ' σ H1 w1 (t + 1) ∧ Go H w H1 w1 ∧ Rep X.K H1 w1 (.t t) q1 (.int m) v F1) I ⟨ρ, w, t, _, _, _, gd, h1, fun v H1 w1 F1 g1 go1 r1 => ⟨w1, F1, g1, go1, r1⟩⟩) fun u s1 hh1 => ?_)
          obtain ⟨v, H1, I1, rv, w1, F1, g1, go1, r1⟩ := hh1
          cases r1
          rw [se_Lambda]
          show wpAny _ _ (spliced ((false, eval (.Lambda params body scope lp) X.env) :: backTo pos (starEach [] X.env))) _ _ s1
          refine Calls.spliced_cons (lam_make I1 L g1.wl.tb hx ht hcode hcl hdf fun f c' pm ctv oc h' tk H2 u1 u2 I2 hf hc' clo sm2 tb2 => Calls.spliced_nil ⟨I2.kIn, ?_⟩)
          obtain ⟨g2, go2⟩ := g1.drop.grow sm2 tb2
          have go02 := (go1.drop gd.wt).trans go2
          obtain ⟨cvs, rc, lc, kc⟩ := capD_ok g2 hc
          have cl_at : ∀ z c, (capL caps X.env.cells).lookup z = some c → ∃ v, h'.IsCell c v := fun z c e => I2.cell z c (capL_of e)
          have exs : ∀ z c, (capL caps X.env.cells).lookup z = some c → c ∈ (capL caps X.env.cells).map (·.2) := fun z c e => List.mem_map.mpr ⟨(z, c), PySem.mem_of_lookup e, rfl⟩
          have exc : ∀ b ∈ (capL caps X.env.cells).map (·.2), ∃ z, X.env.cells.lookup z = some b := fun b hb => by
            have gen : ∀ (l : List Str) b, b ∈ (capL l X.env.cells).map (·.2) → ∃ z, X.env.cells.lookup z = some b := by
              intro l
              induction l with
              | nil => intro b hb; cases hb
              | cons z l ih =>
                intro b hb
                unfold capL at hb
                split at hb
                · rename_i c0 e0
                  rcases List.mem_cons.mp hb with z1 | z1
                  · exact ⟨z, by rw [z1]; exact e0⟩
                  · exact ih b z1
                · exact ih b hb
            exact gen caps b hb
          have C : CellsOk (addB X.base h' ((capL caps X.env.cells).map (·.2))) (capL caps X.env.cells) caps cvs := by
            refine ⟨lc.trans hl, fun i z v h1 h2 => ?_, fun a b c h1 h2 => I2.ok.inj a b c (capL_of h1) (capL_of h2), fun z c e => ?_⟩
            · obtain ⟨ix, e1, e2, e3⟩ := hN i z h1
              obtain ⟨v', e4, e5⟩ := kc i ix e1
              rw [h2] at e4; cases e4
              obtain ⟨mm, _, lk⟩ := I2.loc
              obtain ⟨u, ru, lk⟩ := lk ix z v e2 e5 (.inr (.inl e3))
              rcases lk with ⟨z1, _⟩ | ⟨_, c, e6, o, e7, e8⟩
              · have z2 : X.env.scope.names.lookup z = some .local := z1
                rw [e3] at z2; cases z2
              · have e9 := capL_in e6 (List.mem_of_getElem? h1)
                exact ⟨c, u, e9, ru, o, addB_get e7 (.inr (exs z c e9)), e8⟩
            · obtain ⟨v, o, e1, e2⟩ := cl_at z c e
              exact ⟨v, o, addB_get e1 (.inr (exs z c e)), e2⟩
          have kb' : ∀ b o, X.base.get? b = some o → (addB X.base h' ((capL caps X.env.cells).map (·.2))).get? b = some o := fun b o e => addB_get (I2.bk b o e) (.inl (by rw [e]; rfl))
          have hM : Mod X.K X.mg (addB X.base h' ((capL caps X.env.cells).map (·.2))) := by
            obtain ⟨m1, m2, ⟨mb, m3, m4⟩, m5⟩ := I.mod
            exact ⟨m1.keeps kb', m2.keeps kb', ⟨mb, m3.keeps kb', m4⟩, m5.keeps kb'⟩
          have frs' : ∀ L o, X.base.get? L = none → h'.get? L = some o → (L ∈ X.fs ∨ L = X.env.locals) → (addB X.base h' ((capL caps X.env.cells).map (·.2))).get? L = none := fun L o n e hL => by
            cases q : (addB X.base h' ((capL caps X.env.cells).map (·.2))).get? L with
            | none => rfl
            | some o' =>
              rcases (of_addB q).2 with z | z
              · rw [n] at z; cases z
              · obtain ⟨y, ey⟩ := exc L z
                rcases hL with hL | hL
                · obtain ⟨_, o2, e2, _⟩ := I2.ok.funs.mem hL
                  have := I2.ok.cab y L (by rw [hfn]) ey
                  exact absurd (Heap.lt_size e2) (Nat.not_lt.mpr this)
                · exact absurd hL (I2.cne y L ey)
          have e0 : Env0 X.prog X.w X.K X.mg (addB X.base h' ((capL caps X.env.cells).map (·.2))) X.A X.stack { s1 with heap := h', toks := tk } H2 := by
            refine ⟨I2.ok.frames, hM, fun b o e => ?_, Nat.le_of_eq (hideAll_size _ _), ?_, I2.stkFree, I2.hok, I2.bare⟩
            · obtain ⟨e1, e2⟩ := of_addB e
              refine ⟨e1, ?_⟩
              rcases e2 with z | z
              · obtain ⟨o', z'⟩ := Option.isSome_iff_exists.mp z
                exact (I2.bs b o' z').2
              · obtain ⟨y, ey⟩ := exc b z
                exact I2.freeC y b ey
            · have all : ∀ l : List Env, (∀ b ∈ frs l, b ∈ X.env.locals :: X.fs) → h'.FunFrames X.base l → h'.FunFrames (addB X.base h' ((capL caps X.env.cells).map (·.2))) l := by
                intro l
                induction l with
                | nil => intro _ _; trivial
                | cons env r ih =>
                  intro hs hl
                  obtain ⟨hk, ⟨L, o, hf, hn, ho, hd⟩, hr⟩ := hl
                  have hL : L ∈ X.env.locals :: X.fs := hs L (by unfold frs; rw [List.filterMap_cons, hf]; exact List.mem_cons_self)
                  refine ⟨hk, ⟨L, o, hf, frs' L o hn ho ?_, ho, hd⟩, ih (fun b hb => hs b (by unfold frs; rw [List.filterMap_cons, hf]; exact List.mem_cons_of_mem _ hb)) hr⟩
                  rcases List.mem_cons.mp hL with z | z
                  · exact .inr z
                  · exact .inl z
              exact all X.stack I2.stkSub I2.stack
          have hcal := hF (addB X.base h' ((capL caps X.env.cells).map (·.2))) (.ob f (kla_obj "<lambda>" (X.env.qual ++ "<lambda>") params body scope (capL caps X.env.cells) pm c' ctv) cvs cds) (lamD fb cds)
            ⟨f, _, cvs, cds, kla_fn "<lambda>" (X.env.qual ++ "<lambda>") params body scope (capL caps X.env.cells) pm (.ref c') ctv, ps, rfl, rfl, fn_lam S C (fun q A outer s H hr => hbody _ f c' _ q A outer s H hr), hbind _ _ _ _⟩
          obtain ⟨fn', fd, ps', G, hm', hkp', hb⟩ := hcal
          obtain rfl : fn = fn' := by rw [hm] at hm'; cases hm'; rfl
          have rob : Rep X.K H2 (dropT t w1) .f 0 (.ob f (kla_obj "<lambda>" (X.env.qual ++ "<lambda>") params body scope (capL caps X.env.cells) pm c' ctv) cvs cds) (.ref f) [] := .ob hf hc' clo rc
          have hsp : spD X.K 2 (F (.ob f (kla_obj "<lambda>" (X.env.qual ++ "<lambda>") params body scope (capL caps X.env.cells) pm c' ctv) cvs cds) (lamD fb cds)) [.int m, .ref f] H2 Q E0 := by
            refine ⟨rfl, [.int m, .ob f (kla_obj "<lambda>" (X.env.qual ++ "<lambda>") params body scope (capL caps X.env.cells) pm c' ctv) cvs cds], fun a => ((dropT t w1) a).map fun _ => Ow.f, r', q, fun a o e => ?_, ⟨fun a o e => ?_, tb2⟩, ?_, (hall _ _ _).trans hres, fun v H3 w3 Fo go3 wl3 rr => ?_⟩
            · try dsimp only at e
              cases ew : (dropT t w1) a with
              | none => rw [ew] at e; cases e
              | some o' => rw [ew] at e; cases e; rfl
            · try dsimp only at e
              cases ew : (dropT t w1) a with
              | none => rw [ew] at e; cases e
              | some o' => exact g2.wl a o' ew
            · exact .cons (F := []) (G := []) (.int m) (.cons (F := []) (G := []) (Rep.freeze (fun a n => by show ((dropT t w1) a).map _ = _; rw [n]; rfl) rob (fun _ z => nomatch z)) .nil (fun _ z => nomatch z)) (fun _ z => nomatch z)
            · obtain ⟨b1, b2, b3⟩ := back g2 go3 wl3 rr
              exact k' _ _ _ _ b1 (go02.trans b2) b3
          have vals : Vals [.int m, .ref f] [u, .ref f] := .cons rv (.cons rfl .nil)
          have hl2 : ([u, Value.ref f] ++ []).length = ps'.length := by
            rw [List.append_nil, ← vals.length]
            exact G.len _ _ _ _ hsp
          refine wpAny_call (codeAny_mono (G.run X.A X.stack _ H2 ⟨[u, .ref f], []⟩ [u, .ref f] [.int m, .ref f] Q E0 (hr.mono hk) e0 ?_ vals hsp) fun r s' hq => ?_)
          · have := hb { s1 with heap := h', toks := tk } [u, .ref f] I2.kIn hl2
            rw [List.append_nil] at this
            exact this
          · cases r with
            | error e => exact False.elim hq
            | ok fl =>
              cases fl with
              | ret u => exact I2.after hq
              | next => exact False.elim hq
              | brk => exact False.elim hq
              | cont => exact False.elim hq
        · cases ee
      · cases ee
    · cases ee
  · cases ee
end L3
set_option Elab.async false
set_option linter.all false
set_option maxRecDepth 100000
namespace L3
open PySem PySem.Spec PyProof.Rows L2
end L3
set_option Elab.async false
set_option linter.all false
set_option maxRecDepth 100000
namespace L3
open PySem PySem.Spec PyProof.Rows PySem.W L2
section
variable {X : Cx} {a b : Expr} {g : DenA} {pos p : Pos}
noncomputable def sPar (i j : Nat) (g : DenA) : DenS := fun ρ => match g ρ with
  | some ([d, e], ρ1) => some (.nx ((ρ1.set i (some (d, dep0 d))).set j (some (e, dep0 e))))
  | _ => none
theorem pds_par {i j : Nat} {x y : Str} {px py pt : Pos} {kt k2 pt2} (hc : X.calm = true) (hN : X.N.Nodup) (hi : X.N[i]? = some x) (hj : X.N[j]? = some y) (hij : i ≠ j) (ha : PDA X [a, b] g)
    (hx : X.env.scope.names.lookup x = some .local := by rfl) (hy : X.env.scope.names.lookup y = some .local := by rfl)
    (hw : swappedStores [.Tuple [.Name x px, .Name y py] kt pt] (.Tuple [a, b] k2 pt2) X.env = pure (some [x, y]) := by rfl)
    (hs : swapsWithSole [.Tuple [.Name x px, .Name y py] kt pt] (.Tuple [a, b] k2 pt2) pos.line X.env = pure false := by rfl) :
    PDS X (.Assign [.Tuple [.Name x px, .Name y py] kt pt] (.Tuple [a, b] k2 pt2) pos) (sPar i j g) := by
  intro pins s σ H D I hh0
  refine ps_par hc hN hi hj hij hx hy ha hw hs pins s σ H D I ?_
  have hli : i < σ.length := by rw [I.len]; exact (List.getElem?_eq_some_iff.mp hi).1
  have hlj : j < σ.length := by rw [I.len]; exact (List.getElem?_eq_some_iff.mp hj).1
  obtain ⟨ρ, w, o, gd, ee, k⟩ := hh0
  unfold sPar at ee
  split at ee
  · rename_i d e ρ1 h1
    cases ee
    refine ⟨ρ, w, 0, _, ρ1, gd, h1, fun vs H1 w1 g1 go1 r1 => ?_⟩
    obtain ⟨v, v', rfl, ra, rb⟩ := two r1
    obtain ⟨g2, go2⟩ := g1.setV (i := i) hli ra
    obtain ⟨g3, go3⟩ := g2.setV (i := j) (by rw [List.length_set]; exact hlj) (rb.go0 g1.wl go2.stab)
    exact ⟨v, v', rfl, k _ _ _ (by rw [List.length_set, List.length_set]) g3 ((go1.trans go2).trans go3)⟩
  · cases ee
theorem pd_call0 {j k : Nat} {x : Str} {F : List D → Option (D × Nat)} (C : Cal X.prog X.w X.K X.mg X.base k x 0 F) (hr : Room j X.A) (hk : k ≤ j) (hg : Gl X x := by rfl) (hdb : (x == ("__debug__" : Str)) = false := by decide) :
    PD X (.Call (.Name x p) [] [] pos) (eCall F 0 aNil) := by
  obtain ⟨f, fd, ps, G, hm, hkp, hb⟩ := C
  refine PE.imp (pe_call0 (E := fun _ _ _ => False) G (hr.mono hk) hg hm hkp hb .nil pass0 hdb) fun σ H Q hh0 => ?_
  obtain ⟨ρ, w, t, r', q, ρ', gd, ee, k⟩ := hh0
  unfold eCall aNil at ee
  simp only [List.length_nil, if_true] at ee
  split at ee
  · rename_i r0 q0 h2
    cases ee
    show spD X.K 0 F ([] ++ []) H Q fun _ _ _ => False
    refine ⟨rfl, [], fun a => (w a).map fun _ => Ow.f, r', q, fun a o e => ?_, ⟨fun a o e => ?_, gd.wl.tb⟩, .nil, h2, fun v H2 w2 Fo go2 wl2 rr => ?_⟩
    · dsimp only at e
      cases ew : w a with
      | none => rw [ew] at e; cases e
      | some o' => rw [ew] at e; cases e; rfl
    · try dsimp only at e
      cases ew : w a with
      | none => rw [ew] at e; cases e
      | some o' => exact gd.wl a o' ew
    · obtain ⟨b1, b2, b3⟩ := back gd go2 wl2 rr
      exact k _ _ _ _ b1 b2 b3
  · cases ee
end
end L3
set_option Elab.async false
set_option linter.all false
set_option maxRecDepth 100000
namespace L3
open PySem PySem.Spec PyProof.Rows L2
structure QE (X : Cx) (e : Expr) (t : TE) : Prop where mk :: o : PE X e t
structure QD (X : Cx) (e : Expr) (f : Den) : Prop where mk :: o : PD X e f
structure QDA (X : Cx) (e : List Expr) (f : DenA) : Prop where mk :: o : PDA X e f
structure QDT (X : Cx) (e : Expr) (f : DenT) : Prop where mk :: o : PDT X e f
structure QDW (X : Cx) (e : Expr) (f : DenT) : Prop where mk :: o : PDW X e f
structure QDS (X : Cx) (e : Stmt) (f : DenS) : Prop where mk :: o : PDS X e f
structure QDSs (X : Cx) (e : List Stmt) (f : DenS) : Prop where mk :: o : PDSs X e f
structure QDI (X : Cx) (tg e : Expr) (f : DenI) : Prop where mk :: o : PDI X tg e f
structure QDG (X : Cx) (b : Nat) (e : Expr) (f : DenP) : Prop where mk :: o : PDG X b e f
structure QDGs (X : Cx) (b : Nat) (e : List Expr) (f : DenPs) : Prop where mk :: o : PDGs X b e f
structure QDO (X : Cx) (e : Option Expr) (f : DenO) : Prop where mk :: o : PDO X e f
structure QDTs (X : Cx) (e : List Expr) (f : DenT) : Prop where mk :: o : PDTs X e f
structure QQ (X : Cx) (e : Expr) (f : DenQ) : Prop where mk :: o : PQ X e f
structure QXS (X : Cx) (E : XK) (e : Stmt) (x : DenX) : Prop where mk :: o : PXS X E e x
structure QXB (X : Cx) (E : XK) (e : List Stmt) (x : DenX) : Prop where mk :: o : PXB X E e x
structure QTS (Y : Cx) (e : Stmt) (y : DenY) : Prop where mk :: o : PTS Y e y
structure QTB (Y : Cx) (e : List Stmt) (y : DenY) : Prop where mk :: o : PTB Y e y
theorem qv {X : Cx} (i : Nat) {x : Str} {pos : Pos} (hN : X.N[i]? = some x := by rfl) (hv : Vis X.env.scope x := by first | exact Or.inl rfl | exact Or.inr (Or.inl rfl) | exact Or.inr (Or.inr rfl)) (hd : (x == ("__debug__" : Str)) = false := by decide) (hcd : (x == ("__classdict__" : Str)) = false := by decide) : QE X (.Name x pos) (tVar i) := ⟨pv i hN hv hd hcd⟩
theorem qw_pt {X : Cx} {e : Expr} {f : DenT} (h : QDW X e f) : QDT X e f := ⟨PW.pt h.o⟩
section
variable {X : Cx} {a b c e : Expr} {fa fb fc f : Den} {pos : Pos}
theorem qd_int {i j} : QD X (.Constant (.int i) j pos) (eC (.int i)) := ⟨pd_int ⟩
end
section
variable {X : Cx} {a b c e : Expr} {fa fb fc f : Den} {pos : Pos}
theorem qd_bl {i j} : QD X (.Constant (.bool i) j pos) (eC (.bl i)) := ⟨pd_bl ⟩
end
section
variable {X : Cx} {a b c e : Expr} {fa fb fc f : Den} {pos : Pos}
theorem qd_non {j} : QD X (.Constant .none j pos) (eC .non) := ⟨pd_non ⟩
end
section
variable {X : Cx} {a b c e : Expr} {fa fb fc f : Den} {pos : Pos}
theorem qd_str {x j} : QD X (.Constant (.str x) j pos) (eC (.str x)) := ⟨pd_str ⟩
end
section
variable {X : Cx} {a b c e : Expr} {fa fb fc f : Den} {pos : Pos}
theorem qd_var {i : Nat} {x : Str} (h : QE X (.Name x pos) (tVar i)) : QD X (.Name x pos) (eVar i) := ⟨pd_var h.o⟩
end
section
variable {X : Cx} {a b c e : Expr} {fa fb fc f : Den} {pos : Pos}
theorem qd_add (ha : QD X a fa) (hb : QD X b fb) : QD X (.BinOp a .Add b pos) (e2 dAdd fa fb) := ⟨pd_add ha.o hb.o⟩
end
section
variable {X : Cx} {a b c e : Expr} {fa fb fc f : Den} {pos : Pos}
theorem qd_mul (ha : QD X a fa) (hb : QD X b fb) : QD X (.BinOp a .Mult b pos) (e2 dMul fa fb) := ⟨pd_mul ha.o hb.o⟩
end
section
variable {X : Cx} {a b c e : Expr} {fa fb fc f : Den} {pos : Pos}
theorem qd_div (ha : QD X a fa) (hb : QD X b fb) : QD X (.BinOp a .FloorDiv b pos) (e2 dDiv fa fb) := ⟨pd_div ha.o hb.o⟩
end
section
variable {X : Cx} {a b c e : Expr} {fa fb fc f : Den} {pos : Pos}
theorem qd_mod (ha : QD X a fa) (hb : QD X b fb) : QD X (.BinOp a .Mod b pos) (e2 dMod fa fb) := ⟨pd_mod ha.o hb.o⟩
end
section
variable {X : Cx} {a b c e : Expr} {fa fb fc f : Den} {pos : Pos}
theorem qd_ix (ha : QD X a fa) (hb : QD X b fb) (hs : PlainIx b := by exact fun _ _ => rfl) : QD X (.Subscript a b pos) (eIx fa fb) := ⟨pd_ix ha.o hb.o hs⟩
end
section
variable {X : Cx} {a b c e : Expr} {fa fb fc f : Den} {pos : Pos}
theorem qda_nil  : QDA X [] aNil := ⟨pda_nil ⟩
end
section
variable {X : Cx} {a b c e : Expr} {fa fb fc f : Den} {pos : Pos}
theorem qda_cons {es : List Expr} {g : DenA} (ha : QD X e f) (hr : QDA X es g) (hs : starEach (e :: es) X.env = (false, eval e X.env) :: starEach es X.env := by rfl) : QDA X (e :: es) (aCons f g) := ⟨pda_cons ha.o hr.o hs⟩
end
section
variable {X : Cx} {a b c e : Expr} {fa fb fc f : Den} {pos : Pos}
theorem qd_lst {es : List Expr} {g : DenA} (h : QDA X es g) : QD X (.List es pos) (eLst g) := ⟨pd_lst h.o⟩
end
section
variable {X : Cx} {a b c e : Expr} {fa fb fc f : Den} {pos : Pos}
theorem qd_tup {es : List Expr} {g : DenA} {x1} (h : QDA X es g) : QD X (.Tuple es x1 pos) (eTup g) := ⟨pd_tup h.o⟩
end
section
variable {X : Cx} {a b c e : Expr} {fa fb fc f : Den} {ga gb gc : DenT} {pos : Pos}
theorem qdt_val (ha : QD X a fa) (he : ∀ whole, isTrue a X.env whole = (do let v ← whole; standAt a.pos; holding [v] (truthy v)) := by exact fun _ => rfl) : QDT X a (tOfV fa) := ⟨pdt_val ha.o he⟩
end
section
variable {X : Cx} {a b c e : Expr} {fa fb fc f : Den} {ga gb gc : DenT} {pos : Pos}
theorem qdt_lt (ha : QD X a fa) (hb : QD X b fb) : QDT X (.Compare a [.Lt] [b] pos) (tOfB (e2 dLt fa fb)) := ⟨pdt_lt ha.o hb.o⟩
end
section
variable {X : Cx} {a b c e : Expr} {fa fb fc f : Den} {ga gb gc : DenT} {pos : Pos}
theorem qdt_gt (ha : QD X a fa) (hb : QD X b fb) : QDT X (.Compare a [.Gt] [b] pos) (tOfB (e2 dGt fa fb)) := ⟨pdt_gt ha.o hb.o⟩
end
section
variable {X : Cx} {a b c e : Expr} {fa fb fc f : Den} {ga gb gc : DenT} {pos : Pos}
theorem qdt_not (ha : QDT X a ga) : QDT X (.UnaryOp .Not a pos) (tNotD ga) := ⟨pdt_not ha.o⟩
end
section
variable {X : Cx} {a b c e : Expr} {fa fb fc f : Den} {ga gb gc : DenT} {pos : Pos} {rest : List Expr}
theorem qdw_and1 (ha : QDT X a ga) : QDW X (.BoolOp .And [a] pos) ga := ⟨pdw_and1 ha.o⟩
end
section
variable {X : Cx} {a b c e : Expr} {fa fb fc f : Den} {ga gb gc : DenT} {pos : Pos} {rest : List Expr}
theorem qdw_or1 (ha : QDT X a ga) : QDW X (.BoolOp .Or [a] pos) ga := ⟨pdw_or1 ha.o⟩
end
section
variable {X : Cx} {a b c e : Expr} {fa fb fc f : Den} {ga gb gc : DenT} {pos : Pos} {rest : List Expr}
theorem qdw_and (ha : QDT X a ga) (hb : QDW X (.BoolOp .And (b :: rest) pos) gb) : QDW X (.BoolOp .And (a :: b :: rest) pos) (tAndD ga gb) := ⟨pdw_and ha.o hb.o⟩
end
section
variable {X : Cx} {a b c e : Expr} {fa fb fc f : Den} {ga gb gc : DenT} {pos : Pos} {rest : List Expr}
theorem qdw_or (ha : QDT X a ga) (hb : QDW X (.BoolOp .Or (b :: rest) pos) gb) : QDW X (.BoolOp .Or (a :: b :: rest) pos) (tOrD ga gb) := ⟨pdw_or ha.o hb.o⟩
end
section
variable {X : Cx} {a b c e : Expr} {fa fb fc f : Den} {ga gb gc : DenT} {pos : Pos} {rest : List Expr}
theorem qd_ifExp (hc : QDT X c gc) (ha : QD X a fa) (hb : QD X b fb) : QD X (.IfExp c a b pos) (eIf gc fa fb) := ⟨pd_ifExp hc.o ha.o hb.o⟩
end
section
variable {X : Cx} {a b c e : Expr} {fa fb fc f : Den} {ga gb gc : DenT} {pos : Pos} {st : Stmt} {rest sa sb : List Stmt} {s s' : DenS}
theorem qds_nil  : QDSs X [] sNil := ⟨pds_nil ⟩
end
section
variable {X : Cx} {a b c e : Expr} {fa fb fc f : Den} {ga gb gc : DenT} {pos : Pos} {st : Stmt} {rest sa sb : List Stmt} {s s' : DenS}
theorem qds_cons (h1 : QDS X st s) (h2 : QDSs X rest s') : QDSs X (st :: rest) (sSeq s s') := ⟨pds_cons h1.o h2.o⟩
end
section
variable {X : Cx} {a b c e : Expr} {fa fb fc f : Den} {ga gb gc : DenT} {pos : Pos} {st : Stmt} {rest sa sb : List Stmt} {s s' : DenS}
theorem qds_one (h1 : QDS X st s) : QDSs X [st] s := ⟨pds_one h1.o⟩
end
section
variable {X : Cx} {a b c e : Expr} {fa fb fc f : Den} {ga gb gc : DenT} {pos : Pos} {st : Stmt} {rest sa sb : List Stmt} {s s' : DenS}
theorem qds_ret (h : QD X e f) : QDS X (.Return (some e) pos) (sRet f) := ⟨pds_ret h.o⟩
end
section
variable {X : Cx} {a b c e : Expr} {fa fb fc f : Den} {ga gb gc : DenT} {pos : Pos} {st : Stmt} {rest sa sb : List Stmt} {s s' : DenS}
theorem qds_if (hc : QDT X c gc) (ha : QDSs X sa s) (hb : QDSs X sb s') : QDS X (.If c sa sb pos) (sIf gc s s') := ⟨pds_if hc.o ha.o hb.o⟩
end
section
variable {X : Cx} {a b c e : Expr} {fa fb fc f : Den} {ga gb gc : DenT} {pos : Pos} {st : Stmt} {rest sa sb : List Stmt} {s s' : DenS}
theorem qds_set {i : Nat} {x : Str} {pos' : Pos} (hN : X.N.Nodup) (hi : X.N[i]? = some x) (hx : Loc X.env.scope x) (he : QD X e f) (hs : swapsWith e (some (.Name x pos')) pos.line X.env = pure false := by rfl) (hf : X.fn x = true ∨ X.env.scope.names.lookup x = some .local := by first | exact .inl rfl | exact .inr rfl) : QDS X (.Assign [.Name x pos'] e pos) (sSet i f) := ⟨pds_set hN hi hx he.o hs hf⟩
end
section
variable {X : Cx} {a b c e : Expr} {fa fb fc f : Den} {ga gb gc : DenT} {pos : Pos} {st : Stmt} {rest sa sb : List Stmt} {s s' : DenS}
theorem qds_expr (he : QD X e f) (hs : swapsWith e none pos.line X.env = pure false := by rfl) : QDS X (.Expr e pos) (sDrop f) := ⟨pds_expr he.o hs⟩
end
section
variable {X : Cx} {tg a b c e : Expr} {fa fb fc f : Den} {ga gb gc : DenT} {pos p : Pos}
theorem qdi_range1 {g : DenA} (hm : X.mg "range" = none) (ha : QDA X [a] g) (hg : Gl X "range" := by rfl) (hs : starEach [a] X.env = [(false, eval a X.env)] := by rfl) : QDI X tg (.Call (.Name "range" p) [a] [] pos) (iRange g) := ⟨pdi_range1 hm ha.o hg hs⟩
end
section
variable {X : Cx} {tg a b c e : Expr} {fa fb fc f : Den} {ga gb gc : DenT} {pos p : Pos}
theorem qdi_val (ha : QD X a fa) : QDI X tg a (iVal fa) := ⟨pdi_val ha.o⟩
end
section
theorem qdg_name {X : Cx} {b i : Nat} {x : Str} {pos : Pos} (hb : b ≤ i) (hN : X.N.Nodup) (hi : X.N[i]? = some x) (hx : Loc X.env.scope x) (hf : X.fn x = true ∨ X.env.scope.names.lookup x = some .local := by first | exact .inl rfl | exact .inr rfl) : QDG X b (.Name x pos) (pName i) := ⟨pdg_name hb hN hi hx hf⟩
end
section
theorem qds_for {X : Cx} {tg iter : Expr} {body : List Stmt} {it : DenI} {pt : DenP} {s : DenS} {pos : Pos} (hp : PassesOwn (model X.prog X.w) X.A X.env X.xe) (hc : X.calm = true) (hi : QDI X tg iter it) (hg : QDG X 0 tg pt) (hb : QDSs X body s) (hs : ∀ x, foldedSetIterable iter X.env x = pure x := by intro _; rfl) : QDS X (.For tg iter body [] pos) (sFor it pt s) := ⟨pds_for hp hc hi.o hg.o hb.o hs⟩
end
section
variable {X : Cx} {k : Nat} {N' : List Str} {scope : Scope} {elt tg iter : Expr} {ifs : List Expr} {pos : Pos} {it : DenI} {pt : DenP} {tt : DenT} {te : Den}
theorem qdts_nil  : QDTs X [] tYesD := ⟨pdts_nil ⟩
end
section
variable {X : Cx} {k : Nat} {N' : List Str} {scope : Scope} {elt tg iter : Expr} {ifs : List Expr} {pos : Pos} {it : DenI} {pt : DenP} {tt : DenT} {te : Den}
theorem qdts_one {c : Expr} {g : DenT} (h : QDT X c g) : QDTs X [c] g := ⟨pdts_one h.o⟩
end
section
variable {X : Cx} {k : Nat} {N' : List Str} {scope : Scope} {elt tg iter : Expr} {ifs : List Expr} {pos : Pos} {it : DenI} {pt : DenP} {tt : DenT} {te : Den}
theorem qd_comp (deep : Bool) (hc : X.calm = true) (S : CompOk X k N' scope) (hi : QDI X tg iter it) (hg : ∀ C s H fp, QDG (compCx X N' scope C s H fp) X.N.length tg pt) (ht : ∀ C s H fp, QDTs (compCx X N' scope C s H fp) ifs tt) (he : ∀ C s H fp, QD (compCx X N' scope C s H fp) elt te) (hs : ∀ x, foldedSetIterable iter X.env x = pure x := by intro _; rfl) : QD X (.ListComp elt [⟨tg, iter, ifs, 0⟩] scope pos) (eComp k it pt tt te deep) := ⟨pd_comp deep hc S hi.o (fun C s H fp => (hg C s H fp).o) (fun C s H fp => (ht C s H fp).o) (fun C s H fp => (he C s H fp).o) hs⟩
end
section
variable {X : Cx} {a b c e : Expr} {fa fb fc f : Den} {pos : Pos}
theorem qd_eq {k : Nat} (hr : Room k X.A) (ha : QD X a fa) (hb : QD X b fb) : QD X (.Compare a [.Eq] [b] pos) (e2 dEq fa fb) := ⟨pd_eq hr ha.o hb.o⟩
end
section
variable {X : Cx} {a b c e : Expr} {fa fb fc f : Den} {pos : Pos}
theorem qdt_eq {k : Nat} (hr : Room k X.A) (ha : QD X a fa) (hb : QD X b fb) : QDT X (.Compare a [.Eq] [b] pos) (tOfB (e2 dEq fa fb)) := ⟨pdt_eq hr ha.o hb.o⟩
end
section
variable {X : Cx} {a b c e : Expr} {fa fb fc f : Den} {pos : Pos}
theorem qdt_ne {k : Nat} (hr : Room k X.A) (ha : QD X a fa) (hb : QD X b fb) : QDT X (.Compare a [.NotEq] [b] pos) (tOfB (e2 dNe fa fb)) := ⟨pdt_ne hr ha.o hb.o⟩
end
section
variable {X : Cx} {a b c e : Expr} {fa fb fc f : Den} {pos : Pos}
theorem qd_in {k : Nat} (hr : Room k X.A) (ha : QD X a fa) (hb : QD X b fb) (hm : behindInMarks .In b = false := by with_unfolding_all rfl) : QD X (.Compare a [.In] [b] pos) (e2 dIn fa fb) := ⟨pd_in hr ha.o hb.o hm⟩
end
section
variable {X : Cx} {a b c e : Expr} {fa fb fc f : Den} {pos : Pos}
theorem qdt_notin {k : Nat} (hr : Room k X.A) (ha : QD X a fa) (hb : QD X b fb) (hm : behindInMarks .NotIn b = false := by with_unfolding_all rfl) : QDT X (.Compare a [.NotIn] [b] pos) (tOfB (e2 dNotIn fa fb)) := ⟨pdt_notin hr ha.o hb.o hm⟩
end
section
variable {X : Cx} {a b c e : Expr} {es : List Expr} {fa fb fc f : Den} {g : DenA} {pos p p1 p2 : Pos}
theorem qd_len (hm : X.mg "len" = none) (ha : QDA X [a] g) (hg : Gl X "len" := by rfl) (he : starEach [a] X.env = (false, eval a X.env) :: starEach [] X.env := by rfl) (hpl : (backTo pos (starEach [] X.env)).any (·.1) = false := by rfl) : QD X (.Call (.Name "len" p) [a] [] pos) (eB bLen g) := ⟨pd_len hm ha.o hg he hpl⟩
end
section
variable {X : Cx} {a b c e : Expr} {es : List Expr} {fa fb fc f : Den} {g : DenA} {pos p p1 p2 : Pos}
theorem qd_lenV {i : Nat} {x : Str} (hm : X.mg "len" = none) (h : QE X (.Name x p1) (tVar i)) (hg : Gl X "len" := by rfl) (he : starEach [.Name x p1] X.env = (false, eval (.Name x p1) X.env) :: starEach [] X.env := by rfl) (hpl : (backTo pos (starEach [] X.env)).any (·.1) = false := by rfl) : QD X (.Call (.Name "len" p) [.Name x p1] [] pos) (eLenV i) := ⟨pd_lenV hm h.o hg he hpl⟩
end
section
variable {X : Cx} {a b c e : Expr} {es : List Expr} {fa fb fc f : Den} {g : DenA} {pos p p1 p2 : Pos}
theorem qd_max2 (hc : X.calm = true) (hm : X.mg "max" = none) (hb : bootBuiltins "max" = some (.builtin "max")) (ha : QDA X (a :: es) g) (hg : Gl X "max" := by rfl) (he : starEach (a :: es) X.env = (false, eval a X.env) :: starEach es X.env := by rfl) (hpl : (backTo pos (starEach es X.env)).any (·.1) = false := by rfl) : QD X (.Call (.Name "max" p) (a :: es) [] pos) (eB bMax g) := ⟨pd_max2 hc hm hb ha.o hg he hpl⟩
end
section
variable {X : Cx} {a b c e : Expr} {es : List Expr} {fa fb fc f : Den} {g : DenA} {pos p p1 p2 : Pos}
theorem qd_tupOf (hm : X.mg "tuple" = none) (hb : bootBuiltins "tuple" = some (.type "tuple")) (ha : QDA X [a] g) (hg : Gl X "tuple" := by rfl) (he : starEach [a] X.env = (false, eval a X.env) :: starEach [] X.env := by rfl) (hpl : (backTo pos (starEach [] X.env)).any (·.1) = false := by rfl) : QD X (.Call (.Name "tuple" p) [a] [] pos) (eTupOf g) := ⟨pd_tupOf hm hb ha.o hg he hpl⟩
end
section
variable {X : Cx} {a : Expr} {g : DenA} {pos p p1 pos1 : Pos}
theorem qd_tupR (hc : X.calm = true) (hm : X.mg "tuple" = none) (hb : bootBuiltins "tuple" = some (.type "tuple")) (hmr : X.mg "range" = none) (ha : QDA X [a] g) (hg : Gl X "tuple" := by rfl) (hgr : Gl X "range" := by rfl) (hs : starEach [a] X.env = [(false, eval a X.env)] := by rfl) (he : starEach [.Call (.Name "range" p1) [a] [] pos1] X.env = (false, eval (.Call (.Name "range" p1) [a] [] pos1) X.env) :: starEach [] X.env := by rfl) (hpl : (backTo pos (starEach [] X.env)).any (·.1) = false := by rfl) : QD X (.Call (.Name "tuple" p) [.Call (.Name "range" p1) [a] [] pos1] [] pos) (eTupR g) := ⟨pd_tupR hc hm hb hmr ha.o hg hgr hs he hpl⟩
end
section
variable {X : Cx} {a b c e : Expr} {es : List Expr} {fa fb fc f : Den} {g : DenA} {pos p p1 p2 cpos apos : Pos}
theorem qd_index {k : Nat} (hr : Room k X.A) (ho : QD X a fa) (ha : QDA X [e] g) (hbase : attributeBase a "index" X.env (eval a X.env) = eval a X.env := by rfl) (hfew : ((backTo cpos (starEach [e] X.env)).all (fun x => !x.1) && (backToKw cpos (keywordEach [] X.env)).all (fun x => x.1.isSome)
      && decide ([e].length + ([] : List Keyword).length + (if ([] : List Keyword).isEmpty then 0 else 1) < 30)) = true := by rfl) (hline : (apos.endLine == cpos.line) = true := by rfl) (hs : starEach [e] X.env = (false, eval e X.env) :: starEach [] X.env := by rfl) (hplain : (backTo cpos (starEach [] X.env)).any (·.1) = false := by rfl) : QD X (.Call (.Attribute a "index" apos) [e] [] cpos) (eIndex fa g) := ⟨pd_index hr ho.o ha.o hbase hfew hline hs hplain⟩
end
section
variable {X : Cx} {a b c e : Expr} {es : List Expr} {fa fb fc f : Den} {g : DenA} {pos p p1 p2 cpos apos : Pos}
theorem qd_append {i : Nat} {x : Str} (h : QE X (.Name x p1) (tVar i)) (ha : QDA X [e] g) (hbase : attributeBase (.Name x p1) "append" X.env (eval (.Name x p1) X.env) = eval (.Name x p1) X.env := by rfl) (hfew : ((backTo cpos (starEach [e] X.env)).all (fun x => !x.1) && (backToKw cpos (keywordEach [] X.env)).all (fun x => x.1.isSome)
      && decide ([e].length + ([] : List Keyword).length + (if ([] : List Keyword).isEmpty then 0 else 1) < 30)) = true := by rfl) (hline : (apos.endLine == cpos.line) = true := by rfl) (hs : starEach [e] X.env = (false, eval e X.env) :: starEach [] X.env := by rfl) (hplain : (backTo cpos (starEach [] X.env)).any (·.1) = false := by rfl) : QD X (.Call (.Attribute (.Name x p1) "append" apos) [e] [] cpos) (eApp i g) := ⟨pd_append h.o ha.o hbase hfew hline hs hplain⟩
end
section
variable {X : Cx} {a b c e : Expr} {es : List Expr} {fa fb fc f : Den} {g : DenA} {pos p p1 p2 cpos apos : Pos}
theorem qd_ixV {n : Nat} {x : Str} (h : QE X (.Name x p1) (tVar n)) (hb : QD X b fb) (hs : PlainIx b := by exact fun _ _ => rfl) : QD X (.Subscript (.Name x p1) b pos) (eIxV n fb) := ⟨pd_ixV h.o hb.o hs⟩
end
section
variable {X : Cx} {a b c e : Expr} {es : List Expr} {fa fb fc f : Den} {g : DenA} {pos p p1 p2 cpos apos : Pos}
theorem qd_repL (ha : QD X a fa) (hb : QD X b fb) : QD X (.BinOp a .Mult b pos) (eRepL fa fb) := ⟨pd_repL ha.o hb.o⟩
end
section
variable {X : Cx} {a b c e : Expr} {es : List Expr} {fa fb fc f : Den} {qa qb : DenQ} {g : DenA} {pos p p1 p2 cpos apos : Pos}
theorem qq_ix {n : Nat} {x : Str} (h : QE X (.Name x p1) (tVar n)) (hb : QQ X b qb) (hs : PlainIx b := by exact fun _ _ => rfl) : QQ X (.Subscript (.Name x p1) b pos) (qIx n qb) := ⟨pq_ix h.o hb.o hs⟩
end
section
variable {X : Cx} {a b c e : Expr} {es rest : List Expr} {fa fb fc f : Den} {g : DenA} {pos p p1 p2 cpos apos : Pos}
theorem qd_one {op} (h : QD X a fa) : QD X (.BoolOp op [a] pos) fa := ⟨pd_one h.o⟩
end
section
variable {X : Cx} {a b c e : Expr} {es rest : List Expr} {fa fb fc f : Den} {g : DenA} {pos p p1 p2 cpos apos : Pos}
theorem qd_and (ha : QD X a fa) (hb : QD X (.BoolOp .And (b :: rest) pos) fb) : QD X (.BoolOp .And (a :: b :: rest) pos) (eAnd fa fb) := ⟨pd_and ha.o hb.o⟩
end
section
variable {X : Cx} {a b c e : Expr} {es rest : List Expr} {fa fb fc f : Den} {g : DenA} {pos p p1 p2 cpos apos : Pos}
theorem qd_or (ha : QD X a fa) (hb : QD X (.BoolOp .Or (b :: rest) pos) fb) : QD X (.BoolOp .Or (a :: b :: rest) pos) (eOr fa fb) := ⟨pd_or ha.o hb.o⟩
end
section
variable {X : Cx} {a b c e : Expr} {es rest : List Expr} {fa fb fc f : Den} {g : DenA} {pos p p1 p2 cpos apos : Pos}
theorem qd_not (ha : QD X a fa) : QD X (.UnaryOp .Not a pos) (eNot fa) := ⟨pd_not ha.o⟩
end
section
variable {X : Cx} {a b c e : Expr} {es rest : List Expr} {fa fb fc f : Den} {g : DenA} {pos p p1 p2 cpos apos : Pos}
theorem qd_callC {j k n : Nat} {x : Str} {F : List D → Option (D × Nat)} (C : Cal X.prog X.w X.K X.mg X.base k x n F) (hr : Room j X.A) (hk : k ≤ j) (ha : QDA X (e :: es) g) (hg : Gl X x := by rfl) (hdb : (x == ("__debug__" : Str)) = false := by decide) (he : starEach (e :: es) X.env = (false, eval e X.env) :: starEach es X.env := by rfl) (hpl : (backTo pos (starEach es X.env)).any (·.1) = false := by rfl) : QD X (.Call (.Name x p) (e :: es) [] pos) (eCall F n g) := ⟨pd_callC C hr hk ha.o hg hdb he hpl⟩
end
section
variable {X : Cx} {k b : Nat} {e : Expr} {es : List Expr} {pt : DenP} {ps : DenPs} {pos : Pos}
theorem qdgs_nil  : QDGs X b [] psNil := ⟨pdgs_nil ⟩
end
section
variable {X : Cx} {k b : Nat} {e : Expr} {es : List Expr} {pt : DenP} {ps : DenPs} {pos : Pos}
theorem qdgs_cons (h1 : QDG X b e pt) (h2 : QDGs X b es ps) (hs : (assignEach (e :: es) X.env).map (·.2) = assign e X.env :: (assignEach es X.env).map (·.2) := by rfl) : QDGs X b (e :: es) (psCons pt ps) := ⟨pdgs_cons h1.o h2.o hs⟩
end
section
variable {X : Cx} {k b : Nat} {e : Expr} {es : List Expr} {pt : DenP} {ps : DenPs} {pos : Pos}
theorem qdg_tup {n : Nat} (hc : X.calm = true) (h : QDGs X b es ps) (hl : ∀ ds ρ ρ', ps ds ρ = some ρ' → ds.length = n) (hn : (assignEach es X.env).length = n := by rfl) (hst : (assignEach es X.env).findIdx? (·.1) = none := by rfl) : QDG X b (.Tuple es k pos) (pTup ps) := ⟨pdg_tup hc h.o hl hn hst⟩
end
section
variable {X : Cx} {a b c e : Expr} {es : List Expr} {fa fb fc f : Den} {g : DenA} {pos p p1 p2 : Pos}
theorem qd_all (hc : X.calm = true) (hm : X.mg "all" = none) (ha : QDA X [a] g) (hg : Gl X "all" := by rfl) (he : starEach [a] X.env = (false, eval a X.env) :: starEach [] X.env := by rfl) (hpl : (backTo pos (starEach [] X.env)).any (·.1) = false := by rfl) : QD X (.Call (.Name "all" p) [a] [] pos) (eB bAll g) := ⟨pd_all hc hm ha.o hg he hpl⟩
end
section
variable {X : Cx} {a b c e : Expr} {es : List Expr} {fa fb fc f : Den} {ga gb : DenT} {g : DenA} {pos p p1 p2 pT : Pos}
theorem qd_isi (T : IT) {t : Str} (hm : X.mg "isinstance" = none) (hmT : X.mg t = none) (hbT : bootBuiltins t = some (.type T.nm)) (ha : QD X a fa) (hg : Gl X "isinstance" := by rfl) (hgT : Gl X t := by rfl) (hnT : t ≠ "__name__" := by decide) (hdT : (t == ("__debug__" : Str)) = false := by decide) (hs : starEach [a, .Name t pT] X.env = (false, eval a X.env) :: starEach [.Name t pT] X.env := by rfl) (hpl : (backTo pos (starEach [.Name t pT] X.env)).any (·.1) = false := by rfl) : QD X (.Call (.Name "isinstance" p) [a, .Name t pT] [] pos) (eIsi T fa) := ⟨pd_isi T hm hmT hbT ha.o hg hgT hnT hdT hs hpl⟩
end
section
variable {X : Cx} {a b c e : Expr} {es : List Expr} {fa fb fc f : Den} {ga gb : DenT} {g : DenA} {pos p p1 p2 pT : Pos}
theorem qd_ch_le_lt (ha : QD X a fa) (hb : QD X b fb) (hc : QD X c fc) (hm : lastMarks [.LtE, .Lt] [b, c] = false := by with_unfolding_all rfl) : QD X (.Compare a [.LtE, .Lt] [b, c] pos) (eCh dLe dLt fa fb fc) := ⟨pd_ch_le_lt ha.o hb.o hc.o hm⟩
end
section
variable {X : Cx} {a b c e : Expr} {es : List Expr} {fa fb fc f : Den} {ga gb : DenT} {g : DenA} {pos p p1 p2 pT : Pos}
theorem qd_ch_le_le (ha : QD X a fa) (hb : QD X b fb) (hc : QD X c fc) (hm : lastMarks [.LtE, .LtE] [b, c] = false := by with_unfolding_all rfl) : QD X (.Compare a [.LtE, .LtE] [b, c] pos) (eCh dLe dLe fa fb fc) := ⟨pd_ch_le_le ha.o hb.o hc.o hm⟩
end
section
variable {X : Cx} {a b c e : Expr} {es : List Expr} {fa fb fc f : Den} {ga gb : DenT} {g : DenA} {pos p p1 p2 pT : Pos}
theorem qd_is (ha : QD X a fa) (hb : QD X b fb) : QD X (.Compare a [.Is] [b] pos) (e2 dIs fa fb) := ⟨pd_is ha.o hb.o⟩
end
section
variable {X : Cx} {a b c e : Expr} {es : List Expr} {fa fb fc f : Den} {ga gb : DenT} {g : DenA} {pos p p1 p2 pT : Pos}
theorem qdt_isnot (ha : QD X a fa) (hb : QD X b fb) : QDT X (.Compare a [.IsNot] [b] pos) (tOfB (e2 dIsNot fa fb)) := ⟨pdt_isnot ha.o hb.o⟩
end
section
variable {X : Cx} {a b c e : Expr} {es : List Expr} {fa fb fc f : Den} {ga gb : DenT} {g : DenA} {pos p p1 p2 pT : Pos}
theorem qd_neg (ha : QD X a fa) : QD X (.UnaryOp .USub a pos) (eNeg fa) := ⟨pd_neg ha.o⟩
end
section
variable {X : Cx} {a b c e : Expr} {es : List Expr} {fa fb fc f : Den} {ga gb : DenT} {g : DenA} {pos p p1 p2 pT : Pos}
theorem qd_cat (ha : QD X a fa) (hb : QD X b fb) : QD X (.BinOp a .Add b pos) (eCat fa fb) := ⟨pd_cat ha.o hb.o⟩
end
section
variable {X : Cx} {a b c e : Expr} {es : List Expr} {fa fb fc f : Den} {ga gb : DenT} {g : DenA} {pos p p1 p2 pT : Pos}
theorem qdo_none  : QDO X none oNone := ⟨pdo_none ⟩
end
section
variable {X : Cx} {a b c e : Expr} {es : List Expr} {fa fb fc f : Den} {ga gb : DenT} {g : DenA} {pos p p1 p2 pT : Pos}
theorem qdo_some (h : QD X e f) : QDO X (some e) (oSome f) := ⟨pdo_some h.o⟩
end
section
variable {X : Cx} {a b c e : Expr} {es : List Expr} {fa fb fc f : Den} {ga gb : DenT} {g : DenA} {pos p p1 p2 pT : Pos}
theorem qd_sl {lo hi : Option Expr} {fl fh : DenO} (ha : QD X a fa) (hl : QDO X lo fl) (hh : QDO X hi fh) : QD X (.Subscript a (.Slice lo hi none p2) pos) (eSl fa fl fh) := ⟨pd_sl ha.o hl.o hh.o⟩
end
section
variable {X : Cx} {k b n : Nat} {a c e tg : Expr} {es : List Expr} {pt : DenP} {ps : DenPs} {pos : Pos} {fa fb f : Den}
theorem qds_asg (he : QD X e f) (hg : QDG X 0 tg pt) (hs : swapsWithSole [tg] e pos.line X.env = pure false := by rfl) (hw : swappedStores [tg] e X.env = pure none := by rfl) (h1 : (assignEach [tg] X.env).map (·.2) = [assign tg X.env] := by rfl) : QDS X (.Assign [tg] e pos) (sAsg f pt) := ⟨pds_asg he.o hg.o hs hw h1⟩
end
section
variable {X : Cx} {a b c e : Expr} {fa fb fc f : Den} {pos : Pos}
theorem qd_repT (ha : QD X a fa) (hb : QD X b fb) : QD X (.BinOp a .Mult b pos) (eRepT fa fb) := ⟨pd_repT ha.o hb.o⟩
end
section
variable {X : Cx} {a b c e : Expr} {es : List Expr} {fa fb fc f : Den} {ga gb : DenT} {g : DenA} {pos p p1 p2 cpos apos : Pos}
theorem qd_glob {x : Str} {i : Int} (h : ∃ t, X.mg x = some (.int i t)) (hg : Gl X x := by rfl) (hd : (x == ("__debug__" : Str)) = false := by decide) : QD X (.Name x pos) (eC (.int i)) := ⟨pd_glob h hg hd⟩
end
section
variable {X : Cx} {a b c e : Expr} {es : List Expr} {fa fb fc f : Den} {ga gb : DenT} {g : DenA} {pos p p1 p2 cpos apos : Pos}
theorem qdt_ch_le_le (ha : QD X a fa) (hb : QD X b fb) (hc : QD X c fc) (hm : lastMarks [.LtE, .LtE] [b, c] = false := by with_unfolding_all rfl) : QDT X (.Compare a [.LtE, .LtE] [b, c] pos) (tOfB (eCh dLe dLe fa fb fc)) := ⟨pdt_ch_le_le ha.o hb.o hc.o hm⟩
end
section
variable {X : Cx} {a b c e : Expr} {es : List Expr} {fa fb fc f : Den} {ga gb : DenT} {g : DenA} {pos p p1 p2 cpos apos : Pos}
theorem qd_extend {i : Nat} {x : Str} (h : QE X (.Name x p1) (tVar i)) (ha : QD X e f) (hbase : attributeBase (.Name x p1) "extend" X.env (eval (.Name x p1) X.env) = eval (.Name x p1) X.env := by rfl) (hfew : ((backTo cpos (starEach [e] X.env)).all (fun x => !x.1) && (backToKw cpos (keywordEach [] X.env)).all (fun x => x.1.isSome)
      && decide ([e].length + ([] : List Keyword).length + (if ([] : List Keyword).isEmpty then 0 else 1) < 30)) = true := by rfl) (hline : (apos.endLine == cpos.line) = true := by rfl) (hs : starEach [e] X.env = (false, eval e X.env) :: starEach [] X.env := by rfl) (hplain : (backTo cpos (starEach [] X.env)).any (·.1) = false := by rfl) : QD X (.Call (.Attribute (.Name x p1) "extend" apos) [e] [] cpos) (eExt i f) := ⟨pd_extend h.o ha.o hbase hfew hline hs hplain⟩
end
section
variable {X : Cx} {a b c e : Expr} {es : List Expr} {fa fb fc f : Den} {ga gb gc : DenT} {g : DenA} {qa qb : DenQ} {s : DenS} {pos p p1 p2 cpos apos : Pos}
theorem qds_never {st : Stmt} : QDS X st sNever := ⟨pds_never ⟩
end
section
variable {X : Cx} {a b c e : Expr} {es : List Expr} {fa fb fc f : Den} {ga gb gc : DenT} {g : DenA} {qa qb : DenQ} {s : DenS} {pos p p1 p2 cpos apos : Pos}
theorem qd_catL (ha : QD X a fa) (hb : QD X b fb) : QD X (.BinOp a .Add b pos) (eCatL fa fb) := ⟨pd_catL ha.o hb.o⟩
end
section
variable {X : Cx} {a b c e : Expr} {es : List Expr} {fa fb fc f : Den} {ga gb gc : DenT} {g : DenA} {qa qb : DenQ} {s : DenS} {pos p p1 p2 p3 cpos apos : Pos}
theorem qq_int {i : Int} {j : Nat} : QQ X (.Constant (.int i) j pos) (qC i) := ⟨pq_int ⟩
end
section
variable {X : Cx} {a b c e : Expr} {es : List Expr} {fa fb fc f : Den} {ga gb gc : DenT} {g : DenA} {qa qb : DenQ} {s : DenS} {pos p p1 p2 p3 cpos apos : Pos}
theorem qq_lenIx {n j : Nat} {c : Int} {x : Str} (hm : X.mg "len" = none) (h : QE X (.Name x p1) (tVar n)) (hg : Gl X "len" := by rfl) (hs : PlainIx (.Constant (.int c) j p2) := by exact fun _ _ => rfl) (he : starEach [.Subscript (.Name x p1) (.Constant (.int c) j p2) p3] X.env = (false, eval (.Subscript (.Name x p1) (.Constant (.int c) j p2) p3) X.env) :: starEach [] X.env := by rfl) (hpl : (backTo pos (starEach [] X.env)).any (·.1) = false := by rfl) : QQ X (.Call (.Name "len" p) [.Subscript (.Name x p1) (.Constant (.int c) j p2) p3] [] pos) (qLenIx n c) := ⟨pq_lenIx hm h.o hg hs he hpl⟩
end
section
variable {X : Cx} {a b c e : Expr} {es : List Expr} {fa fb fc f : Den} {ga gb gc : DenT} {g : DenA} {qa qb : DenQ} {s : DenS} {pos p p1 p2 p3 cpos apos : Pos}
theorem qd_dic2 {k l : Str} {j1 j2 : Nat} (hkl : k ≠ l) (ha : QQ X a qa) (hb : QQ X b qb) : QD X (.Dict [some (.Constant (.str k) j1 p1), some (.Constant (.str l) j2 p2)] [a, b] pos) (eDic2 k l qa qb) := ⟨pd_dic2 hkl ha.o hb.o⟩
end
section
variable {X : Cx} {a b c e : Expr} {es : List Expr} {fa fb fc f : Den} {ga gb gc : DenT} {g : DenA} {qa qb : DenQ} {s : DenS} {pos p p1 p2 p3 cpos apos : Pos}
theorem qd_get2 {k : Nat} (hr : Room k X.A) (ho : QD X a fa) (he : QD X b fb) (hf : QD X c fc) (hbase : attributeBase a "get" X.env (eval a X.env) = eval a X.env := by rfl) (hfew : ((backTo cpos (starEach [b, c] X.env)).all (fun x => !x.1) && (backToKw cpos (keywordEach [] X.env)).all (fun x => x.1.isSome)
      && decide (([b, c] : List Expr).length + ([] : List Keyword).length + (if ([] : List Keyword).isEmpty then 0 else 1) < 30)) = true := by rfl) (hline : (apos.endLine == cpos.line) = true := by rfl) (htr : backTo cpos (starEach [b, c] X.env) = [(false, eval b X.env), (false, eval c X.env)] := by rfl) : QD X (.Call (.Attribute a "get" apos) [b, c] [] cpos) (eGet2 fa fb fc) := ⟨pd_get2 hr ho.o he.o hf.o hbase hfew hline htr⟩
end
section
variable {X : Cx} {a b c e : Expr} {es elts : List Expr} {fa fb fc f : Den} {g : DenA} {pos p p1 p2 tp : Pos} {kt : Nat}
theorem qdi_enum (hm : X.mg "enumerate" = none) (ha : QDA X [a] g) (hg : Gl X "enumerate" := by rfl) (hs : starEach [a] X.env = [(false, eval a X.env)] := by rfl) : QDI X (.Tuple elts kt tp) (.Call (.Name "enumerate" p) [a] [] pos) (iEnum g) := ⟨pdi_enum hm ha.o hg hs⟩
end
section
variable {X : Cx} {a b c e : Expr} {es : List Expr} {fa fb fc f : Den} {ga gb : DenT} {g : DenA} {pos p p1 p2 pT cpos apos : Pos}
theorem qd_isC {L : List Str} {nm : Str} (hC : IsC X.K X.mg L nm) (hm : X.mg "isinstance" = none) (ha : QD X a fa) (hg : Gl X "isinstance" := by rfl) (hgT : Gl X nm := by rfl) (hdT : (nm == ("__debug__" : Str)) = false := by decide) (hs : starEach [a, .Name nm pT] X.env = (false, eval a X.env) :: starEach [.Name nm pT] X.env := by rfl) (hpl : (backTo pos (starEach [.Name nm pT] X.env)).any (·.1) = false := by rfl) : QD X (.Call (.Name "isinstance" p) [a, .Name nm pT] [] pos) (eIsC L nm fa) := ⟨pd_isC hC hm ha.o hg hgT hdT hs hpl⟩
end
section
variable {X : Cx} {a b c e : Expr} {es : List Expr} {fa fb fc f : Den} {ga gb : DenT} {g : DenA} {pos p p1 p2 pT cpos apos : Pos}
theorem qd_isV (hm : X.mg "isinstance" = none) (hmT : X.mg "ValueError" = none) (ha : QD X a fa) (hg : Gl X "isinstance" := by rfl) (hgT : Gl X "ValueError" := by rfl) (hs : starEach [a, .Name "ValueError" pT] X.env = (false, eval a X.env) :: starEach [.Name "ValueError" pT] X.env := by rfl) (hpl : (backTo pos (starEach [.Name "ValueError" pT] X.env)).any (·.1) = false := by rfl) : QD X (.Call (.Name "isinstance" p) [a, .Name "ValueError" pT] [] pos) (eIsV fa) := ⟨pd_isV hm hmT ha.o hg hgT hs hpl⟩
end
section
variable {X : Cx} {a b c e : Expr} {es : List Expr} {fa fb fc f : Den} {ga gb : DenT} {g : DenA} {pos p p1 p2 pT cpos apos : Pos}
theorem qdt_isN (ha : QD X a fa) (hb : QD X b fb) : QDT X (.Compare a [.Is] [b] pos) (tOfB (e2 dIsN fa fb)) := ⟨pdt_isN ha.o hb.o⟩
end
section
variable {X : Cx} {E : XK} {st : Stmt} {ss rest a b : List Stmt} {x y : DenX} {f : DenS} {g : DenT} {c e : Expr} {es : List Expr} {pos pos' p : Pos}
theorem qxb_none  : QXB X E ss xNone := ⟨pxb_none ⟩
end
section
variable {X : Cx} {E : XK} {st : Stmt} {ss rest a b : List Stmt} {x y : DenX} {f : DenS} {g : DenT} {c e : Expr} {es : List Expr} {pos pos' p : Pos}
theorem qxb_or (hx : QXB X E ss x) (hy : QXB X E ss y) : QXB X E ss (xOr x y) := ⟨pxb_or hx.o hy.o⟩
end
section
variable {X : Cx} {E : XK} {st : Stmt} {ss rest a b : List Stmt} {x y : DenX} {f : DenS} {g : DenT} {c e : Expr} {es : List Expr} {pos pos' p : Pos}
theorem qxb_seq (h1 : QDS X st f) (h2 : QXB X E rest x) : QXB X E (st :: rest) (xSeq f x) := ⟨pxb_seq h1.o h2.o⟩
end
section
variable {X : Cx} {E : XK} {st : Stmt} {ss rest a b : List Stmt} {x y : DenX} {f : DenS} {g : DenT} {c e : Expr} {es : List Expr} {pos pos' p : Pos}
theorem qxb_first (h : QXS X E st x) : QXB X E (st :: rest) x := ⟨pxb_first h.o⟩
end
section
variable {X : Cx} {E : XK} {st : Stmt} {ss rest a b : List Stmt} {x y : DenX} {f : DenS} {g : DenT} {c e : Expr} {es : List Expr} {pos pos' p : Pos}
theorem qxs_ite (hc : QDT X c g) (ha : QXB X E a x) (hb : QXB X E b y) : QXS X E (.If c a b pos) (xIte g x y) := ⟨pxs_ite hc.o ha.o hb.o⟩
end
section
variable {X : Cx} {E : XK} {st : Stmt} {ss rest a b : List Stmt} {x y : DenX} {f : DenS} {g : DenT} {c e : Expr} {es : List Expr} {pos pos' p : Pos}
theorem qxs_for {tg iter : Expr} {it : DenI} {pt : DenP} {body : List Stmt} {s : DenS} {xb : DenX} (hp : PassesOwn (model X.prog X.w) X.A X.env X.xe) (hc : X.calm = true) (hi : QDI X tg iter it) (hg : QDG X 0 tg pt) (hb : QDSs X body s) (hx : QXB X E body xb) (hs : ∀ x, foldedSetIterable iter X.env x = pure x := by intro _; rfl) : QXS X E (.For tg iter body [] pos) (xFor it pt s xb) := ⟨pxs_for hp hc hi.o hg.o hb.o hx.o hs⟩
end
section
variable {P : Program} {w : World} {K : PySem.W.Frag} {mg : Str → Option Value} {base : Heap} {N : List Str} {qual : Str} {scope : Scope} {f : Addr} {cd : Value} {A : Around} {outer : List Env} {s₀ : Shared} {H₀ : Hp} {E : XK}
theorem qxs_raise {nm txt : Str} {k j : Nat} {np cpos tpos pos : Pos} (hr : Room k (A.deeper (envOfC qual scope s₀.heap.objs.size f cd))) (hC : ∃ C, XNm K mg nm C) (hg : Gl (cxF P w K mg base N qual scope f cd A outer s₀ H₀ E) nm := by rfl) (hdb : (nm == ("__debug__" : Str)) = false := by decide) : QXS (cxF P w K mg base N qual scope f cd A outer s₀ H₀ E) E (.Raise (some (.Call (.Name nm np) [.Constant (.str txt) j tpos] [] cpos)) none pos) (xRaise nm) := ⟨pxs_raise hr hC hg hdb⟩
end
section
variable {Y : Cx} {c e : Expr} {es : List Expr} {g : DenA} {gt : DenT} {x y : DenY} {a b ss : List Stmt} {st : Stmt} {pos : Pos}
theorem qtb_one (h : QTS Y st y) : QTB Y [st] y := ⟨ptb_one h.o⟩
end
section
variable {Y : Cx} {c e : Expr} {es : List Expr} {g : DenA} {gt : DenT} {x y : DenY} {a b ss : List Stmt} {st : Stmt} {pos : Pos}
theorem qts_call {z u : Str} {Fx : List D → Option Str} {j k n : Nat} {yp fp cpos spos : Pos} (CX : CalX Y.prog Y.w Y.K Y.mg Y.base k z n Fx) (hr : Room j Y.A) (hk : k ≤ j) (ha : QDA Y.nox (e :: es) g) (hgx : Gl Y z := by rfl) (hdx : (z == ("__debug__" : Str)) = false := by decide) (hsc : swapsWith (.Call (.Name z fp) (e :: es) [] cpos) (some (.Name u yp)) spos.line Y.env = pure false := by rfl) (he : starEach (e :: es) Y.env = (false, eval e Y.env) :: starEach es Y.env := by rfl) (hpl : (backTo cpos (starEach es Y.env)).any (·.1) = false := by rfl) : QTS Y (.Assign [.Name u yp] (.Call (.Name z fp) (e :: es) [] cpos) spos) (yCall Fx n g) := ⟨pts_call CX hr hk ha.o hgx hdx hsc he hpl⟩
end
section
variable {Y : Cx} {c e : Expr} {es : List Expr} {g : DenA} {gt : DenT} {x y : DenY} {a b ss : List Stmt} {st : Stmt} {pos : Pos}
theorem qds_tryG {R nn kx : Str} {L : List Str} {f : DenS} {ie ik : Nat} {np kp vp apos hpos : Pos} (hU : Under Y.K Y.mg R L) (hf : QDSs Y.nox ss f) (hx : QTB Y ss y) (hN : Y.N.Nodup) (hie : Y.N[ie]? = some nn) (hik : Y.N[ik]? = some kx) (hst : Y.stack = Y.env :: Y.outer := by rfl) (hfm : Y.env.frame = some Y.env.locals := by rfl) (hne : Y.env.scope.names.lookup nn = some .local := by rfl) (hnk : Y.env.scope.names.lookup kx = some .local := by rfl) (hg : Gl Y R := by rfl) (hdb : (R == ("__debug__" : Str)) = false := by decide) (hdn : (nn == ("__debug__" : Str)) = false := by decide) (hcn : (nn == ("__classdict__" : Str)) = false := by decide) (hsw : swapsWith (.Name nn vp) (some (.Name kx kp)) apos.line Y.env = pure false := by rfl) : QDS Y.nox (.Try ss [.ExceptHandler (some (.Name R np)) (some nn) [.Assign [.Name kx kp] (.Name nn vp) apos] hpos] [] [] pos) (sTryG L f y ie ik) := ⟨pds_tryG hU hf.o hx.o hN hie hik hst hfm hne hnk hg hdb hdn hcn hsw⟩
end
section
variable {X : Cx} {e : Expr} {es : List Expr} {g : DenA} {pos p : Pos}
theorem qd_callO {i j k n : Nat} {x : Str} {ob : D} {G : List D → Option (D × Nat)} (h : QE X (.Name x p) (tVar i)) (C : CalO X.prog X.w X.K X.mg X.base k ob n G) (hr : Room j X.A) (hk : k ≤ j) (ha : QDA X (e :: es) g) (he : starEach (e :: es) X.env = (false, eval e X.env) :: starEach es X.env := by rfl) (hpl : (backTo pos (starEach es X.env)).any (·.1) = false := by rfl) : QD X (.Call (.Name x p) (e :: es) [] pos) (eCallO ob G i n g) := ⟨pd_callO h.o C hr hk ha.o he hpl⟩
end
section
variable {X : Cx} {a b : Expr} {g : DenA} {pos p : Pos}
theorem qds_par {i j : Nat} {x y : Str} {px py pt : Pos} {kt k2 pt2} (hc : X.calm = true) (hN : X.N.Nodup) (hi : X.N[i]? = some x) (hj : X.N[j]? = some y) (hij : i ≠ j) (ha : QDA X [a, b] g) (hx : X.env.scope.names.lookup x = some .local := by rfl) (hy : X.env.scope.names.lookup y = some .local := by rfl) (hw : swappedStores [.Tuple [.Name x px, .Name y py] kt pt] (.Tuple [a, b] k2 pt2) X.env = pure (some [x, y]) := by rfl) (hs : swapsWithSole [.Tuple [.Name x px, .Name y py] kt pt] (.Tuple [a, b] k2 pt2) pos.line X.env = pure false := by rfl) : QDS X (.Assign [.Tuple [.Name x px, .Name y py] kt pt] (.Tuple [a, b] k2 pt2) pos) (sPar i j g) := ⟨pds_par hc hN hi hj hij ha.o hx hy hw hs⟩
end
section
variable {X : Cx} {a b : Expr} {g : DenA} {pos p : Pos}
theorem qd_call0 {j k : Nat} {x : Str} {F : List D → Option (D × Nat)} (C : Cal X.prog X.w X.K X.mg X.base k x 0 F) (hr : Room j X.A) (hk : k ≤ j) (hg : Gl X x := by rfl) (hdb : (x == ("__debug__" : Str)) = false := by decide) : QD X (.Call (.Name x p) [] [] pos) (eCall F 0 aNil) := ⟨pd_call0 C hr hk hg hdb⟩
end
theorem Cal.mkQ {P : Program} {w : World} {K : PySem.W.Frag} {mg : Str → Option Value} {base : Heap} {k : Nat} {x : Str} {st : Stmt} {N ps : List Str} {body : DenS} (a : At K mg x st ps) (S : FnScope N ps (defScope st))
    (h : ∀ (f : Addr) (cdv : Value) (A : Around) (outer : List Env) (s : Shared) (H : Hp) (E : XK), Room k (A.deeper (envOfC x (defScope st) s.heap.objs.size f cdv)) → QDSs (cxOf CX0 P w K mg base N x (defScope st) f cdv A outer s H E).nox (defBody st) body) :
    Cal P w K mg base (k + 1) x ps.length (fnD N.length body) := Cal.mk a S fun f cdv A outer s H E hr => (h f cdv A outer s H E hr).o
theorem law_okQ {P : Program} {w : World} {K : PySem.W.Frag} {mg : Str → Option Value} {base : Heap} {k : Nat} {x : Str} {st : Stmt} {N ps : List Str} {body : DenS} {f : Addr} {fd : FuncData} (F : Fun K x x st f fd) (S : FnScope N ps (defScope st))
    (h : ∀ (f : Addr) (cdv : Value) (A : Around) (outer : List Env) (s : Shared) (H : Hp) (E : XK), Room k (A.deeper (envOfC x (defScope st) s.heap.objs.size f cdv)) → QDSs (cxOf CX0 P w K mg base N x (defScope st) f cdv A outer s H E).nox (defBody st) body) :
    FnOk P w K mg base CX0 (k + 1) f fd ps (spD K ps.length (fnD N.length body)) := law_ok F S fun f cdv A outer s H E hr => (h f cdv A outer s H E hr).o
end L3
set_option Elab.async false
set_option linter.all false
set_option maxRecDepth 100000
namespace L3
open PySem PySem.Spec PyProof.Rows PySem.W L2
theorem ci_of {K : Frag} {C : Addr} {v : Value} {b : Bool} (h : mroIn K C v = some b) : (clsIn K C).isSome = true := by
  obtain ⟨cd, a, _⟩ := Option.bind_eq_some_iff.mp h
  rw [a]; rfl
theorem XKls.of {K : Frag} {nm : Str} {C : Addr} (n : nsIn K mainGlobals nm = some (some (.ref C))) (x : XCls K C) (ex : excIn K C bmV "ValueError.__new__" = true) (v : mroIn K C (.type "ValueError") = some true)
    (a1 : mroIn K C (.type "int") = some false) (a2 : mroIn K C (.type "bool") = some false) (a3 : mroIn K C (.type "tuple") = some false) (a4 : mroIn K C (.type "list") = some false) (a5 : mroIn K C (.type "str") = some false) : XKls K nm C :=
  ⟨n, x, ex, v, fun T hT => by
    rcases List.mem_cons.mp hT with rfl | hT
    · exact a1
    rcases List.mem_cons.mp hT with rfl | hT
    · exact a2
    rcases List.mem_cons.mp hT with rfl | hT
    · exact a3
    rcases List.mem_cons.mp hT with rfl | hT
    · exact a4
    rcases List.mem_cons.mp hT with rfl | hT
    · exact a5
    cases hT⟩
theorem Under.nil {K : Frag} {mg : Str → Option Value} {R : Str} {RA : Addr} (x : XCls K RA) (t : typeIn K (.ref RA) = some (.type "type")) (m : mg R = some (.ref RA)) : Under K mg R [] := ⟨RA, x, t, m, fun n hn => nomatch hn⟩
theorem Under.cons {K : Frag} {mg : Str → Option Value} {R nm : Str} {L : List Str} {C RA : Addr} (U : Under K mg R L) (m : mg R = some (.ref RA)) (k : XKls K nm C) (s : mroIn K C (.ref RA) = some true) : Under K mg R (nm :: L) := by
  obtain ⟨RB, x, t, m', h⟩ := U
  rw [m] at m'
  cases m'
  refine ⟨RA, x, t, m, fun n hn C' e => ?_⟩
  rcases List.mem_cons.mp hn with rfl | hn
  · have e' := k.ns
    rw [e] at e'
    cases e'
    exact ⟨k, s⟩
  · exact h n hn C' e
theorem IsC.nil {K : Frag} {mg : Str → Option Value} {nm : Str} {C : Addr} (m : mg nm = some (.ref C)) : IsC K mg [] nm := ⟨C, m, fun n hn => nomatch hn⟩
theorem IsC.self {K : Frag} {mg : Str → Option Value} {nm : Str} {L : List Str} {C : Addr} (U : IsC K mg L nm) (n : nsIn K mainGlobals nm = some (some (.ref C))) (m : mg nm = some (.ref C)) : IsC K mg (nm :: L) nm := by
  obtain ⟨C', m', h⟩ := U
  rw [m] at m'
  cases m'
  refine ⟨C, m, fun n' hn B e => ?_⟩
  rcases List.mem_cons.mp hn with rfl | hn
  · rw [e] at n
    cases n
    exact ⟨fun _ => by unfold isIn; simp, fun z => absurd rfl z⟩
  · exact h n' hn B e
theorem CalX.mkQ {P : Program} {w : World} {K : PySem.W.Frag} {mg : Str → Option Value} {base : Heap} {k : Nat} {x : Str} {st : Stmt} {N ps : List Str} {xb : DenX} (a : At K mg x st ps) (S : FnScope N ps (defScope st))
    (h : ∀ (f : Addr) (cdv : Value) (A : Around) (outer : List Env) (s : Shared) (H : Hp) (E : XK), Room k (A.deeper (envOfC x (defScope st) s.heap.objs.size f cdv)) → QXB (cxF P w K mg base N x (defScope st) f cdv A outer s H E) E (defBody st) xb) :
    CalX P w K mg base (k + 1) x ps.length (fnX N.length xb) := CalX.mk a S fun f cdv A outer s H E hr => (h f cdv A outer s H E hr).o
end L3
set_option Elab.async false
set_option linter.all false
set_option maxRecDepth 100000
namespace L3
open PySem PySem.Spec PyProof.Rows PySem.W L2
noncomputable def CapOk (X : Cx) : List Str → List Nat → Prop
  | [], [] => True
  | z :: zs, i :: is => X.N[i]? = some z ∧ X.env.scope.names.lookup z = some .cell ∧ CapOk X zs is
  | _, _ => False
theorem CapOk.len {X : Cx} : ∀ {zs : List Str} {is : List Nat}, CapOk X zs is → is.length = zs.length
  | [], [], _ => rfl
  | _ :: _, _ :: _, h => by simp [h.2.2.len]
theorem CapOk.at {X : Cx} : ∀ {zs : List Str} {is : List Nat}, CapOk X zs is → ∀ (j : Nat) (z : Str), zs[j]? = some z → ∃ i, is[j]? = some i ∧ X.N[i]? = some z ∧ X.env.scope.names.lookup z = some .cell
  | [], [], _, _, _, e => by simp at e
  | z :: zs, i :: is, h, 0, _, e => by simp at e; subst e; exact ⟨i, rfl, h.1, h.2.1⟩
  | z :: zs, i :: is, h, j + 1, y, e => by
    obtain ⟨i', a, b⟩ := h.2.2.at j y (by simpa using e)
    exact ⟨i', by simpa using a, b⟩
section
variable {P : Program} {w : World} {K : PySem.W.Frag} {mg : Str → Option Value} {base : Heap} {N : List Str} {x : Str} {sc : Scope} {f c : Addr} {A : Around} {outer : List Env} {s₀ : Shared} {H₀ : Hp} {E : XK}
theorem qd_tab {y : Str} {Pt : Addr} {j k kb : Nat} {ps caps : List Str} {is : List Nat} {params : Arguments} {body eN : Expr} {scope : Scope} {fN fb : Den} {F : D → (List D → Option (D × Nat)) → List D → Option (D × Nat)} {p lp pos : Pos}
    (L : Lm K mg base) (hx : x ∈ lamNms) (ht : tabIn K x = some (c, Pt)) (S : LamScope ps caps scope) (hy : ∃ fn, mg y = some (.ref fn) ∧ keepIn K (.ref fn) = true) (hr : Room j (A.deeper (envOfC x sc s₀.heap.objs.size f (.ref c)))) (hk : k ≤ j)
    (hF : ∀ base' ob G, CalO P w K mg base' (kb + 1) ob ps.length G → Cal P w K mg base' k y 2 (F ob G))
    (hbody : ∀ (base' : Heap) (f c' : Addr) (cl : List (Str × Addr)) (q : Str) (A : Around) (outer : List Env) (s : Shared) (H : Hp), Room kb (A.deeper (envX q scope s.heap.objs.size f (.ref c') cl)) → QD (cxL P w K mg base' (ps ++ caps) q scope f (.ref c') cl A outer s H) body fb)
    (hbind : ∀ (q : Str) (cl : List (Str × Addr)) (pm cdv ctv : Value) (us : List Value), us.length = ps.length → bindArgs (kla_fn "<lambda>" q params body scope cl pm cdv ctv) ⟨us, []⟩ = pure (ps.zip us))
    (hN : CapOk (cxOf CX0 P w K mg base N x sc f (.ref c) A outer s₀ H₀ E).nox caps is) (ha : QD (cxOf CX0 P w K mg base N x sc f (.ref c) A outer s₀ H₀ E).nox eN fN)
    (hse : ∀ env : Env, starEach [eN, .Lambda params body scope lp] env = (false, eval eN env) :: starEach [.Lambda params body scope lp] env)
    (hcl : closureFor scope (cxOf CX0 P w K mg base N x sc f (.ref c) A outer s₀ H₀ E).nox.env = pure (capL caps (cxOf CX0 P w K mg base N x sc f (.ref c) A outer s₀ H₀ E).nox.env.cells) := by rfl) (hdf : ∀ env, defaultsOf params env = ([], []) := by exact fun _ => rfl) (hg : Gl (cxOf CX0 P w K mg base N x sc f (.ref c) A outer s₀ H₀ E).nox y := by rfl) (hdb : (y == ("__debug__" : Str)) = false := by decide) :
    QD (cxOf CX0 P w K mg base N x sc f (.ref c) A outer s₀ H₀ E).nox (.Call (.Name y p) [eN, .Lambda params body scope lp] [] pos) (eTab F fb is fN) := by
  obtain ⟨fn, h1, h2⟩ := hy
  exact ⟨pd_tab (X := (cxOf CX0 P w K mg base N x sc f (.ref c) A outer s₀ H₀ E).nox) (c := c) (P := Pt) rfl L hx ht rfl S h1 h2 hr hk hF (fun base' f c' cl q A outer s H hr => (hbody base' f c' cl q A outer s H hr).o) (hbind _) hN.at hN.len ha.o hcl (hdf _) hg hdb (hse _) (by rw [se_Lambda]; rfl)⟩
end
theorem cd_of {K : PySem.W.Frag} {mg : Str → Option Value} {h : Heap} {x : Str} {c P f : Addr} {oc : Value} {od : Option Addr} {fd : FuncData} {sl : Array (Option Value)} (X : K.In h) (G : h.Ns mainGlobals mg) (ht : tabIn K x = some (c, P)) (hm : mg x = some (.ref f)) (lk : K.lookup f = some ⟨oc, od, .func fd, sl⟩) : fd.code = .ref c :=
  law_code X G ht hm (X _ _ lk) rfl
theorem Cal.mkL {P : Program} {w : World} {K : PySem.W.Frag} {mg : Str → Option Value} {base : Heap} {k : Nat} {x : Str} {st : Stmt} {N ps : List Str} {body : DenS} (KX : K.In base) (G : base.Ns mainGlobals mg) (ht : ∃ c Pt, tabIn K x = some (c, Pt)) (a : At K mg x st ps) (S : FnScope N ps (defScope st))
    (h : ∀ (f c Pt : Addr) (A : Around) (outer : List Env) (s : Shared) (H : Hp) (E : XK), tabIn K x = some (c, Pt) → Room k (A.deeper (envOfC x (defScope st) s.heap.objs.size f (.ref c))) → QDSs (cxOf CX0 P w K mg base N x (defScope st) f (.ref c) A outer s H E).nox (defBody st) body) :
    Cal P w K mg base (k + 1) x ps.length (fnD N.length body) := by
  obtain ⟨f, fd, F, m, b⟩ := a
  obtain ⟨c, Pt, ht⟩ := ht
  obtain ⟨oc, od, kV, doc, pm, an, cdv, ct, osl, rfl, lk, hcd⟩ := F.ex
  have e : cdv = .ref c := cd_of KX G ht m lk
  subst e
  exact ⟨f, _, ps, fn_of lk hcd S (fun vs H Q E h => h.1) fun A outer s H vs Q E hr hsp => ⟨_, (h f c Pt A outer s H E ht hr).o.nox, fn_enter hsp⟩, m, F.kp, b⟩
end L3
namespace L3
open PySem PySem.Spec PyProof.Rows PySem.W L2
theorem pairOf {α : Type} : ∀ {l : List α}, l.length = 2 → ∃ a b, l = [a, b]
  | [a, b], _ => ⟨a, b, rfl⟩
theorem LamScope.of {ps cs : List Str} {sc : Scope} (kind : sc.kind = .function) (co : sc.isCoroutine = false) (gen : sc.isGenerator = false) (nd : (ps ++ cs).Nodup) (par : ∀ x ∈ ps, sc.names.lookup x = some .local) (cap : ∀ x ∈ cs, sc.names.lookup x = some .free)
    (nocell : ∀ y ∈ sc.names, y.2 ≠ .cell) (free : ∀ y ∈ sc.names, y.2 = .free → y.1 ∈ cs) : LamScope ps cs sc := ⟨kind, co, gen, nd, par, cap, nocell, fun x e => free _ (PySem.mem_of_lookup e) rfl⟩
theorem tab_mk {K : PySem.W.Frag} {x : Str} {f c Pt : Addr} {oc o2 : Value} {od od2 : Option Addr} {fd : FuncData} {sl sl2 : Array (Option Value)} {vs : Array Value} (a : nsIn K mainGlobals x = some (some (.ref f))) (l : K.lookup f = some ⟨oc, od, .func fd, sl⟩) (hc : fd.code = .ref c) (m : K.lookup c = some ⟨o2, od2, .fields vs, sl2⟩) (v : vs[11]? = some (.ref Pt)) :
    ∃ c Pt, tabIn K x = some (c, Pt) := ⟨c, Pt, by unfold tabIn; rw [a]; simp only [l, hc, m, v]⟩
theorem tab_none {K : PySem.W.Frag} {x : Str} (a : nsIn K mainGlobals x = some none) : tabIn K x = none := by unfold tabIn; rw [a]
end L3
set_option Elab.async false
set_option linter.all false
set_option maxRecDepth 100000
namespace L3
open PySem PySem.Spec PyProof.Rows PySem.W L2
noncomputable def isTab (K : PySem.W.Frag) (b : Addr) : Bool := lamNms.any fun x => match tabIn K x with
  | some (_, P) => P == b
  | none => false
theorem isTab_of {K : PySem.W.Frag} {b : Addr} (h : isTab K b = true) : ∃ x ∈ lamNms, ∃ c, tabIn K x = some (c, b) := by
  obtain ⟨x, hx, e⟩ := List.any_eq_true.mp h
  split at e
  · rename_i c P hP
    rw [eq_of_beq e] at hP
    exact ⟨x, hx, c, hP⟩
  · cases e
theorem isTab_mk {K : PySem.W.Frag} {x : Str} {c P : Addr} (hx : x ∈ lamNms) (e : tabIn K x = some (c, P)) : isTab K P = true :=
  List.any_eq_true.mpr ⟨x, hx, by rw [e]; exact beq_self_eq_true P⟩
theorem law_callL {P : Program} {w : World} {K : PySem.W.Frag} {mg mb : Str → Option Value} {CX : CXT} {k : Nat} {fa a : Addr} {fd : FuncData} {x : Str} {sp : Sp} {s₁ : Shared} {vs : List Value} {ns : List Int}
    (KX : K.In s₁.heap) (hns : s₁.heap.Ns mainGlobals mg) (hb : s₁.heap.Ns builtinsNs mb) (hbb : ∀ x : Str, x ≠ "__name__" → mb x = bootBuiltins x) (hlim : s₁.heap.NoLimit) (hg : s₁.gens = #[])
    (hbm : ∃ bm o, mg "__builtins__" = some (.ref bm) ∧ bm ≠ builtinsNs ∧ s₁.heap.get? bm = some o ∧ o.cls = .type "module" ∧ o.dict = some builtinsNs ∧ o.data = .plain)
    (hT : ∀ x ∈ lamNms, ∀ c Pt, tabIn K x = some (c, Pt) → CodeHd s₁.heap c Pt ∧ s₁.heap.get? Pt = some (tabObj #[])) (hnt : noTabs K = true)
    (ha : s₁.heap.get? a = some { cls := .type "list", data := .seq vs.toArray }) (hi : IntsAre vs ns) (hl : ns.length ≤ sizeLine) (hr : Room k callerA)
    (F : ∀ base : Heap, K.In base → base.Ns mainGlobals mg → Lm K mg base → FnOk P w K mg base CX k fa fd [x] sp) (hbind : ∀ (s : Shared) (u : Value), BindsTo s fd ⟨[u], []⟩ [(x, u)])
    (hsp : ∀ H : Hp, TB K H → SqL K H a (ns.map V.int) → sp [.ref a] H (fun v _ => v = .bl true) fun _ _ _ => False)
    (hCX : ∀ H e s', CX [] H s₁ (fun _ _ _ => False) e s' → False) :
    codeAny (model P w) callerA (.call (.ref fa) ⟨[.ref a], []⟩) (fun r s' => r = .ok (.ret (.bool true)) ∧ OldK s₁.heap s'.heap ∧ s'.os = s₁.os ∧ AllBare s'.gens) s₁ := by
  have rv := vals_ints hi
  have lenV := hi.length
  have tabO : ∀ b, isTab K b = true → (∃ c, CodeHd s₁.heap c b) ∧ s₁.heap.get? b = some (tabObj #[]) := fun b h => by
    obtain ⟨x, hx, c, e⟩ := isTab_of h
    obtain ⟨h1, h2⟩ := hT x hx c b e
    exact ⟨⟨c, h1⟩, h2⟩
  have core : ∀ H : Hp, (∀ b, H b = none ∨ (b = a ∧ ∃ o xs, H b = some (.frz o (.lst xs))) ∨ (isTab K b = true ∧ H b = some (.tbl #[]))) → (∀ b, isTab K b = true → H b = some (.tbl #[])) → SqL K H a (ns.map V.int) → HOk P w H s₁.heap → (∀ o xs, H a = some (.frz o (.lst xs)) → K.lookup a = none) →
      codeAny (model P w) callerA (.call (.ref fa) ⟨[.ref a], []⟩) (fun r s' => r = .ok (.ret (.bool true)) ∧ OldK s₁.heap s'.heap ∧ s'.os = s₁.os ∧ AllBare s'.gens) s₁ := by
    intro H hO hO2 hS hok hK
    have base_of : ∀ {b : Addr} {o : Obj}, s₁.heap.get? b = some o → H b = none → (hidT s₁.heap H).get? b = some o := fun e n => hidT_get e n
    have noA : ∀ {b : Addr} {o : Obj}, s₁.heap.get? b = some o → o.cls ≠ .type "list" → o.cls ≠ .none → H b = none := fun {b o} e d1 d2 => by
      rcases hO b with z | ⟨z, _⟩ | ⟨z, _⟩
      · exact z
      · subst z; rw [ha] at e; cases e; exact absurd rfl d1
      · rw [(tabO b z).2] at e; cases e; exact absurd rfl d2
    have noD : ∀ {b : Addr} {o : Obj} {es : Array DictEntry} {ep : Nat}, s₁.heap.get? b = some o → o.data = .dict es ep → H b = none := fun {b o es ep} e d => by
      rcases hO b with z | ⟨z, _⟩ | ⟨z, _⟩
      · exact z
      · subst z; rw [ha] at e; cases e; exact nomatch (show Data.seq vs.toArray _ = Data.dict es ep from d)
      · rw [(tabO b z).2] at e; cases e; exact nomatch (show Data.fields _ = Data.dict es ep from d)
    have nsK : ∀ {b : Addr} {m : Str → Option Value}, s₁.heap.Ns b m → (hidT s₁.heap H).Ns b m := fun {b m} hh => by
      obtain ⟨o, es, ep, e, d, r⟩ := hh
      exact ⟨o, es, ep, base_of e (noD e d), d, r⟩
    have hKb : K.In (hidT s₁.heap H) := fun b o e => base_of (KX b o e) (by
      rcases hO b with z | ⟨z, o', xs, z2⟩ | ⟨z, _⟩
      · exact z
      · subst z; rw [hK _ _ z2] at e; cases e
      · have e2 := KX b o e
        rw [(tabO b z).2] at e2
        cases e2
        have h2 := List.all_eq_true.mp hnt (b, tabObj #[]) (mem_of_lookupK e)
        exact absurd (show false = true from h2) Bool.false_ne_true)
    have hM : Mod K mg (hidT s₁.heap H) := by
      obtain ⟨mc, h1, h2⟩ := hlim
      exact ⟨hKb, nsK hns, ⟨mb, nsK hb, hbb⟩, ⟨mc, nsK h1, h2⟩⟩
    have hL : Lm K mg (hidT s₁.heap H) := by
      refine ⟨?_, fun x hx c Pt e => ?_⟩
      · obtain ⟨bm, o, h1, h2, h3, h4, h5⟩ := hbm
        exact ⟨bm, o, h1, h2, base_of h3 (noA h3 (by rw [h4]; decide) (by rw [h4]; nofun)), h4, h5⟩
      · obtain ⟨o, v1, v2, v3, v4, v5, v6, v7, v8, e1, e2, r⟩ := (hT x hx c Pt e).1
        exact ⟨o, v1, v2, v3, v4, v5, v6, v7, v8, base_of e1 (noA e1 (by rw [e2]; decide) (by rw [e2]; nofun)), e2, r⟩
    have tb : TB K H := by
      refine ⟨fun Q ps e => ?_, fun Q ps e pos cv hc => ?_, fun x hx c Pt e => ⟨_, hO2 Pt (isTab_mk hx e)⟩⟩ <;> rcases hO Q with z | ⟨_, o', xs, z⟩ | ⟨_, z⟩ <;> rw [e] at z <;> cases z
      · exact True.intro
      · cases hc
    have e0 : Env0 P w K mg (hidT s₁.heap H) callerA [] s₁ H := ⟨rfl, hM, fun b o e => of_hidT e, Nat.le_of_eq (hidT_size _ _), trivial, fun b hb => absurd (show b ∈ ([] : List Addr) from hb) (by simp), hok, .of_eq hg⟩
    refine codeAny_mono ((F _ hKb (nsK hns) hL).run callerA [] s₁ H ⟨[.ref a], []⟩ [.ref a] [.ref a] _ _ hr e0 (hbind s₁ (.ref a)) (.cons rfl .nil) (hsp H tb hS)) fun r s' h => ?_
    cases r with
    | error e => exact (hCX H e s' h).elim
    | ok fl =>
      cases fl with
      | next => exact False.elim h
      | brk => exact False.elim h
      | cont => exact False.elim h
      | ret u =>
        obtain ⟨v, H', os, bare, un, hok', r', q⟩ := h
        have q' : v = .bl true := q
        subst q'
        obtain rfl : u = Value.bool true := r'
        have kp : ∀ b o, s₁.heap.get? b = some o → isTab K b = false → s'.heap.get? b = some o := fun b o e nt => by
          rcases hO b with z | ⟨_, ob, xs, z⟩ | ⟨z, _⟩
          · exact un.keep b o e z (by intro z; exact absurd (show b ∈ ([] : List Addr) from z) (by simp)) (by simp)
          · have z2 := un.frzs b ob _ z
            obtain ⟨e1, _⟩ := hok b _ z
            obtain ⟨e2, _⟩ := hok' b _ z2
            rw [e] at e1; cases e1
            exact e2
          · rw [z] at nt; cases nt
        have gr : ∀ b, isTab K b = true → ∃ ps, s'.heap.get? b = some (tabObj ps) := fun b t => by
          obtain ⟨more, z⟩ := un.tbls b _ (hO2 b t)
          exact ⟨_, hok' b _ z⟩
        refine ⟨rfl, ⟨fun b o e => ?_, fun b o e => ?_⟩, os, bare⟩
        · cases t : isTab K b with
          | false => exact .inl (kp b o e t)
          | true =>
            obtain ⟨⟨c, C⟩, e1⟩ := tabO b t
            obtain ⟨ps, e2⟩ := gr b t
            rw [e] at e1; cases e1
            exact .inr (.inl ⟨(C.tab e).isCodeTable, rfl, #[], ps, rfl, by rw [Array.empty_append]; exact e2⟩)
        · cases t : isTab K b with
          | false => exact ⟨o, kp b o e t⟩
          | true => obtain ⟨ps, e2⟩ := gr b t; exact ⟨_, e2⟩
  have aT : isTab K a = false := by
    cases t : isTab K a with
    | false => rfl
    | true =>
      have := (tabO a t).2
      rw [ha] at this; cases this
  cases hk : K.lookup a with
  | some o =>
    have e := KX a o hk
    rw [ha] at e
    cases e
    refine core (fun b => if isTab K b = true then some (.tbl #[]) else none) (fun b => ?_) (fun b h => if_pos h) (.inr ⟨_, vs.toArray, _, hk, rfl, rfl, rfl, by rw [List.size_toArray, lenV]; exact hl, by simpa using rv⟩) (fun b u z => ?_) fun o xs z => ?_
    · by_cases hb : isTab K b = true
      · exact .inr (.inr ⟨hb, if_pos hb⟩)
      · exact .inl (if_neg hb)
    · by_cases hb : isTab K b = true
      · have z' := (if_pos hb).symm.trans z
        cases z'
        exact (tabO b hb).2
      · have z' := (if_neg hb).symm.trans z
        cases z'
    · have z' := (if_neg (by rw [aT]; decide)).symm.trans z
      cases z'
  | none =>
    refine core (fun b => if b = a then some (.frz { cls := .type "list", data := .seq vs.toArray } (.lst (ns.map V.int))) else if isTab K b = true then some (.tbl #[]) else none) (fun b => ?_) (fun b h => ?_) (.inl (.inr ⟨{ cls := .type "list", data := .seq vs.toArray }, if_pos rfl⟩)) (fun b u z => ?_) fun _ _ _ => hk
    · by_cases hb : b = a
      · exact .inr (.inl ⟨hb, _, _, if_pos hb⟩)
      · by_cases ht : isTab K b = true
        · exact .inr (.inr ⟨ht, (if_neg hb).trans (if_pos ht)⟩)
        · exact .inl ((if_neg hb).trans (if_neg ht))
    · have hb : b ≠ a := fun z => by rw [z, aT] at h; cases h
      exact (if_neg hb).trans (if_pos h)
    · by_cases hb : b = a
      · have z' := (if_pos hb).symm.trans z
        cases z'
        subst hb
        exact ⟨ha, by rw [List.length_map]; exact hl, vs, _, rv, ha⟩
      · by_cases ht : isTab K b = true
        · have z' := ((if_neg hb).trans (if_pos ht)).symm.trans z
          cases z'
          exact (tabO b ht).2
        · have z' := ((if_neg hb).trans (if_neg ht)).symm.trans z
          cases z'
noncomputable def LamR (q : Program) (K : PySem.W.Frag) : Prop := ∀ x ∈ lamNms, (∃ d, (recsOf q).find? (fun e => e.name == x) = some d) ∨ tabIn K x = none
theorem LamR.of {q : Program} {K : PySem.W.Frag} (h1 : (∃ d, (recsOf q).find? (fun e => e.name == ("turned" : Str)) = some d) ∨ tabIn K "turned" = none) (h2 : (∃ d, (recsOf q).find? (fun e => e.name == ("chain_ladder" : Str)) = some d) ∨ tabIn K "chain_ladder" = none)
    (h3 : (∃ d, (recsOf q).find? (fun e => e.name == ("flat_ladder" : Str)) = some d) ∨ tabIn K "flat_ladder" = none) (h4 : (∃ d, (recsOf q).find? (fun e => e.name == ("paired" : Str)) = some d) ∨ tabIn K "paired" = none) : LamR q K := fun x hx => by
  rcases List.mem_cons.mp hx with rfl | hx
  · exact h1
  rcases List.mem_cons.mp hx with rfl | hx
  · exact h2
  rcases List.mem_cons.mp hx with rfl | hx
  · exact h3
  rcases List.mem_cons.mp hx with rfl | hx
  · exact h4
  cases hx
theorem walk_ofL {l : PySem.W.OpenLaw} {n k : Nat} {q : Program} {loose : List Str} {XP : (Str → Option Value) → Heap → Prop} {YP : World → Heap → Prop} {d : DefRec} {K : Params → PySem.W.Frag} {CX : World → CXT} {sp : World → Sp} {x : Str}
    (hn : l.most = some n) (hn2 : n ≤ sizeLine) (hdf : d.params.defaults = []) (hr : Room k callerA)
    (hY : ∀ (w : World) (h : Heap), YP w h → (K w.params).In h)
    (F : ∀ (w : World) (mg : Str → Option Value) (fa : Addr) (h : Heap), (K w.params).In h → h.Ns mainGlobals mg → mg d.name = some (.ref fa) → LamR q (K w.params) ∧ noTabs (K w.params) = true ∧
      ∃ fd : FuncData, (∀ (s : Shared) (u : Value), BindsTo s fd ⟨[u], []⟩ [(x, u)]) ∧
        ∀ base : Heap, (K w.params).In base → base.Ns mainGlobals mg → Lm (K w.params) mg base → FnOk l.prog w (K w.params) mg base (CX w) k fa fd [x] (sp w))
    (hsp : ∀ (w : World) (H : Hp) (a : Addr) (ns : List Int), ns.length ≤ n → TB (K w.params) H → SqL (K w.params) H a (ns.map V.int) → sp w [.ref a] H (fun v _ => v = .bl true) fun _ _ _ => False)
    (hCX : ∀ (w : World) (H : Hp) (s : Shared) (e : Value) (s' : Shared), CX w [] H s (fun _ _ _ => False) e s' → False) :
    PySem.W.WalkO q loose XP YP l.row.toRowW d [] (fun f vs => PySem.call f vs) := by
  refine Att.attach_call hn hdf fun w s₀ s₁ mg mb fa o pm cd doc a vs ns G Y ho hd hcd hmg hobj hints hlen hg => ?_
  have KX := hY w _ Y
  obtain ⟨hrec, hnt, fd, hb, hF⟩ := F w mg fa _ KX G.T.g hmg
  have hbm := G.T.bmain
  refine law_callL KX G.T.g G.T.b G.T.builtins G.T.nolimit hg ?_ (fun x hx c Pt e => ?_) hnt hobj hints (Nat.le_trans hlen hn2) hr hF hb (fun H hO hS => hsp w H a ns hlen hO hS) fun H e s' => hCX w H s₁ e s'
  · obtain ⟨bm, ob, b1, b2, b3, b4, b5, b6⟩ := hbm
    exact ⟨bm, ob, b1, b2, b3, b4, b5, b6⟩
  · rcases hrec x hx with ⟨dd, hd⟩ | z
    · exact tab_of G.T KX hd e
    · rw [z] at e; cases e
end L3
set_option Elab.async false
set_option linter.all false
set_option maxRecDepth 100000
namespace L3
open PySem PySem.Spec PyProof.Rows L2
theorem compD_fn {k : Nat} {pt : DenP} {tt : DenT} {te : Den} {deep : Bool} : ∀ (ds : List D) (S : Nat → Rho) (b : Nat → Bool) (v : Nat → D),
    (∀ i (h : i < ds.length), ∃ ρ1 ρ2, pt ds[i] (S i ++ List.replicate k none) = some ρ1 ∧ tt ρ1 = some (b i, ρ2) ∧
      (if b i = true then ∃ q ρ3, te ρ2 = some (v i, q, ρ3) ∧ ¬ (deep = true ∧ (v i).isL = true ∧ q ≠ 1) ∧ ρ3.take (S i).length = S (i + 1) else ρ2.take (S i).length = S (i + 1))) →
    compD k pt tt te deep ds (S 0) = some (((List.range ds.length).filter b).map v, S ds.length)
  | [], S, b, v, _ => rfl
  | d :: ds, S, b, v, h => by
    obtain ⟨ρ1, ρ2, h1, h2, h3⟩ := h 0 (by simp)
    have ih := compD_fn ds (fun i => S (i + 1)) (fun i => b (i + 1)) (fun i => v (i + 1)) (fun i hi => h (i + 1) (by simpa using hi))
    have er : ((List.range (d :: ds).length).filter b).map v = (if b 0 = true then [v 0] else []) ++ ((List.range ds.length).filter fun i => b (i + 1)).map fun i => v (i + 1) := by
      rw [List.length_cons, List.range_succ_eq_map, List.filter_cons, List.filter_map]
      split <;> simp [Function.comp_def]
    rw [er]
    unfold compD
    rw [show pt d (S 0 ++ List.replicate k none) = some ρ1 from h1]
    simp only [h2]
    split at h3
    · rename_i hb
      obtain ⟨q, ρ3, h4, h5, h6⟩ := h3
      simp only [hb, if_true, h4, if_neg h5, h6, ih]
      rfl
    · rename_i hb
      simp only [hb, h3, ih]
      rfl
theorem sSeq_nx {f g : DenS} {ρ ρ1 : Rho} (h : f ρ = some (.nx ρ1)) : sSeq f g ρ = g ρ1 := by unfold sSeq; rw [h]
theorem sSeq_rt {f g : DenS} {ρ : Rho} {d : D} {q : Nat} (h : f ρ = some (.rt d q)) : sSeq f g ρ = some (.rt d q) := by unfold sSeq; rw [h]
theorem fnD_rt {n : Nat} {body : DenS} {ds : List D} {d : D} {q : Nat} (h : body (startD n ds) = some (.rt d q)) : fnD n body ds = some (d, q) := by unfold fnD; rw [h]
theorem eComp_eq {k : Nat} {it : DenI} {pt : DenP} {tt : DenT} {te : Den} {deep : Bool} {ρ ρ1 ρ2 : Rho} {ds vs : List D} (hi : it ρ = some (ds, ρ1)) (hc : compD k pt tt te deep ds ρ1 = some (vs, ρ2)) : eComp k it pt tt te deep ρ = some (.lst vs, if deep = true then 2 else 1, ρ2) := by unfold eComp; rw [hi]; simp only [hc]
theorem sSet_eq {i : Nat} {f : Den} {ρ ρ1 : Rho} {d : D} {q : Nat} (h : f ρ = some (d, q, ρ1)) : sSet i f ρ = some (.nx (ρ1.set i (some (d, q)))) := by unfold sSet; rw [h]
theorem sRet_eq {f : Den} {ρ ρ1 : Rho} {d : D} {q : Nat} (h : f ρ = some (d, q, ρ1)) : sRet f ρ = some (.rt d q) := by unfold sRet; rw [h]
theorem sFor_eq {it : DenI} {pt : DenP} {body : DenS} {ρ ρ1 : Rho} {ds : List D} (h : it ρ = some (ds, ρ1)) : sFor it pt body ρ = forD pt body ds ρ1 := by unfold sFor; rw [h]
theorem sIf_t {g : DenT} {s s' : DenS} {ρ ρ1 : Rho} (h : g ρ = some (true, ρ1)) : sIf g s s' ρ = s ρ1 := by unfold sIf; rw [h]; rfl
theorem sIf_f {g : DenT} {s s' : DenS} {ρ ρ1 : Rho} (h : g ρ = some (false, ρ1)) : sIf g s s' ρ = s' ρ1 := by unfold sIf; rw [h]; rfl
theorem sSet_to {i : Nat} {f : Den} {ρ ρ1 ρ2 : Rho} {d : D} {q : Nat} (h : f ρ = some (d, q, ρ1)) (e : ρ1.set i (some (d, q)) = ρ2) : sSet i f ρ = some (.nx ρ2) := by rw [sSet_eq h, e]
theorem aCons_1 {f : Den} {ρ ρ1 : Rho} {d : D} {q : Nat} (h : f ρ = some (d, q, ρ1)) : aCons f aNil ρ = some ([d], ρ1) := by unfold aCons; rw [h]; rfl
theorem aCons_eq {f : Den} {g : DenA} {ρ ρ1 ρ2 : Rho} {d : D} {q : Nat} {ds : List D} (h : f ρ = some (d, q, ρ1)) (h' : g ρ1 = some (ds, ρ2)) : aCons f g ρ = some (d :: ds, ρ2) := by unfold aCons; rw [h]; simp only [h']
theorem eTupOf_lst {g : DenA} {ρ ρ1 : Rho} {ds : List D} (h : g ρ = some ([.lst ds], ρ1)) : eTupOf g ρ = some (.tup ds, 9, ρ1) := by unfold eTupOf; rw [h]
theorem eCall_eq {F : List D → Option (D × Nat)} {n : Nat} {g : DenA} {ρ ρ1 : Rho} {ds : List D} {d : D} {q : Nat} (h : g ρ = some (ds, ρ1)) (hl : ds.length = n) (hF : F ds = some (d, q)) : eCall F n g ρ = some (d, q, ρ1) := by unfold eCall; rw [h]; simp only [hl, if_true, hF]
noncomputable def nums (l : List Nat) : List D := l.map fun i => .int (Int.ofNat i)
noncomputable def rowT (n : Nat) (f : Nat → Nat → Nat) (i : Nat) : D := .tup (nums ((List.range n).map fun j => f i j))
noncomputable def tabT (n : Nat) (f : Nat → Nat → Nat) : D := .tup ((List.range n).map fun i => rowT n f i)
@[simp] theorem isL_tabT {n : Nat} {f : Nat → Nat → Nat} : (tabT n f).isL = false := rfl
@[simp] theorem isL_rowT {n : Nat} {f : Nat → Nat → Nat} {i : Nat} : (rowT n f i).isL = false := rfl
theorem nums_len (l : List Nat) : (nums l).length = l.length := by simp [nums]
theorem nums_get (l : List Nat) (i : Nat) : (nums l)[i]? = (l[i]?).map fun x => .int (Int.ofNat x) := by simp [nums]
theorem ixN_nat {n i : Nat} (h : i < n) : ixN n (Int.ofNat i) = some i := by
  unfold ixN
  rw [if_pos (by exact Int.natCast_nonneg i), if_pos (by show (i : Int) < n; omega)]
  rfl
theorem atI_of {α : Type} {xs : List α} {i : Nat} {x : α} (h : xs[i]? = some x) : L2.atI xs (Int.ofNat i) = some x := by
  unfold L2.atI
  rw [ixN_nat (List.getElem?_eq_some_iff.mp h).1]
  exact h
theorem at_nums {l : List Nat} {i x : Nat} (h : l[i]? = some x) : L2.atI (nums l) (Int.ofNat i) = some (.int (Int.ofNat x)) := atI_of (by rw [nums_get, h]; rfl)
theorem at_map {g : Nat → D} {n i : Nat} (h : i < n) : L2.atI ((List.range n).map g) (Int.ofNat i) = some (g i) := atI_of (by rw [List.getElem?_map, List.getElem?_range h]; rfl)
theorem at_nums_range {g : Nat → Nat} {n i : Nat} (h : i < n) : L2.atI (nums ((List.range n).map g)) (Int.ofNat i) = some (.int (Int.ofNat (g i))) := at_nums (by rw [List.getElem?_map, List.getElem?_range h]; rfl)
theorem at_tabT {n : Nat} {f : Nat → Nat → Nat} {i : Nat} (h : i < n) : atD (tabT n f) (Int.ofNat i) = some (rowT n f i) := at_map h
theorem at_rowT {n : Nat} {f : Nat → Nat → Nat} {i j : Nat} (h : j < n) : atD (rowT n f i) (Int.ofNat j) = some (.int (Int.ofNat (f i j))) := at_nums_range h
theorem len_tabT {n : Nat} {f : Nat → Nat → Nat} : lenD (tabT n f) = some n := by simp [tabT, lenD]
theorem map_range_set {α : Type} {g : Nat → α} {n m : Nat} {x : α} : ((List.range n).map g).set m x = (List.range n).map fun a => if a = m then x else g a := by
  apply List.ext_getElem?
  intro i
  by_cases hi : i < n
  · by_cases h : m = i
    · subst h
      rw [List.getElem?_set_self (by simpa using hi), List.getElem?_map, List.getElem?_range hi]
      simp
    · rw [List.getElem?_set_ne h, List.getElem?_map, List.getElem?_map, List.getElem?_range hi]
      simp
      exact fun z => absurd z.symm h
  · rw [List.getElem?_eq_none (by simp; omega), List.getElem?_eq_none (by simp; omega)]
theorem toPs_map : ∀ ds : List D, toPs ds = ds.map toP
  | [] => rfl
  | d :: ds => by rw [toPs, toPs_map ds]; rfl
noncomputable def lay (d : D) : Bool := noDic d && (toP d).canLay0
theorem lay_1 {d : D} (h : lay d = true) : noDic d = true := (Bool.and_eq_true_iff.mp h).1
theorem lay_2 {d : D} (h : lay d = true) : (toP d).canLay0 = true := (Bool.and_eq_true_iff.mp h).2
theorem noDics_all : ∀ {ds : List D}, (∀ d ∈ ds, lay d = true) → noDics ds = true
  | [], _ => rfl
  | d :: ds, h => by
    show (noDic d && noDics ds) = true
    rw [lay_1 (h d List.mem_cons_self), noDics_all fun x m => h x (List.mem_cons_of_mem _ m)]
    rfl
noncomputable def dep (d : D) : Nat := (toP d).depth
theorem layAll : ∀ {ds : List D}, (∀ d ∈ ds, lay d = true) → PyData.canLayAll0 (toPs ds) = true
  | [], _ => rfl
  | d :: ds, h => by
    rw [toPs, PyData.canLayAll0, layAll fun x m => h x (List.mem_cons_of_mem _ m), Bool.and_true]
    exact lay_2 (h d List.mem_cons_self)
theorem depAll {k : Nat} : ∀ {ds : List D}, (∀ d ∈ ds, dep d ≤ k) → PyData.depthAll (toPs ds) ≤ k
  | [], _ => Nat.zero_le _
  | d :: ds, h => by
    rw [toPs, PyData.depthAll]
    exact Nat.max_le.mpr ⟨h d List.mem_cons_self, depAll fun x m => h x (List.mem_cons_of_mem _ m)⟩
noncomputable def Sh (k : Nat) (d : D) : Prop := lay d = true ∧ dep d ≤ k
theorem Sh.int {k : Nat} (i : Int) : Sh k (.int i) := ⟨rfl, Nat.zero_le _⟩
theorem Sh.tup {k : Nat} {ds : List D} (h : ∀ d ∈ ds, Sh k d) : Sh (k + 1) (.tup ds) := ⟨Bool.and_eq_true_iff.mpr ⟨noDics_all fun d m => (h d m).1, layAll fun d m => (h d m).1⟩, Nat.succ_le_succ (depAll fun d m => (h d m).2)⟩
theorem Sh.lst {k : Nat} {ds : List D} (h : ∀ d ∈ ds, Sh k d) : Sh (k + 1) (.lst ds) := ⟨Bool.and_eq_true_iff.mpr ⟨noDics_all fun d m => (h d m).1, layAll fun d m => (h d m).1⟩, Nat.succ_le_succ (depAll fun d m => (h d m).2)⟩
theorem Sh.ok {k : Nat} {d : D} (h : Sh k d) (hk : k ≤ 64 := by decide) : okD d = true := by
  show (noDic d && ((toP d).canLay0 && decide ((toP d).depth ≤ 64))) = true
  rw [lay_1 h.1, lay_2 h.1, Bool.true_and, Bool.true_and]
  exact decide_eq_true (Nat.le_trans h.2 hk)
theorem sh_nums {l : List Nat} {d : D} (m : d ∈ nums l) : Sh 0 d := by
  obtain ⟨x, _, rfl⟩ := List.mem_map.mp m
  exact .int _
theorem sh_L (l : List Nat) : Sh 1 (.lst (nums l)) := .lst fun _ m => sh_nums m
theorem sh_T (l : List Nat) : Sh 1 (.tup (nums l)) := .tup fun _ m => sh_nums m
theorem sh_tabT (n : Nat) (f : Nat → Nat → Nat) : Sh 2 (tabT n f) := .tup fun d m => by
  obtain ⟨x, _, rfl⟩ := List.mem_map.mp m
  exact sh_T _
theorem eqvAll_nums : ∀ l l' : List Nat, PyData.eqvAll (toPs (nums l)) (toPs (nums l')) = decide (l = l')
  | [], [] => rfl
  | [], _ :: _ => rfl
  | _ :: _, [] => rfl
  | x :: l, y :: l' => by
    show (((x : Int) == (y : Int)) && PyData.eqvAll (toPs (nums l)) (toPs (nums l'))) = _
    rw [eqvAll_nums l l']
    by_cases h : x = y
    · subst h; simp
    · have : ((x : Int) == (y : Int)) = false := by simp; omega
      rw [this]
      simp [h]
theorem eqD_T (l l' : List Nat) : eqD (.tup (nums l)) (.tup (nums l')) = decide (l = l') := eqvAll_nums l l'
theorem eqD_int (i j : Int) : eqD (.int i) (.int j) = decide (i = j) := by
  show (i == j) = _
  rw [Bool.beq_eq_decide_eq]
theorem eqD_nat (i j : Nat) : eqD (.int (Int.ofNat i)) (.int (Int.ofNat j)) = decide (i = j) := by
  rw [eqD_int]
  exact decide_eq_decide.mpr ⟨fun h => Int.ofNat.inj h, fun h => by rw [h]⟩
theorem dEq_nat (i j : Nat) : dEq (.int (Int.ofNat i)) (.int (Int.ofNat j)) = some (.bl (decide (i = j))) := by unfold dEq; rw [if_pos ⟨(Sh.int (k := 0) _).ok, (Sh.int (k := 0) _).ok⟩, eqD_nat]
theorem dNe_nat (i j : Nat) : dNe (.int (Int.ofNat i)) (.int (Int.ofNat j)) = some (.bl (!decide (i = j))) := by unfold dNe; rw [if_pos ⟨(Sh.int (k := 0) _).ok, (Sh.int (k := 0) _).ok⟩, eqD_nat]
structure Lad (n : Nat) (f : Nat → Nat → Nat) : Prop where
  lo : 0 < n
  hi : n ≤ 16
  cl : ∀ i j, i < n → j < n → f i j < n
  idem : ∀ i, i < n → f i i = i
  comm : ∀ i j, i < n → j < n → f i j = f j i
  assoc : ∀ i j k, i < n → j < n → k < n → f (f i j) k = f i (f j k)
  bot : ∃ z, z < n ∧ ∀ j, j < n → f z j = j
noncomputable def left (p : Nat → Nat → Nat) (n : Nat) : Nat → List Nat
  | 0 => List.range n
  | k + 1 => (left p n k).eraseIdx (p k (left p n k).length)
noncomputable def drawn (p : Nat → Nat → Nat) (n k : Nat) : Nat := (left p n k).getD (p k (left p n k).length) 0
end L3
set_option Elab.async false
set_option linter.all false
set_option maxRecDepth 100000
namespace L3
open PySem PySem.Spec PyProof.Rows L2
theorem comp1 {i n : Nat} {tt : DenT} {te : Den} {ρ : Rho} {deep : Bool} (hi : ρ.length = i) (b : Nat → Bool) (v : Nat → D) (q : Nat → Nat) (ht : ∀ j, j < n → tt (ρ ++ [some (.int (Int.ofNat j), 9)]) = some (b j, ρ ++ [some (.int (Int.ofNat j), 9)]))
    (he : ∀ j, j < n → b j = true → te (ρ ++ [some (.int (Int.ofNat j), 9)]) = some (v j, q j, ρ ++ [some (.int (Int.ofNat j), 9)])) (hd : deep = true → ∀ j, (v j).isL = true → q j = 1 := by intro h; cases h) :
    compD 1 (pName i) tt te deep (rangeD n) ρ = some (((List.range n).filter b).map v, ρ) := by
  have h := compD_fn (k := 1) (pt := pName i) (tt := tt) (te := te) (deep := deep) (rangeD n) (fun _ => ρ) b v (fun j hj => ?_)
  · rw [rangeD_len] at h
    exact h
  · rw [rangeD_len] at hj
    refine ⟨ρ ++ [some (.int (Int.ofNat j), 9)], _, ?_, ht j hj, ?_⟩
    · have : (rangeD n)[j]'(by rw [rangeD_len]; exact hj) = .int (Int.ofNat j) := by simp [rangeD]
      rw [this]
      unfold pName
      rw [if_pos (by simp [hi])]
      subst hi
      simp [List.set_append]
    · by_cases hb : b j = true
      · rw [if_pos hb]
        exact ⟨q j, _, he j hj hb, fun ⟨h1, h2, h3⟩ => h3 (hd h1 j h2), by simp⟩
      · rw [if_neg hb]
        simp
namespace Lad
variable {n : Nat} {f : Nat → Nat → Nat} (L : Lad n f)
include L
end Lad
end L3
set_option Elab.async false
set_option linter.all false
set_option maxRecDepth 100000
namespace L3
open PySem PySem.Spec PyProof.Rows L2
theorem forD_chk {pt : DenP} {body : DenS} {d : D} {q : Nat} : ∀ (ds : List D) (I : Rho → Prop) (ok : Nat → Bool) (ρ : Rho),
    (∀ i (h : i < ds.length) ρ, I ρ → ∃ ρ1, pt ds[i] ρ = some ρ1 ∧ (ok i = true → ∃ ρ2, body ρ1 = some (.nx ρ2) ∧ I ρ2) ∧ (ok i = false → body ρ1 = some (.rt d q))) → I ρ →
    ((List.range ds.length).all ok = true → ∃ ρ', forD pt body ds ρ = some (.nx ρ') ∧ I ρ') ∧ ((List.range ds.length).all ok = false → forD pt body ds ρ = some (.rt d q))
  | [], I, ok, ρ, _, h0 => ⟨fun _ => ⟨ρ, rfl, h0⟩, fun h => by simp at h⟩
  | x :: ds, I, ok, ρ, h, h0 => by
    obtain ⟨ρ1, h1, h2, h3⟩ := h 0 (by simp) ρ h0
    have e1 : pt x ρ = some ρ1 := h1
    have er : (List.range (x :: ds).length).all ok = (ok 0 && (List.range ds.length).all fun i => ok (i + 1)) := by
      rw [List.length_cons, List.range_succ_eq_map, List.all_cons, List.all_map]; rfl
    rw [er]
    cases hk : ok 0 with
    | false =>
      refine ⟨fun z => by simp at z, fun _ => ?_⟩
      unfold forD
      simp only [e1, h3 hk]
    | true =>
      obtain ⟨ρ2, h4, h5⟩ := h2 hk
      obtain ⟨i1, i2⟩ := forD_chk ds I (fun i => ok (i + 1)) ρ2 (fun i hi => h (i + 1) (by simpa using hi)) h5
      rw [Bool.true_and]
      unfold forD
      simp only [e1, h4]
      exact ⟨i1, i2⟩
theorem range_all {n : Nat} {p : Nat → Bool} : (List.range n).all p = true ↔ ∀ i, i < n → p i = true := by
  rw [List.all_eq_true]
  exact ⟨fun h i hi => h i (List.mem_range.mpr hi), fun h i hi => h i (List.mem_range.mp hi)⟩
theorem e2_eq {g : D → D → Option D} {fa fb : Den} {ρ ρ1 ρ2 : Rho} {x y d : D} {q q' : Nat} (ha : fa ρ = some (x, q, ρ1)) (hb : fb ρ1 = some (y, q', ρ2)) (hg : g x y = some d) : e2 g fa fb ρ = some (d, 9, ρ2) := by unfold e2; rw [ha]; simp only [hb, hg]
theorem tOfB_eq {f : Den} {ρ ρ1 : Rho} {b : Bool} {q : Nat} (h : f ρ = some (.bl b, q, ρ1)) : tOfB f ρ = some (b, ρ1) := by unfold tOfB; rw [h]
theorem sApp_eq {i : Nat} {g : DenA} {ρ ρ1 ρ2 : Rho} {ds : List D} {d : D} (hl : isLst ρ[i]? = true) (hg : g ρ = some ([d], ρ1)) (h1 : ρ1[i]? = some (some (.lst ds, 1))) (hn : ds.length ≤ 1000) (e : ρ1.set i (some (.lst (ds ++ [d]), 1)) = ρ2) : sDrop (eApp i g) ρ = some (.nx ρ2) := by
  unfold sDrop eApp
  rw [if_pos hl, hg]
  simp only [h1, if_pos hn, e]
theorem eB_eq {b : List D → Option D} {g : DenA} {ρ ρ1 : Rho} {ds : List D} {d : D} (h : g ρ = some (ds, ρ1)) (hd : b ds = some d) : eB b g ρ = some (d, 9, ρ1) := by unfold eB; rw [h]; simp only [hd]
noncomputable def ruleT (n : Nat) (r : Nat → Nat) : D := .tup (nums ((List.range n).map r))
@[simp] theorem isL_ruleT {n : Nat} {r : Nat → Nat} : (ruleT n r).isL = false := rfl
namespace Lad
variable {n : Nat} {f : Nat → Nat → Nat} (L : Lad n f)
include L
omit L
include L
variable {z : Nat} (hz : z < n) (bz : ∀ j, j < n → f z j = j) {r s : Nat → Nat} (hr : ∀ i, i < n → r i < n)
include hz bz hr
end Lad
end L3
set_option Elab.async false
set_option linter.all false
set_option maxRecDepth 100000
namespace L3
open PySem PySem.Spec PyProof.Rows L2
theorem len1 {α : Type} {us : List α} (h : us.length = 1) : ∃ a, us = [a] := match us, h with | [a], _ => ⟨a, rfl⟩
theorem len2 {α : Type} {us : List α} (h : us.length = 2) : ∃ a b, us = [a, b] := by
  cases us with
  | nil => cases h
  | cons a us =>
    obtain ⟨b, hh⟩ := len1 (Nat.succ.inj h)
    exact ⟨a, b, by rw [hh]⟩
theorem len3 {α : Type} {us : List α} (h : us.length = 3) : ∃ a b c, us = [a, b, c] := by
  cases us with
  | nil => cases h
  | cons a us =>
    obtain ⟨b, c, hh⟩ := len2 (Nat.succ.inj h)
    exact ⟨a, b, c, by rw [hh]⟩
theorem len4 {α : Type} {us : List α} (h : us.length = 4) : ∃ a b c d, us = [a, b, c, d] := by
  cases us with
  | nil => cases h
  | cons a us =>
    obtain ⟨b, c, d, hh⟩ := len3 (Nat.succ.inj h)
    exact ⟨a, b, c, d, by rw [hh]⟩
theorem forD_nx {pt : DenP} {body : DenS} {d : D} {ds : List D} {ρ ρ1 ρ2 : Rho} (h1 : pt d ρ = some ρ1) (h2 : body ρ1 = some (.nx ρ2)) : forD pt body (d :: ds) ρ = forD pt body ds ρ2 := by
  show (match pt d ρ with | none => none | some ρ1 => _) = _
  simp only [h1, h2]
theorem forD_rt {pt : DenP} {body : DenS} {d d' : D} {q : Nat} {ds : List D} {ρ ρ1 : Rho} (h1 : pt d ρ = some ρ1) (h2 : body ρ1 = some (.rt d' q)) : forD pt body (d :: ds) ρ = some (.rt d' q) := by
  unfold forD
  simp only [h1, h2]
theorem forD_all {α J : Type} {pt : DenP} {body : DenS} {d : D} {q : Nat} (enc : α → D) (ok : α → Bool) (S : J → Rho) : ∀ (l : List α) (j : J),
    (∀ x ∈ l, ∀ j, ∃ ρ1, pt (enc x) (S j) = some ρ1 ∧ (ok x = true → ∃ j', body ρ1 = some (.nx (S j'))) ∧ (ok x = false → body ρ1 = some (.rt d q))) →
    (l.all ok = true → ∃ j', forD pt body (l.map enc) (S j) = some (.nx (S j'))) ∧ (l.all ok = false → forD pt body (l.map enc) (S j) = some (.rt d q))
  | [], j, _ => ⟨fun _ => ⟨j, rfl⟩, fun h => by simp at h⟩
  | x :: l, j, h => by
    obtain ⟨ρ1, h1, h2, h3⟩ := h x List.mem_cons_self j
    rw [List.all_cons]
    cases hk : ok x with
    | false => exact ⟨fun z => by simp at z, fun _ => forD_rt h1 (h3 hk)⟩
    | true =>
      obtain ⟨j1, h4⟩ := h2 hk
      obtain ⟨i1, i2⟩ := forD_all enc ok S l j1 fun y m => h y (List.mem_cons_of_mem _ m)
      rw [Bool.true_and, List.map_cons, forD_nx h1 h4]
      exact ⟨i1, i2⟩
theorem nums_set (v : List Nat) (i x : Nat) : (nums v).set i (.int (Int.ofNat x)) = nums (v.set i x) := by simp [nums, List.map_set]
namespace Lad
variable {n : Nat} {f : Nat → Nat → Nat} (L : Lad n f) {p : Nat}
include L
end Lad
end L3
set_option maxHeartbeats 0
namespace My
open PySem PySem.Spec PyProof.Rows L2 L3
noncomputable def top (i : Nat) : Stmt := PySem.Challenge.pw_ladderhall_k98_whole_edges.main.body.getD i (.Pass ⟨0, 0, 0, 0⟩)
structure Bt (mg : Str → Option Value) : Prop where
  m_ValueError : mg "ValueError" = none
  m_all : mg "all" = none
  m_bool : mg "bool" = none
  m_enumerate : mg "enumerate" = none
  m_int : mg "int" = none
  m_isinstance : mg "isinstance" = none
  m_len : mg "len" = none
  m_max : mg "max" = none
  m_range : mg "range" = none
  m_str : mg "str" = none
  m_tuple : mg "tuple" = none
  k_MOST_BEGINS : ∃ t, mg "MOST_BEGINS" = some (.int 60 t)
  k_MOST_HOUSES : ∃ t, mg "MOST_HOUSES" = some (.int 4 t)
  k_MOST_PLACES : ∃ t, mg "MOST_PLACES" = some (.int 8 t)
  k_MOST_WAYS : ∃ t, mg "MOST_WAYS" = some (.int 60 t)
  k_MOST_WORTHS : ∃ t, mg "MOST_WORTHS" = some (.int 16 t)
structure Xt (K : PySem.W.Frag) (mg : Str → Option Value) : Prop where
  u : Under K mg "RiseError" ["NoStep"]
  x_NoStep : ∃ C, XNm K mg "NoStep" C
  i_NoStep : IsC K mg ["NoStep"] "NoStep"
noncomputable section
variable {P : Program} {w : World} {K : PySem.W.Frag} {mg : Str → Option Value} {base : Heap}
noncomputable abbrev b1_table_of (ob : D) (G : List D → Option (D × Nat)) : DenS := sDrop (eApp 2 (aCons (eTupOf (aCons (eComp 1 (iRange (aCons (eVar 0) (aNil))) (pName 4) (tYesD) (eCallO ob G 1 2 (aCons (eVar 3) (aCons (eVar 4) (aNil)))) false) (aNil))) (aNil)))
noncomputable def d_table_of (ob : D) (G : List D → Option (D × Nat)) : DenS := sSeq (sSet 2 (eLst (aNil)))
  (sSeq (sFor (iRange (aCons (eVar 0) (aNil))) (pName 3) (sDrop (eApp 2 (aCons (eTupOf (aCons (eComp 1 (iRange (aCons (eVar 0) (aNil))) (pName 4) (tYesD) (eCallO ob G 1 2 (aCons (eVar 3) (aCons (eVar 4) (aNil)))) false) (aNil))) (aNil)))))
  (sRet (eTupOf (aCons (eVar 2) (aNil)))))
noncomputable def F_table_of (ob : D) (G : List D → Option (D × Nat)) : List D → Option (D × Nat) := fnD 4 (d_table_of ob G)
theorem sc_table_of : FnScope ["many", "entry", "rows", "x"] ["many", "entry"] (defScope (top 20)) := ⟨rfl, rfl, rfl, by decide +kernel, rfl, by decide +kernel, by decide +kernel⟩
noncomputable abbrev n0_table_of : List Str := ["many", "entry", "rows", "x", "y"]
theorem nd0_table_of : (n0_table_of).Nodup := by decide +kernel
theorem C_table_of (B : Bt mg) {ob : D} {G : List D → Option (D × Nat)} (co : CalO P w K mg base 1 ob 2 G)  (a : At K mg "table_of" (top 20) ["many", "entry"]) : Cal P w K mg base 2 "table_of" 2 (F_table_of ob G) :=
  Cal.mkQ (k := 1) a sc_table_of fun f cdv A outer s H E hr =>
    qds_cons (qds_set (i := 2) sc_table_of.nd rfl (Or.inl rfl) (qd_lst (qda_nil)))
    (qds_cons (qds_for PassesOwn.never rfl (qdi_range1 B.m_range (qda_cons (qd_var (qv 0 rfl (Or.inl rfl))) (qda_nil) se_Name)) (qdg_name (i := 3) (show 0 ≤ 3 by decide) sc_table_of.nd rfl (Or.inr rfl)) (qds_one (qds_expr (qd_append (qv 2 rfl (Or.inl rfl)) (qda_cons (qd_tupOf B.m_tuple PyProof.Rows.boot_tuple (qda_cons (qd_comp (k := 1) (N' := n0_table_of) false rfl ⟨rfl, by decide +kernel, rfl, rfl, rfl⟩ (qdi_range1 B.m_range (qda_cons (qd_var (qv 0 rfl (Or.inl rfl))) (qda_nil) se_Name)) (fun _ _ _ _ => qdg_name (i := 4) (show 4 ≤ 4 by decide) nd0_table_of rfl (Or.inl rfl) (Or.inr rfl)) (fun _ _ _ _ => qdts_nil) (fun _ _ _ _ => qd_callO (qv 1) co hr (by decide) (qda_cons (qd_var (qv 3)) (qda_cons (qd_var (qv 4)) (qda_nil) se_Name) se_Name))) (qda_nil) se_ListComp)) (qda_nil) se_Call)))))
    (qds_one (qds_ret (qd_tupOf B.m_tuple PyProof.Rows.boot_tuple (qda_cons (qd_var (qv 2 rfl (Or.inl rfl))) (qda_nil) se_Name)))))
noncomputable def l_chain_ladder : Den := eB bMax (aCons (eVar 0) (aCons (eVar 1) (aNil)))
noncomputable def d_chain_ladder : DenS := sSeq (sIf (tOrD (tOfB (e2 dLt (eVar 0) (eC (.int 1)))) (tOfB (e2 dGt (eVar 0) (eC (.int 16))))) (sNever) (sNil))
  (sRet (eTab F_table_of l_chain_ladder [] (eVar 0)))
noncomputable def F_chain_ladder : List D → Option (D × Nat) := fnD 1 (d_chain_ladder)
theorem sc_chain_ladder : FnScope ["many"] ["many"] (defScope (top 21)) := ⟨rfl, rfl, rfl, by decide +kernel, rfl, by decide +kernel, by decide +kernel⟩
theorem C_chain_ladder (B : Bt mg) (L : Lm K mg base) (KX : K.In base) (NG : base.Ns mainGlobals mg) (tb : ∃ c Pt, PySem.W.tabIn K "chain_ladder" = some (c, Pt)) (hT : ∀ (base : Heap) (ob : D) (G : List D → Option (D × Nat)), CalO P w K mg base 1 ob 2 G → Cal P w K mg base 2 "table_of" 2 (F_table_of ob G)) (hy : ∃ fn, mg "table_of" = some (.ref fn) ∧ PySem.W.keepIn K (.ref fn) = true)   (a : At K mg "chain_ladder" (top 21) ["many"]) : Cal P w K mg base 3 "chain_ladder" 1 F_chain_ladder :=
  Cal.mkL (k := 2) KX NG tb a sc_chain_ladder fun f c Pt A outer s H E ht hr =>
    qds_cons (qds_if (qw_pt (qdw_or (qdt_lt (qd_var (qv 0 rfl (Or.inl rfl))) (qd_int)) (qdw_or1 (qdt_gt (qd_var (qv 0 rfl (Or.inl rfl))) (qd_glob B.k_MOST_WORTHS))))) (qds_one (qds_never)) (qds_nil))
    (qds_one (qds_ret (qd_tab (ps := ["x", "y"]) (caps := []) (is := []) (kb := 0) L (by decide) ht (by exact LamScope.of rfl rfl rfl (by decide +kernel) (by decide +kernel) (by decide +kernel) (by decide +kernel) (by decide +kernel)) hy hr (by decide) hT (fun _ _ _ _ _ _ _ _ _ hr => qd_max2 rfl B.m_max PyProof.Rows.boot_max (qda_cons (qd_var (qv 0 rfl (Or.inl rfl))) (qda_cons (qd_var (qv 1 rfl (Or.inl rfl))) (qda_nil) se_Name) se_Name)) (fun _ _ _ _ _ _ h => by obtain ⟨_, _, rfl⟩ := L3.pairOf h; rfl) trivial (qd_var (qv 0 rfl (Or.inl rfl))) (fun _ => se_Name))))
noncomputable def d__law_cell : DenS := sSeq (sIf (tOfB (e2 dLt (eVar 1) (eLenV 0))) (sRet (eIxV 0 (eVar 1))) (sNil))
  (sSeq (sIf (tOfB (e2 dEq (eVar 0) (eLst (aNil)))) (sRet (eC (.int 0))) (sNil))
  (sRet (e2 dAdd (e2 dMul (eIxV 0 (e2 dMod (eVar 1) (eLenV 0))) (eC (.int 31))) (eVar 1))))
noncomputable def F__law_cell : List D → Option (D × Nat) := fnD 2 (d__law_cell)
theorem sc__law_cell : FnScope ["_law_script", "_law_k"] ["_law_script", "_law_k"] (defScope (top 49)) := ⟨rfl, rfl, rfl, by decide +kernel, rfl, by decide +kernel, by decide +kernel⟩
theorem C__law_cell (B : Bt mg)  (a : At K mg "_law_cell" (top 49) ["_law_script", "_law_k"]) : Cal P w K mg base 1 "_law_cell" 2 (F__law_cell) :=
  Cal.mkQ (k := 0) a sc__law_cell fun f cdv A outer s H E hr =>
    qds_cons (qds_if (qdt_lt (qd_var (qv 1 rfl (Or.inl rfl))) (qd_lenV B.m_len (qv 0 rfl (Or.inl rfl)))) (qds_one (qds_ret (qd_ixV (qv 0 rfl (Or.inl rfl)) (qd_var (qv 1 rfl (Or.inl rfl)))))) (qds_nil))
    (qds_cons (qds_if (qdt_eq hr (qd_var (qv 0 rfl (Or.inl rfl))) (qd_lst (qda_nil))) (qds_one (qds_ret (qd_int))) (qds_nil))
    (qds_one (qds_ret (qd_add (qd_mul (qd_ixV (qv 0 rfl (Or.inl rfl)) (qd_mod (qd_var (qv 1 rfl (Or.inl rfl))) (qd_lenV B.m_len (qv 0 rfl (Or.inl rfl))))) (qd_int)) (qd_var (qv 1 rfl (Or.inl rfl)))))))
noncomputable def d__law_pick : DenS := sSeq (sSet 3 (e2 dMod (e2 dMul (e2 dAdd (eCall F__law_cell 2 (aCons (eVar 0) (aCons (eVar 1) (aNil)))) (e2 dMul (eC (.int 6151)) (e2 dAdd (eVar 1) (eC (.int 1))))) (eC (.int 40692))) (eC (.int 2147483399))))
  (sRet (e2 dMod (e2 dMod (e2 dAdd (e2 dMul (eVar 3) (eVar 3)) (e2 dDiv (eVar 3) (eC (.int 31)))) (eC (.int 2147483629))) (eVar 2)))
noncomputable def F__law_pick : List D → Option (D × Nat) := fnD 4 (d__law_pick)
theorem sc__law_pick : FnScope ["_law_script", "_law_k", "_law_many", "_law_drawn"] ["_law_script", "_law_k", "_law_many"] (defScope (top 50)) := ⟨rfl, rfl, rfl, by decide +kernel, rfl, by decide +kernel, by decide +kernel⟩
theorem C__law_pick (B : Bt mg) (c__law_cell : Cal P w K mg base 1 "_law_cell" 2 F__law_cell) (a : At K mg "_law_pick" (top 50) ["_law_script", "_law_k", "_law_many"]) : Cal P w K mg base 2 "_law_pick" 3 (F__law_pick) :=
  Cal.mkQ (k := 1) a sc__law_pick fun f cdv A outer s H E hr =>
    qds_cons (qds_set (i := 3) sc__law_pick.nd rfl (Or.inl rfl) (qd_mod (qd_mul (qd_add (qd_callC c__law_cell hr (by decide) (qda_cons (qd_var (qv 0 rfl (Or.inl rfl))) (qda_cons (qd_var (qv 1 rfl (Or.inl rfl))) (qda_nil) se_Name) se_Name)) (qd_mul (qd_int) (qd_add (qd_var (qv 1 rfl (Or.inl rfl))) (qd_int)))) (qd_int)) (qd_int)))
    (qds_one (qds_ret (qd_mod (qd_mod (qd_add (qd_mul (qd_var (qv 3 rfl (Or.inl rfl))) (qd_var (qv 3 rfl (Or.inl rfl)))) (qd_div (qd_var (qv 3 rfl (Or.inl rfl))) (qd_int))) (qd_int)) (qd_var (qv 2 rfl (Or.inl rfl))))))
noncomputable def d_row_of_least : DenS := sRet (eTupR (aCons (eVar 0) (aNil)))
noncomputable def F_row_of_least : List D → Option (D × Nat) := fnD 1 (d_row_of_least)
theorem sc_row_of_least : FnScope ["many"] ["many"] (defScope (top 15)) := ⟨rfl, rfl, rfl, by decide +kernel, rfl, by decide +kernel, by decide +kernel⟩
theorem C_row_of_least (B : Bt mg)  (a : At K mg "row_of_least" (top 15) ["many"]) : Cal P w K mg base 1 "row_of_least" 1 (F_row_of_least) :=
  Cal.mkQ (k := 0) a sc_row_of_least fun f cdv A outer s H E hr =>
    qds_one (qds_ret (qd_tupR rfl B.m_tuple PyProof.Rows.boot_tuple B.m_range (qda_cons (qd_var (qv 0 rfl (Or.inl rfl))) (qda_nil) se_Name)))
noncomputable def d_least_of : DenS := sRet (eIndex (eVar 0) (aCons (eCall F_row_of_least 1 (aCons (eLenV 0) (aNil))) (aNil)))
noncomputable def F_least_of : List D → Option (D × Nat) := fnD 1 (d_least_of)
theorem sc_least_of : FnScope ["ladder"] ["ladder"] (defScope (top 17)) := ⟨rfl, rfl, rfl, by decide +kernel, rfl, by decide +kernel, by decide +kernel⟩
theorem C_least_of (B : Bt mg) (c_row_of_least : Cal P w K mg base 1 "row_of_least" 1 F_row_of_least) (a : At K mg "least_of" (top 17) ["ladder"]) : Cal P w K mg base 2 "least_of" 1 (F_least_of) :=
  Cal.mkQ (k := 1) a sc_least_of fun f cdv A outer s H E hr =>
    qds_one (qds_ret (qd_index hr (qd_var (qv 0 rfl (Or.inl rfl))) (qda_cons (qd_callC c_row_of_least hr (by decide) (qda_cons (qd_lenV B.m_len (qv 0 rfl (Or.inl rfl))) (qda_nil) se_Call)) (qda_nil) se_Call)))
noncomputable def d_started : DenS := sSeq (sIf (tOfB (e2 dEq (eIxV 2 (eC (.int 0))) (eC (.str "place")))) (sRet (eTup (aCons (eIxV 2 (eC (.int 1))) (aCons (eCall F_least_of 1 (aCons (eVar 0) (aNil))) (aNil))))) (sNil))
  (sRet (eIx (eIxV 1 (eC (.int 2))) (eIxV 2 (eC (.int 1)))))
noncomputable def F_started : List D → Option (D × Nat) := fnD 3 (d_started)
theorem sc_started : FnScope ["ladder", "chart", "start"] ["ladder", "chart", "start"] (defScope (top 39)) := ⟨rfl, rfl, rfl, by decide +kernel, rfl, by decide +kernel, by decide +kernel⟩
theorem C_started (B : Bt mg) (c_least_of : Cal P w K mg base 2 "least_of" 1 F_least_of) (a : At K mg "started" (top 39) ["ladder", "chart", "start"]) : Cal P w K mg base 3 "started" 3 (F_started) :=
  Cal.mkQ (k := 2) a sc_started fun f cdv A outer s H E hr =>
    qds_cons (qds_if (qdt_eq hr (qd_ixV (qv 2 rfl (Or.inl rfl)) (qd_int)) (qd_str)) (qds_one (qds_ret (qd_tup (qda_cons (qd_ixV (qv 2 rfl (Or.inl rfl)) (qd_int)) (qda_cons (qd_callC c_least_of hr (by decide) (qda_cons (qd_var (qv 0 rfl (Or.inl rfl))) (qda_nil) se_Name)) (qda_nil) se_Call) se_Subscript)))) (qds_nil))
    (qds_one (qds_ret (qd_ix (qd_ixV (qv 1 rfl (Or.inl rfl)) (qd_int)) (qd_ixV (qv 2 rfl (Or.inl rfl)) (qd_int)))))
noncomputable def d_is_whole : DenS := sRet (eAnd (eIsi .int (eVar 0)) (eNot (eIsi .bool (eVar 0))))
noncomputable def F_is_whole : List D → Option (D × Nat) := fnD 1 (d_is_whole)
theorem sc_is_whole : FnScope ["thing"] ["thing"] (defScope (top 5)) := ⟨rfl, rfl, rfl, by decide +kernel, rfl, by decide +kernel, by decide +kernel⟩
theorem C_is_whole (B : Bt mg)  (a : At K mg "is_whole" (top 5) ["thing"]) : Cal P w K mg base 1 "is_whole" 1 (F_is_whole) :=
  Cal.mkQ (k := 0) a sc_is_whole fun f cdv A outer s H E hr =>
    qds_one (qds_ret (qd_and (qd_isi .int B.m_isinstance B.m_int PyProof.Rows.boot_int (qd_var (qv 0 rfl (Or.inl rfl)))) (qd_one (qd_not (qd_isi .bool B.m_isinstance B.m_bool PyProof.Rows.boot_bool (qd_var (qv 0 rfl (Or.inl rfl))))))))
noncomputable def d_is_number_of : DenS := sRet (eAnd (eCall F_is_whole 1 (aCons (eVar 0) (aNil))) (eCh dLe dLt (eC (.int 0)) (eVar 0) (eVar 1)))
noncomputable def F_is_number_of : List D → Option (D × Nat) := fnD 2 (d_is_number_of)
theorem sc_is_number_of : FnScope ["thing", "many"] ["thing", "many"] (defScope (top 6)) := ⟨rfl, rfl, rfl, by decide +kernel, rfl, by decide +kernel, by decide +kernel⟩
theorem C_is_number_of (B : Bt mg) (c_is_whole : Cal P w K mg base 1 "is_whole" 1 F_is_whole) (a : At K mg "is_number_of" (top 6) ["thing", "many"]) : Cal P w K mg base 2 "is_number_of" 2 (F_is_number_of) :=
  Cal.mkQ (k := 1) a sc_is_number_of fun f cdv A outer s H E hr =>
    qds_one (qds_ret (qd_and (qd_callC c_is_whole hr (by decide) (qda_cons (qd_var (qv 0 rfl (Or.inl rfl))) (qda_nil) se_Name)) (qd_one (qd_ch_le_lt (qd_int) (qd_var (qv 0 rfl (Or.inl rfl))) (qd_var (qv 1 rfl (Or.inl rfl)))))))
noncomputable def d_is_named_number : DenS := sSeq (sIf (tOrD (tNotD (tOfV (eIsi .tuple (eVar 0)))) (tOrD (tOfB (e2 dNe (eLenV 0) (eC (.int 2)))) (tNotD (tOfV (eIsi .str (eIxV 0 (eC (.int 0)))))))) (sRet (eC (.bl false))) (sNil))
  (sRet (eCall F_is_number_of 2 (aCons (eIxV 0 (eC (.int 1))) (aCons (eGet2 (eVar 1) (eIxV 0 (eC (.int 0))) (eC (.int 0))) (aNil)))))
noncomputable def F_is_named_number : List D → Option (D × Nat) := fnD 2 (d_is_named_number)
theorem sc_is_named_number : FnScope ["thing", "many_by_name"] ["thing", "many_by_name"] (defScope (top 8)) := ⟨rfl, rfl, rfl, by decide +kernel, rfl, by decide +kernel, by decide +kernel⟩
theorem C_is_named_number (B : Bt mg) (c_is_number_of : Cal P w K mg base 2 "is_number_of" 2 F_is_number_of) (a : At K mg "is_named_number" (top 8) ["thing", "many_by_name"]) : Cal P w K mg base 3 "is_named_number" 2 (F_is_named_number) :=
  Cal.mkQ (k := 2) a sc_is_named_number fun f cdv A outer s H E hr =>
    qds_cons (qds_if (qw_pt (qdw_or (qdt_not (qdt_val (qd_isi .tuple B.m_isinstance B.m_tuple PyProof.Rows.boot_tuple (qd_var (qv 0 rfl (Or.inl rfl)))))) (qdw_or (qdt_ne hr (qd_lenV B.m_len (qv 0 rfl (Or.inl rfl))) (qd_int)) (qdw_or1 (qdt_not (qdt_val (qd_isi .str B.m_isinstance B.m_str PyProof.Rows.boot_str (qd_ixV (qv 0 rfl (Or.inl rfl)) (qd_int))))))))) (qds_one (qds_ret (qd_bl))) (qds_nil))
    (qds_one (qds_ret (qd_callC c_is_number_of hr (by decide) (qda_cons (qd_ixV (qv 0 rfl (Or.inl rfl)) (qd_int)) (qda_cons (qd_get2 hr (qd_var (qv 1 rfl (Or.inl rfl))) (qd_ixV (qv 0 rfl (Or.inl rfl)) (qd_int)) (qd_int)) (qda_nil) se_Call) se_Subscript))))
noncomputable def d_is_start : DenS := sRet (eCall F_is_named_number 2 (aCons (eVar 1) (aCons (eDic2 "place" "begin" (qIx 0 (qC 0)) (qLenIx 0 2)) (aNil))))
noncomputable def F_is_start : List D → Option (D × Nat) := fnD 2 (d_is_start)
theorem sc_is_start : FnScope ["chart", "thing"] ["chart", "thing"] (defScope (top 38)) := ⟨rfl, rfl, rfl, by decide +kernel, rfl, by decide +kernel, by decide +kernel⟩
theorem C_is_start (B : Bt mg) (c_is_named_number : Cal P w K mg base 3 "is_named_number" 2 F_is_named_number) (a : At K mg "is_start" (top 38) ["chart", "thing"]) : Cal P w K mg base 4 "is_start" 2 (F_is_start) :=
  Cal.mkQ (k := 3) a sc_is_start fun f cdv A outer s H E hr =>
    qds_one (qds_ret (qd_callC c_is_named_number hr (by decide) (qda_cons (qd_var (qv 1 rfl (Or.inl rfl))) (qda_cons (qd_dic2 (by decide) (qq_ix (qv 0 rfl (Or.inl rfl)) (qq_int)) (qq_lenIx B.m_len (qv 0 rfl (Or.inl rfl)))) (qda_nil) se_Dict) se_Name)))
noncomputable def d_led_on : DenS := sSeq (sSet 3 (eIx (eIxV 0 (eC (.int 1))) (eVar 2)))
  (sRet (eTup (aCons (eIxV 3 (eC (.int 1))) (aCons (eIx (eIxV 3 (eC (.int 2))) (eIxV 1 (eC (.int 1)))) (aNil)))))
noncomputable def F_led_on : List D → Option (D × Nat) := fnD 4 (d_led_on)
theorem sc_led_on : FnScope ["chart", "state", "number", "way"] ["chart", "state", "number"] (defScope (top 41)) := ⟨rfl, rfl, rfl, by decide +kernel, rfl, by decide +kernel, by decide +kernel⟩
theorem C_led_on (B : Bt mg)  (a : At K mg "led_on" (top 41) ["chart", "state", "number"]) : Cal P w K mg base 1 "led_on" 3 (F_led_on) :=
  Cal.mkQ (k := 0) a sc_led_on fun f cdv A outer s H E hr =>
    qds_cons (qds_set (i := 3) sc_led_on.nd rfl (Or.inl rfl) (qd_ix (qd_ixV (qv 0 rfl (Or.inl rfl)) (qd_int)) (qd_var (qv 2 rfl (Or.inl rfl)))))
    (qds_one (qds_ret (qd_tup (qda_cons (qd_ixV (qv 3 rfl (Or.inl rfl)) (qd_int)) (qda_cons (qd_ix (qd_ixV (qv 3 rfl (Or.inl rfl)) (qd_int)) (qd_ixV (qv 1 rfl (Or.inl rfl)) (qd_int))) (qda_nil) se_Subscript) se_Subscript))))
noncomputable def d_ways_from : DenS := sRet (eComp 2 (iEnum (aCons (eIxV 0 (eC (.int 1))) (aNil))) (pTup (psCons (pName 2) (psCons (pName 3) (psNil)))) (tOfB (e2 dEq (eIxV 3 (eC (.int 0))) (eVar 1))) (eVar 2) false)
noncomputable def F_ways_from : List D → Option (D × Nat) := fnD 2 (d_ways_from)
theorem sc_ways_from : FnScope ["chart", "place"] ["chart", "place"] (defScope (top 40)) := ⟨rfl, rfl, rfl, by decide +kernel, rfl, by decide +kernel, by decide +kernel⟩
noncomputable abbrev n0_ways_from : List Str := ["chart", "place", "number", "way"]
theorem nd0_ways_from : (n0_ways_from).Nodup := by decide +kernel
theorem C_ways_from (B : Bt mg)  (a : At K mg "ways_from" (top 40) ["chart", "place"]) : Cal P w K mg base 1 "ways_from" 2 (F_ways_from) :=
  Cal.mkQ (k := 0) a sc_ways_from fun f cdv A outer s H E hr =>
    qds_one (qds_ret (qd_comp (k := 2) (N' := n0_ways_from) false rfl ⟨rfl, by decide +kernel, rfl, rfl, rfl⟩ (qdi_enum B.m_enumerate (qda_cons (qd_ixV (qv 0 rfl (Or.inl rfl)) (qd_int)) (qda_nil) se_Subscript)) (fun _ _ _ _ => qdg_tup (n := 2) rfl (qdgs_cons (qdg_name (i := 2) (show 2 ≤ 2 by decide) nd0_ways_from rfl (Or.inl rfl) (Or.inr rfl)) (qdgs_cons (qdg_name (i := 3) (show 2 ≤ 3 by decide) nd0_ways_from rfl (Or.inl rfl) (Or.inr rfl)) (qdgs_nil))) ps_len2) (fun _ _ _ _ => qdts_one (qdt_eq hr (qd_ixV (qv 3) (qd_int)) (qd_var (qv 1)))) (fun _ _ _ _ => qd_var (qv 2))))
noncomputable def d_brought : DenS := sSeq (sIf (tNotD (tOfV (eCall F_is_start 2 (aCons (eVar 1) (aCons (eVar 2) (aNil)))))) (sNever) (sNil))
  (sSeq (sSet 4 (eCall F_started 3 (aCons (eVar 0) (aCons (eVar 1) (aCons (eVar 2) (aNil))))))
  (sSeq (sFor (iVal (eVar 3)) (pName 5) (sSeq (sIf (tOfB (e2 dNotIn (eVar 5) (eCall F_ways_from 2 (aCons (eVar 1) (aCons (eIxV 4 (eC (.int 0))) (aNil)))))) (sNever) (sNil))
  (sSet 4 (eCall F_led_on 3 (aCons (eVar 1) (aCons (eVar 4) (aCons (eVar 5) (aNil))))))))
  (sRet (eVar 4))))
noncomputable def F_brought : List D → Option (D × Nat) := fnD 6 (d_brought)
theorem sc_brought : FnScope ["ladder", "chart", "start", "ways", "state", "number"] ["ladder", "chart", "start", "ways"] (defScope (top 42)) := ⟨rfl, rfl, rfl, by decide +kernel, rfl, by decide +kernel, by decide +kernel⟩
theorem C_brought (B : Bt mg) (c_is_start : Cal P w K mg base 4 "is_start" 2 F_is_start) (c_started : Cal P w K mg base 3 "started" 3 F_started) (c_ways_from : Cal P w K mg base 1 "ways_from" 2 F_ways_from) (c_led_on : Cal P w K mg base 1 "led_on" 3 F_led_on) (a : At K mg "brought" (top 42) ["ladder", "chart", "start", "ways"]) : Cal P w K mg base 5 "brought" 4 (F_brought) :=
  Cal.mkQ (k := 4) a sc_brought fun f cdv A outer s H E hr =>
    qds_cons (qds_if (qdt_not (qdt_val (qd_callC c_is_start hr (by decide) (qda_cons (qd_var (qv 1 rfl (Or.inl rfl))) (qda_cons (qd_var (qv 2 rfl (Or.inl rfl))) (qda_nil) se_Name) se_Name)))) (qds_one (qds_never)) (qds_nil))
    (qds_cons (qds_set (i := 4) sc_brought.nd rfl (Or.inl rfl) (qd_callC c_started hr (by decide) (qda_cons (qd_var (qv 0 rfl (Or.inl rfl))) (qda_cons (qd_var (qv 1 rfl (Or.inl rfl))) (qda_cons (qd_var (qv 2 rfl (Or.inl rfl))) (qda_nil) se_Name) se_Name) se_Name)))
    (qds_cons (qds_for PassesOwn.never rfl (qdi_val (qd_var (qv 3 rfl (Or.inl rfl)))) (qdg_name (i := 5) (show 0 ≤ 5 by decide) sc_brought.nd rfl (Or.inl rfl)) (qds_cons (qds_if (qdt_notin hr (qd_var (qv 5 rfl (Or.inl rfl))) (qd_callC c_ways_from hr (by decide) (qda_cons (qd_var (qv 1 rfl (Or.inl rfl))) (qda_cons (qd_ixV (qv 4 rfl (Or.inl rfl)) (qd_int)) (qda_nil) se_Subscript) se_Name))) (qds_one (qds_never)) (qds_nil))
    (qds_one (qds_set (i := 4) sc_brought.nd rfl (Or.inl rfl) (qd_callC c_led_on hr (by decide) (qda_cons (qd_var (qv 1 rfl (Or.inl rfl))) (qda_cons (qd_var (qv 4 rfl (Or.inl rfl))) (qda_cons (qd_var (qv 5 rfl (Or.inl rfl))) (qda_nil) se_Name) se_Name) se_Name))))))
    (qds_one (qds_ret (qd_var (qv 4 rfl (Or.inl rfl)))))))
noncomputable def x_brought : DenX := xOr (xIte (tNotD (tOfV (eCall F_is_start 2 (aCons (eVar 1) (aCons (eVar 2) (aNil)))))) (xRaise "NoStep") (xNone)) (xSeq (sIf (tNotD (tOfV (eCall F_is_start 2 (aCons (eVar 1) (aCons (eVar 2) (aNil)))))) (sNever) (sNil)) (xSeq (sSet 4 (eCall F_started 3 (aCons (eVar 0) (aCons (eVar 1) (aCons (eVar 2) (aNil)))))) (xFor (iVal (eVar 3)) (pName 5) (sSeq (sIf (tOfB (e2 dNotIn (eVar 5) (eCall F_ways_from 2 (aCons (eVar 1) (aCons (eIxV 4 (eC (.int 0))) (aNil)))))) (sNever) (sNil))
  (sSet 4 (eCall F_led_on 3 (aCons (eVar 1) (aCons (eVar 4) (aCons (eVar 5) (aNil))))))) (xIte (tOfB (e2 dNotIn (eVar 5) (eCall F_ways_from 2 (aCons (eVar 1) (aCons (eIxV 4 (eC (.int 0))) (aNil)))))) (xRaise "NoStep") (xNone)))))
noncomputable def FX_brought : List D → Option Str := fnX 6 x_brought
theorem CX_brought (B : Bt mg) (T : Xt K mg) (c_is_start : Cal P w K mg base 4 "is_start" 2 F_is_start) (c_ways_from : Cal P w K mg base 1 "ways_from" 2 F_ways_from) (c_led_on : Cal P w K mg base 1 "led_on" 3 F_led_on) (c_started : Cal P w K mg base 3 "started" 3 F_started) (a : At K mg "brought" (top 42) ["ladder", "chart", "start", "ways"]) : CalX P w K mg base 5 "brought" 4 FX_brought :=
  CalX.mkQ (k := 4) a sc_brought fun f cdv A outer s H E hr =>
    qxb_or (qxb_first (qxs_ite (qdt_not (qdt_val (qd_callC c_is_start hr (by decide) (qda_cons (qd_var (qv 1 rfl (Or.inl rfl))) (qda_cons (qd_var (qv 2 rfl (Or.inl rfl))) (qda_nil) se_Name) se_Name)))) (qxb_first (qxs_raise hr T.x_NoStep)) (qxb_none))) (qxb_seq (qds_if (qdt_not (qdt_val (qd_callC c_is_start hr (by decide) (qda_cons (qd_var (qv 1 rfl (Or.inl rfl))) (qda_cons (qd_var (qv 2 rfl (Or.inl rfl))) (qda_nil) se_Name) se_Name)))) (qds_one (qds_never)) (qds_nil)) (qxb_seq (qds_set (i := 4) sc_brought.nd rfl (Or.inl rfl) (qd_callC c_started hr (by decide) (qda_cons (qd_var (qv 0 rfl (Or.inl rfl))) (qda_cons (qd_var (qv 1 rfl (Or.inl rfl))) (qda_cons (qd_var (qv 2 rfl (Or.inl rfl))) (qda_nil) se_Name) se_Name) se_Name))) (qxb_first (qxs_for PassesOwn.leaving rfl (qdi_val (qd_var (qv 3 rfl (Or.inl rfl)))) (qdg_name (i := 5) (show 0 ≤ 5 by decide) sc_brought.nd rfl (Or.inl rfl)) (qds_cons (qds_if (qdt_notin hr (qd_var (qv 5 rfl (Or.inl rfl))) (qd_callC c_ways_from hr (by decide) (qda_cons (qd_var (qv 1 rfl (Or.inl rfl))) (qda_cons (qd_ixV (qv 4 rfl (Or.inl rfl)) (qd_int)) (qda_nil) se_Subscript) se_Name))) (qds_one (qds_never)) (qds_nil))
    (qds_one (qds_set (i := 4) sc_brought.nd rfl (Or.inl rfl) (qd_callC c_led_on hr (by decide) (qda_cons (qd_var (qv 1 rfl (Or.inl rfl))) (qda_cons (qd_var (qv 4 rfl (Or.inl rfl))) (qda_cons (qd_var (qv 5 rfl (Or.inl rfl))) (qda_nil) se_Name) se_Name) se_Name))))) (qxb_first (qxs_ite (qdt_notin hr (qd_var (qv 5 rfl (Or.inl rfl))) (qd_callC c_ways_from hr (by decide) (qda_cons (qd_var (qv 1 rfl (Or.inl rfl))) (qda_cons (qd_ixV (qv 4 rfl (Or.inl rfl)) (qd_int)) (qda_nil) se_Subscript) se_Name))) (qxb_first (qxs_raise hr T.x_NoStep)) (qxb_none)))))))
noncomputable def d__law_do : DenS := sSeq (sSet 4 (eC .non))
  (sSeq (sSet 5 (eC .non))
  (sSeq (sTryG ["NoStep"] (sSet 5 (eCall F_brought 4 (aCons (eVar 0) (aCons (eVar 1) (aCons (eVar 2) (aCons (eVar 3) (aNil))))))) (yCall FX_brought 4 (aCons (eVar 0) (aCons (eVar 1) (aCons (eVar 2) (aCons (eVar 3) (aNil)))))) 6 4)
  (sSeq (sIf (tOfB (e2 dIsN (eVar 4) (eC .non))) (sRet (eVar 5)) (sNil))
  (sRet (eIf (tAndD (tOfV (eIsC ["NoStep"] "NoStep" (eVar 4))) (tOfV (eIsV (eVar 4)))) (eC (.str "no step")) (eC (.str "wrong")))))))
noncomputable def F__law_do : List D → Option (D × Nat) := fnD 7 (d__law_do)
theorem sc__law_do : FnScope ["_law_ladder", "_law_chart", "_law_start", "_law_numbers", "_law_kept", "_law_answer", "e"] ["_law_ladder", "_law_chart", "_law_start", "_law_numbers"] (defScope (top 51)) := ⟨rfl, rfl, rfl, by decide +kernel, rfl, by decide +kernel, by decide +kernel⟩
theorem C__law_do (B : Bt mg) (T : Xt K mg) (c_brought : Cal P w K mg base 5 "brought" 4 F_brought) (cx_brought : CalX P w K mg base 5 "brought" 4 FX_brought) (a : At K mg "_law_do" (top 51) ["_law_ladder", "_law_chart", "_law_start", "_law_numbers"]) : Cal P w K mg base 6 "_law_do" 4 (F__law_do) :=
  Cal.mkQ (k := 5) a sc__law_do fun f cdv A outer s H E hr =>
    qds_cons (qds_set (i := 4) sc__law_do.nd rfl (Or.inl rfl) (qd_non))
    (qds_cons (qds_set (i := 5) sc__law_do.nd rfl (Or.inl rfl) (qd_non))
    (qds_cons (qds_tryG (ie := 6) (ik := 4) T.u (qds_one (qds_set (i := 5) sc__law_do.nd rfl (Or.inl rfl) (qd_callC c_brought hr (by decide) (qda_cons (qd_var (qv 0 rfl (Or.inl rfl))) (qda_cons (qd_var (qv 1 rfl (Or.inl rfl))) (qda_cons (qd_var (qv 2 rfl (Or.inl rfl))) (qda_cons (qd_var (qv 3 rfl (Or.inl rfl))) (qda_nil) se_Name) se_Name) se_Name) se_Name)))) (qtb_one (qts_call cx_brought hr (by decide) (qda_cons (qd_var (qv 0 rfl (Or.inl rfl))) (qda_cons (qd_var (qv 1 rfl (Or.inl rfl))) (qda_cons (qd_var (qv 2 rfl (Or.inl rfl))) (qda_cons (qd_var (qv 3 rfl (Or.inl rfl))) (qda_nil) se_Name) se_Name) se_Name) se_Name))) sc__law_do.nd rfl rfl)
    (qds_cons (qds_if (qdt_isN (qd_var (qv 4 rfl (Or.inl rfl))) (qd_non)) (qds_one (qds_ret (qd_var (qv 5 rfl (Or.inl rfl))))) (qds_nil))
    (qds_one (qds_ret (qd_ifExp (qw_pt (qdw_and (qdt_val (qd_isC T.i_NoStep B.m_isinstance (qd_var (qv 4 rfl (Or.inl rfl))))) (qdw_and1 (qdt_val (qd_isV B.m_isinstance B.m_ValueError (qd_var (qv 4 rfl (Or.inl rfl)))))))) (qd_str) (qd_str)))))))
noncomputable def d_joins_are_from_either_end : DenS := sSeq (sSet 1 (eLenV 0))
  (sSeq (sFor (iRange (aCons (eVar 1) (aNil))) (pName 2) (sFor (iRange (aCons (eVar 1) (aNil))) (pName 3) (sFor (iRange (aCons (eVar 1) (aNil))) (pName 4) (sIf (tOfB (e2 dNe (eIx (eIxV 0 (eIx (eIxV 0 (eVar 2)) (eVar 3))) (eVar 4)) (eIx (eIxV 0 (eVar 2)) (eIx (eIxV 0 (eVar 3)) (eVar 4))))) (sRet (eC (.bl false))) (sNil)))))
  (sRet (eC (.bl true))))
noncomputable def F_joins_are_from_either_end : List D → Option (D × Nat) := fnD 5 (d_joins_are_from_either_end)
theorem sc_joins_are_from_either_end : FnScope ["table", "many", "x", "y", "z"] ["table"] (defScope (top 14)) := ⟨rfl, rfl, rfl, by decide +kernel, rfl, by decide +kernel, by decide +kernel⟩
theorem C_joins_are_from_either_end (B : Bt mg)  (a : At K mg "joins_are_from_either_end" (top 14) ["table"]) : Cal P w K mg base 1 "joins_are_from_either_end" 1 (F_joins_are_from_either_end) :=
  Cal.mkQ (k := 0) a sc_joins_are_from_either_end fun f cdv A outer s H E hr =>
    qds_cons (qds_set (i := 1) sc_joins_are_from_either_end.nd rfl (Or.inl rfl) (qd_lenV B.m_len (qv 0 rfl (Or.inl rfl))))
    (qds_cons (qds_for PassesOwn.never rfl (qdi_range1 B.m_range (qda_cons (qd_var (qv 1 rfl (Or.inl rfl))) (qda_nil) se_Name)) (qdg_name (i := 2) (show 0 ≤ 2 by decide) sc_joins_are_from_either_end.nd rfl (Or.inl rfl)) (qds_one (qds_for PassesOwn.never rfl (qdi_range1 B.m_range (qda_cons (qd_var (qv 1 rfl (Or.inl rfl))) (qda_nil) se_Name)) (qdg_name (i := 3) (show 0 ≤ 3 by decide) sc_joins_are_from_either_end.nd rfl (Or.inl rfl)) (qds_one (qds_for PassesOwn.never rfl (qdi_range1 B.m_range (qda_cons (qd_var (qv 1 rfl (Or.inl rfl))) (qda_nil) se_Name)) (qdg_name (i := 4) (show 0 ≤ 4 by decide) sc_joins_are_from_either_end.nd rfl (Or.inl rfl)) (qds_one (qds_if (qdt_ne hr (qd_ix (qd_ixV (qv 0 rfl (Or.inl rfl)) (qd_ix (qd_ixV (qv 0 rfl (Or.inl rfl)) (qd_var (qv 2 rfl (Or.inl rfl)))) (qd_var (qv 3 rfl (Or.inl rfl))))) (qd_var (qv 4 rfl (Or.inl rfl)))) (qd_ix (qd_ixV (qv 0 rfl (Or.inl rfl)) (qd_var (qv 2 rfl (Or.inl rfl)))) (qd_ix (qd_ixV (qv 0 rfl (Or.inl rfl)) (qd_var (qv 3 rfl (Or.inl rfl)))) (qd_var (qv 4 rfl (Or.inl rfl)))))) (qds_one (qds_ret (qd_bl))) (qds_nil))))))))
    (qds_one (qds_ret (qd_bl))))
noncomputable def d_has_least : DenS := sRet (e2 dIn (eCall F_row_of_least 1 (aCons (eLenV 0) (aNil))) (eVar 0))
noncomputable def F_has_least : List D → Option (D × Nat) := fnD 1 (d_has_least)
theorem sc_has_least : FnScope ["table"] ["table"] (defScope (top 16)) := ⟨rfl, rfl, rfl, by decide +kernel, rfl, by decide +kernel, by decide +kernel⟩
theorem C_has_least (B : Bt mg) (c_row_of_least : Cal P w K mg base 1 "row_of_least" 1 F_row_of_least) (a : At K mg "has_least" (top 16) ["table"]) : Cal P w K mg base 2 "has_least" 1 (F_has_least) :=
  Cal.mkQ (k := 1) a sc_has_least fun f cdv A outer s H E hr =>
    qds_one (qds_ret (qd_in hr (qd_callC c_row_of_least hr (by decide) (qda_cons (qd_lenV B.m_len (qv 0 rfl (Or.inl rfl))) (qda_nil) se_Call)) (qd_var (qv 0 rfl (Or.inl rfl)))))
noncomputable def d_joins_with_itself_stay : DenS := sRet (eB bAll (aCons (eComp 1 (iRange (aCons (eLenV 0) (aNil))) (pName 1) (tYesD) (e2 dEq (eIx (eIxV 0 (eVar 1)) (eVar 1)) (eVar 1)) false) (aNil)))
noncomputable def F_joins_with_itself_stay : List D → Option (D × Nat) := fnD 1 (d_joins_with_itself_stay)
theorem sc_joins_with_itself_stay : FnScope ["table"] ["table"] (defScope (top 12)) := ⟨rfl, rfl, rfl, by decide +kernel, rfl, by decide +kernel, by decide +kernel⟩
noncomputable abbrev n0_joins_with_itself_stay : List Str := ["table", "x"]
theorem nd0_joins_with_itself_stay : (n0_joins_with_itself_stay).Nodup := by decide +kernel
theorem C_joins_with_itself_stay (B : Bt mg)  (a : At K mg "joins_with_itself_stay" (top 12) ["table"]) : Cal P w K mg base 1 "joins_with_itself_stay" 1 (F_joins_with_itself_stay) :=
  Cal.mkQ (k := 0) a sc_joins_with_itself_stay fun f cdv A outer s H E hr =>
    qds_one (qds_ret (qd_all rfl B.m_all (qda_cons (qd_comp (k := 1) (N' := n0_joins_with_itself_stay) false rfl ⟨rfl, by decide +kernel, rfl, rfl, rfl⟩ (qdi_range1 B.m_range (qda_cons (qd_lenV B.m_len (qv 0 rfl (Or.inr (Or.inl rfl)))) (qda_nil) se_Call)) (fun _ _ _ _ => qdg_name (i := 1) (show 1 ≤ 1 by decide) nd0_joins_with_itself_stay rfl (Or.inl rfl) (Or.inr rfl)) (fun _ _ _ _ => qdts_nil) (fun _ _ _ _ => qd_eq hr (qd_ix (qd_ixV (qv 0) (qd_var (qv 1))) (qd_var (qv 1))) (qd_var (qv 1)))) (qda_nil) se_ListComp)))
noncomputable def d_joins_are_either_way : DenS := sSeq (sFor (iRange (aCons (eLenV 0) (aNil))) (pName 1) (sFor (iRange (aCons (eVar 1) (aNil))) (pName 2) (sIf (tOfB (e2 dNe (eIx (eIxV 0 (eVar 1)) (eVar 2)) (eIx (eIxV 0 (eVar 2)) (eVar 1)))) (sRet (eC (.bl false))) (sNil))))
  (sRet (eC (.bl true)))
noncomputable def F_joins_are_either_way : List D → Option (D × Nat) := fnD 3 (d_joins_are_either_way)
theorem sc_joins_are_either_way : FnScope ["table", "x", "y"] ["table"] (defScope (top 13)) := ⟨rfl, rfl, rfl, by decide +kernel, rfl, by decide +kernel, by decide +kernel⟩
theorem C_joins_are_either_way (B : Bt mg)  (a : At K mg "joins_are_either_way" (top 13) ["table"]) : Cal P w K mg base 1 "joins_are_either_way" 1 (F_joins_are_either_way) :=
  Cal.mkQ (k := 0) a sc_joins_are_either_way fun f cdv A outer s H E hr =>
    qds_cons (qds_for PassesOwn.never rfl (qdi_range1 B.m_range (qda_cons (qd_lenV B.m_len (qv 0 rfl (Or.inl rfl))) (qda_nil) se_Call)) (qdg_name (i := 1) (show 0 ≤ 1 by decide) sc_joins_are_either_way.nd rfl (Or.inl rfl)) (qds_one (qds_for PassesOwn.never rfl (qdi_range1 B.m_range (qda_cons (qd_var (qv 1 rfl (Or.inl rfl))) (qda_nil) se_Name)) (qdg_name (i := 2) (show 0 ≤ 2 by decide) sc_joins_are_either_way.nd rfl (Or.inl rfl)) (qds_one (qds_if (qdt_ne hr (qd_ix (qd_ixV (qv 0 rfl (Or.inl rfl)) (qd_var (qv 1 rfl (Or.inl rfl)))) (qd_var (qv 2 rfl (Or.inl rfl)))) (qd_ix (qd_ixV (qv 0 rfl (Or.inl rfl)) (qd_var (qv 2 rfl (Or.inl rfl)))) (qd_var (qv 1 rfl (Or.inl rfl))))) (qds_one (qds_ret (qd_bl))) (qds_nil))))))
    (qds_one (qds_ret (qd_bl)))
noncomputable def d_is_row_of : DenS := sSeq (sIf (tOrD (tNotD (tOfV (eIsi .tuple (eVar 0)))) (tOfB (e2 dNe (eLenV 0) (eVar 1)))) (sRet (eC (.bl false))) (sNil))
  (sRet (eB bAll (aCons (eComp 1 (iVal (eVar 0)) (pName 3) (tYesD) (eCall F_is_number_of 2 (aCons (eVar 3) (aCons (eVar 2) (aNil)))) false) (aNil))))
noncomputable def F_is_row_of : List D → Option (D × Nat) := fnD 3 (d_is_row_of)
theorem sc_is_row_of : FnScope ["thing", "length", "many"] ["thing", "length", "many"] (defScope (top 7)) := ⟨rfl, rfl, rfl, by decide +kernel, rfl, by decide +kernel, by decide +kernel⟩
noncomputable abbrev n0_is_row_of : List Str := ["thing", "length", "many", "part"]
theorem nd0_is_row_of : (n0_is_row_of).Nodup := by decide +kernel
theorem C_is_row_of (B : Bt mg) (c_is_number_of : Cal P w K mg base 2 "is_number_of" 2 F_is_number_of) (a : At K mg "is_row_of" (top 7) ["thing", "length", "many"]) : Cal P w K mg base 3 "is_row_of" 3 (F_is_row_of) :=
  Cal.mkQ (k := 2) a sc_is_row_of fun f cdv A outer s H E hr =>
    qds_cons (qds_if (qw_pt (qdw_or (qdt_not (qdt_val (qd_isi .tuple B.m_isinstance B.m_tuple PyProof.Rows.boot_tuple (qd_var (qv 0 rfl (Or.inl rfl)))))) (qdw_or1 (qdt_ne hr (qd_lenV B.m_len (qv 0 rfl (Or.inl rfl))) (qd_var (qv 1 rfl (Or.inl rfl))))))) (qds_one (qds_ret (qd_bl))) (qds_nil))
    (qds_one (qds_ret (qd_all rfl B.m_all (qda_cons (qd_comp (k := 1) (N' := n0_is_row_of) false rfl ⟨rfl, by decide +kernel, rfl, rfl, rfl⟩ (qdi_val (qd_var (qv 0 rfl (Or.inl rfl)))) (fun _ _ _ _ => qdg_name (i := 3) (show 3 ≤ 3 by decide) nd0_is_row_of rfl (Or.inl rfl) (Or.inr rfl)) (fun _ _ _ _ => qdts_nil) (fun _ _ _ _ => qd_callC c_is_number_of hr (by decide) (qda_cons (qd_var (qv 3)) (qda_cons (qd_var (qv 2)) (qda_nil) se_Name) se_Name))) (qda_nil) se_ListComp))))
noncomputable def d_is_ladder : DenS := sSeq (sIf (tOrD (tNotD (tOfV (eIsi .tuple (eVar 0)))) (tNotD (tOfB (eCh dLe dLe (eC (.int 1)) (eLenV 0) (eC (.int 16)))))) (sRet (eC (.bl false))) (sNil))
  (sSeq (sSet 1 (eLenV 0))
  (sSeq (sIf (tNotD (tOfV (eB bAll (aCons (eComp 1 (iVal (eVar 0)) (pName 2) (tYesD) (eCall F_is_row_of 3 (aCons (eVar 2) (aCons (eVar 1) (aCons (eVar 1) (aNil))))) false) (aNil))))) (sRet (eC (.bl false))) (sNil))
  (sSeq (sIf (tOrD (tNotD (tOfV (eCall F_joins_with_itself_stay 1 (aCons (eVar 0) (aNil))))) (tNotD (tOfV (eCall F_joins_are_either_way 1 (aCons (eVar 0) (aNil)))))) (sRet (eC (.bl false))) (sNil))
  (sRet (eAnd (eCall F_joins_are_from_either_end 1 (aCons (eVar 0) (aNil))) (eCall F_has_least 1 (aCons (eVar 0) (aNil))))))))
noncomputable def F_is_ladder : List D → Option (D × Nat) := fnD 2 (d_is_ladder)
theorem sc_is_ladder : FnScope ["thing", "many"] ["thing"] (defScope (top 11)) := ⟨rfl, rfl, rfl, by decide +kernel, rfl, by decide +kernel, by decide +kernel⟩
noncomputable abbrev n0_is_ladder : List Str := ["thing", "many", "row"]
theorem nd0_is_ladder : (n0_is_ladder).Nodup := by decide +kernel
theorem C_is_ladder (B : Bt mg) (c_is_row_of : Cal P w K mg base 3 "is_row_of" 3 F_is_row_of) (c_joins_with_itself_stay : Cal P w K mg base 1 "joins_with_itself_stay" 1 F_joins_with_itself_stay) (c_joins_are_either_way : Cal P w K mg base 1 "joins_are_either_way" 1 F_joins_are_either_way) (c_joins_are_from_either_end : Cal P w K mg base 1 "joins_are_from_either_end" 1 F_joins_are_from_either_end) (c_has_least : Cal P w K mg base 2 "has_least" 1 F_has_least) (a : At K mg "is_ladder" (top 11) ["thing"]) : Cal P w K mg base 4 "is_ladder" 1 (F_is_ladder) :=
  Cal.mkQ (k := 3) a sc_is_ladder fun f cdv A outer s H E hr =>
    qds_cons (qds_if (qw_pt (qdw_or (qdt_not (qdt_val (qd_isi .tuple B.m_isinstance B.m_tuple PyProof.Rows.boot_tuple (qd_var (qv 0 rfl (Or.inl rfl)))))) (qdw_or1 (qdt_not (qdt_ch_le_le (qd_int) (qd_lenV B.m_len (qv 0 rfl (Or.inl rfl))) (qd_glob B.k_MOST_WORTHS)))))) (qds_one (qds_ret (qd_bl))) (qds_nil))
    (qds_cons (qds_set (i := 1) sc_is_ladder.nd rfl (Or.inr rfl) (qd_lenV B.m_len (qv 0 rfl (Or.inl rfl))))
    (qds_cons (qds_if (qdt_not (qdt_val (qd_all rfl B.m_all (qda_cons (qd_comp (k := 1) (N' := n0_is_ladder) false rfl ⟨rfl, by decide +kernel, rfl, rfl, rfl⟩ (qdi_val (qd_var (qv 0 rfl (Or.inl rfl)))) (fun _ _ _ _ => qdg_name (i := 2) (show 2 ≤ 2 by decide) nd0_is_ladder rfl (Or.inl rfl) (Or.inr rfl)) (fun _ _ _ _ => qdts_nil) (fun _ _ _ _ => qd_callC c_is_row_of hr (by decide) (qda_cons (qd_var (qv 2)) (qda_cons (qd_var (qv 1)) (qda_cons (qd_var (qv 1)) (qda_nil) se_Name) se_Name) se_Name))) (qda_nil) se_ListComp)))) (qds_one (qds_ret (qd_bl))) (qds_nil))
    (qds_cons (qds_if (qw_pt (qdw_or (qdt_not (qdt_val (qd_callC c_joins_with_itself_stay hr (by decide) (qda_cons (qd_var (qv 0 rfl (Or.inl rfl))) (qda_nil) se_Name)))) (qdw_or1 (qdt_not (qdt_val (qd_callC c_joins_are_either_way hr (by decide) (qda_cons (qd_var (qv 0 rfl (Or.inl rfl))) (qda_nil) se_Name))))))) (qds_one (qds_ret (qd_bl))) (qds_nil))
    (qds_one (qds_ret (qd_and (qd_callC c_joins_are_from_either_end hr (by decide) (qda_cons (qd_var (qv 0 rfl (Or.inl rfl))) (qda_nil) se_Name)) (qd_one (qd_callC c_has_least hr (by decide) (qda_cons (qd_var (qv 0 rfl (Or.inl rfl))) (qda_nil) se_Name)))))))))
noncomputable abbrev b1__law_are_ladders_told : DenS := sSeq (sSet 10 (eCat (eCat (eSl (eIxV 6 (eVar 7)) (oNone) (oSome (eVar 8))) (eTup (aCons (eVar 9) (aNil)))) (eSl (eIxV 6 (eVar 7)) (oSome (e2 dAdd (eVar 8) (eC (.int 1)))) (oNone))))
  (sIf (tOfB (e2 dIsNot (eCall F_is_ladder 1 (aCons (eCat (eCat (eSl (eVar 6) (oNone) (oSome (eVar 7))) (eTup (aCons (eVar 10) (aNil)))) (eSl (eVar 6) (oSome (e2 dAdd (eVar 7) (eC (.int 1)))) (oNone))) (aNil))) (eC (.bl false)))) (sRet (eC (.bl false))) (sNil))
noncomputable def d__law_are_ladders_told : DenS := sSeq (sSet 1 (eTup (aCons (eTup (aCons (eC (.int 0)) (aCons (eC (.int 1)) (aCons (eC (.int 2)) (aNil))))) (aCons (eTup (aCons (eC (.int 1)) (aCons (eC (.int 1)) (aCons (eC (.int 2)) (aNil))))) (aCons (eTup (aCons (eC (.int 2)) (aCons (eC (.int 2)) (aCons (eC (.int 2)) (aNil))))) (aNil))))))
  (sSeq (sSet 2 (eTup (aCons (eTup (aCons (eC (.int 0)) (aCons (eC (.int 1)) (aCons (eC (.int 2)) (aCons (eC (.int 3)) (aNil)))))) (aCons (eTup (aCons (eC (.int 1)) (aCons (eC (.int 1)) (aCons (eC (.int 3)) (aCons (eC (.int 3)) (aNil)))))) (aCons (eTup (aCons (eC (.int 2)) (aCons (eC (.int 3)) (aCons (eC (.int 2)) (aCons (eC (.int 3)) (aNil)))))) (aCons (eTup (aCons (eC (.int 3)) (aCons (eC (.int 3)) (aCons (eC (.int 3)) (aCons (eC (.int 3)) (aNil)))))) (aNil)))))))
  (sSeq (sSet 3 (eLst (aCons (eTup (aCons (eTup (aCons (eC (.int 0)) (aNil))) (aNil))) (aCons (eVar 1) (aCons (eVar 2) (aCons (eCall F_chain_ladder 1 (aCons (eC (.int 16)) (aNil))) (aCons (eTup (aCons (eTup (aCons (eC (.int 0)) (aCons (eC (.int 0)) (aNil)))) (aCons (eTup (aCons (eC (.int 0)) (aCons (eC (.int 1)) (aNil)))) (aNil)))) (aCons (eTup (aCons (eTup (aCons (eC (.int 0)) (aCons (eC (.int 0)) (aCons (eC (.int 2)) (aNil))))) (aCons (eTup (aCons (eC (.int 0)) (aCons (eC (.int 1)) (aCons (eC (.int 2)) (aNil))))) (aCons (eTup (aCons (eC (.int 2)) (aCons (eC (.int 2)) (aCons (eC (.int 2)) (aNil))))) (aNil))))) (aNil)))))))))
  (sSeq (sSet 4 (eLst (aCons (eTup (aNil)) (aCons (eTup (aCons (eTup (aCons (eC (.int 1)) (aNil))) (aNil))) (aCons (eTup (aCons (eTup (aCons (eC (.int 0)) (aCons (eC (.int 1)) (aNil)))) (aCons (eTup (aCons (eC (.int 0)) (aCons (eC (.int 1)) (aNil)))) (aNil)))) (aCons (eTup (aCons (eTup (aCons (eC (.int 0)) (aCons (eC (.int 0)) (aNil)))) (aCons (eTup (aCons (eC (.int 1)) (aCons (eC (.int 1)) (aNil)))) (aNil)))) (aCons (eTup (aCons (eTup (aCons (eC (.int 1)) (aCons (eC (.int 1)) (aNil)))) (aCons (eTup (aCons (eC (.int 1)) (aCons (eC (.int 1)) (aNil)))) (aNil)))) (aCons (eTup (aCons (eTup (aCons (eC (.int 0)) (aCons (eC (.int 1)) (aNil)))) (aCons (eTup (aCons (eC (.int 1)) (aCons (eC (.int 0)) (aNil)))) (aNil)))) (aNil)))))))))
  (sSeq (sDrop (eExt 4 (eLst (aCons (eTup (aCons (eTup (aCons (eC (.int 0)) (aCons (eC (.int 1)) (aCons (eC (.int 2)) (aNil))))) (aCons (eTup (aCons (eC (.int 1)) (aCons (eC (.int 1)) (aCons (eC (.int 2)) (aNil))))) (aNil)))) (aNil)))))
  (sSeq (sDrop (eExt 4 (eLst (aCons (eTup (aCons (eTup (aCons (eC (.int 0)) (aCons (eC (.int 1)) (aCons (eC (.int 3)) (aNil))))) (aCons (eTup (aCons (eC (.int 1)) (aCons (eC (.int 1)) (aCons (eC (.int 2)) (aNil))))) (aCons (eTup (aCons (eC (.int 2)) (aCons (eC (.int 2)) (aCons (eC (.int 2)) (aNil))))) (aNil))))) (aCons (eTup (aCons (eTup (aCons (eC (.int 0)) (aCons (eC (.int 1)) (aCons (eNeg (eC (.int 1))) (aNil))))) (aCons (eTup (aCons (eC (.int 1)) (aCons (eC (.int 1)) (aCons (eNeg (eC (.int 1))) (aNil))))) (aCons (eTup (aCons (eNeg (eC (.int 1))) (aCons (eNeg (eC (.int 1))) (aCons (eC (.int 2)) (aNil))))) (aNil))))) (aNil))))))
  (sSeq (sDrop (eExt 4 (eLst (aCons (eTup (aCons (eTup (aCons (eC (.int 0)) (aCons (eC (.int 1)) (aCons (eC (.int 2)) (aNil))))) (aCons (eTup (aCons (eC (.int 1)) (aCons (eC (.int 1)) (aCons (eC (.int 1)) (aNil))))) (aCons (eTup (aCons (eC (.int 2)) (aCons (eC (.int 2)) (aCons (eC (.int 2)) (aNil))))) (aNil))))) (aNil)))))
  (sSeq (sDrop (eExt 4 (eLst (aCons (eTup (aCons (eTup (aCons (eC (.int 0)) (aCons (eC (.int 1)) (aCons (eC (.int 2)) (aNil))))) (aCons (eTup (aCons (eC (.int 1)) (aCons (eC (.int 1)) (aCons (eC (.int 0)) (aNil))))) (aCons (eTup (aCons (eC (.int 2)) (aCons (eC (.int 0)) (aCons (eC (.int 2)) (aNil))))) (aNil))))) (aCons (eTup (aCons (eTup (aCons (eC (.int 0)) (aCons (eC (.int 2)) (aCons (eC (.int 2)) (aNil))))) (aCons (eTup (aCons (eC (.int 2)) (aCons (eC (.int 1)) (aCons (eC (.int 2)) (aNil))))) (aCons (eTup (aCons (eC (.int 2)) (aCons (eC (.int 2)) (aCons (eC (.int 2)) (aNil))))) (aNil))))) (aCons (eTup (aCons (eTup (aCons (eC (.int 0)) (aCons (eC (.int 1)) (aNil)))) (aCons (eTup (aCons (eC (.int 1)) (aCons (eC (.bl true)) (aNil)))) (aNil)))) (aNil)))))))
  (sSeq (sDrop (eExt 4 (eLst (aCons (eTup (aCons (eTup (aCons (eC (.int 0)) (aCons (eC (.int 1)) (aNil)))) (aCons (eLst (aCons (eC (.int 1)) (aCons (eC (.int 1)) (aNil)))) (aNil)))) (aNil)))))
  (sSeq (sDrop (eExt 4 (eLst (aCons (eLst (aCons (eTup (aCons (eC (.int 0)) (aNil))) (aNil))) (aCons (eC .non) (aCons (eTup (aCons (eTup (aCons (eC (.int 0)) (aCons (eC (.int 1)) (aNil)))) (aCons (eTup (aCons (eC (.int 1)) (aCons (eC .non) (aNil)))) (aNil)))) (aCons (eTup (aCons (eTup (aCons (eC (.int 0)) (aCons (eC (.int 1)) (aCons (eC (.int 2)) (aCons (eC (.int 3)) (aNil)))))) (aCons (eTup (aCons (eC (.int 1)) (aCons (eC (.int 1)) (aCons (eC (.int 3)) (aCons (eC (.int 2)) (aNil)))))) (aCons (eTup (aCons (eC (.int 2)) (aCons (eC (.int 3)) (aCons (eC (.int 2)) (aCons (eC (.int 3)) (aNil)))))) (aCons (eTup (aCons (eC (.int 3)) (aCons (eC (.int 2)) (aCons (eC (.int 3)) (aCons (eC (.int 3)) (aNil)))))) (aNil)))))) (aNil))))))))
  (sSeq (sDrop (eExt 4 (eLst (aCons (eTup (aCons (eTup (aCons (eC (.int 0)) (aNil))) (aCons (eTup (aCons (eC (.int 0)) (aNil))) (aNil)))) (aCons (eC (.int 0)) (aNil))))))
  (sSeq (sIf (tOrD (tOfB (e2 dNe (eComp 1 (iVal (eVar 3)) (pName 11) (tYesD) (eCall F_is_ladder 1 (aCons (eVar 11) (aNil))) false) (eRepL (eLst (aCons (eC (.bl true)) (aNil))) (eC (.int 6))))) (tOfB (e2 dNe (eComp 1 (iVal (eVar 4)) (pName 11) (tYesD) (eCall F_is_ladder 1 (aCons (eVar 11) (aNil))) false) (eRepL (eLst (aCons (eC (.bl false)) (aNil))) (eC (.int 20)))))) (sRet (eC (.bl false))) (sNil))
  (sSeq (sSet 5 (e2 dAdd (eC (.int 2)) (eCall F__law_pick 3 (aCons (eVar 0) (aCons (eC (.int 0)) (aCons (eC (.int 15)) (aNil)))))))
  (sSeq (sSet 6 (eCall F_chain_ladder 1 (aCons (eVar 5) (aNil))))
  (sSeq (sPar 7 8 (aCons (eCall F__law_pick 3 (aCons (eVar 0) (aCons (eC (.int 1)) (aCons (eVar 5) (aNil))))) (aCons (eCall F__law_pick 3 (aCons (eVar 0) (aCons (eC (.int 2)) (aCons (eVar 5) (aNil))))) (aNil))))
  (sSeq (sFor (iVal (eTup (aCons (eNeg (eC (.int 1))) (aCons (eVar 5) (aCons (eC .non) (aCons (eC (.bl true)) (aCons (e2 dMod (e2 dAdd (eIx (eIxV 6 (eVar 7)) (eVar 8)) (eC (.int 1))) (eVar 5)) (aNil)))))))) (pName 9) (sSeq (sSet 10 (eCat (eCat (eSl (eIxV 6 (eVar 7)) (oNone) (oSome (eVar 8))) (eTup (aCons (eVar 9) (aNil)))) (eSl (eIxV 6 (eVar 7)) (oSome (e2 dAdd (eVar 8) (eC (.int 1)))) (oNone))))
  (sIf (tOfB (e2 dIsNot (eCall F_is_ladder 1 (aCons (eCat (eCat (eSl (eVar 6) (oNone) (oSome (eVar 7))) (eTup (aCons (eVar 10) (aNil)))) (eSl (eVar 6) (oSome (e2 dAdd (eVar 7) (eC (.int 1)))) (oNone))) (aNil))) (eC (.bl false)))) (sRet (eC (.bl false))) (sNil))))
  (sRet (e2 dIs (eCall F_is_ladder 1 (aCons (eTupOf (aCons (eComp 1 (iRange (aCons (eC (.int 17)) (aNil))) (pName 11) (tYesD) (eTupOf (aCons (eComp 1 (iRange (aCons (eC (.int 17)) (aNil))) (pName 12) (tYesD) (eB bMax (aCons (eVar 11) (aCons (eVar 12) (aNil)))) false) (aNil))) false) (aNil))) (aNil))) (eC (.bl false)))))))))))))))))))
noncomputable def F__law_are_ladders_told : List D → Option (D × Nat) := fnD 11 (d__law_are_ladders_told)
theorem sc__law_are_ladders_told : FnScope ["_law_script", "_law_three", "_law_flat", "_law_good", "_law_odd", "_law_many", "_law_made", "_law_row", "_law_column", "_law_new", "_law_other"] ["_law_script"] (defScope (top 52)) := ⟨rfl, rfl, rfl, by decide +kernel, rfl, by decide +kernel, by decide +kernel⟩
noncomputable abbrev n0__law_are_ladders_told : List Str := ["_law_script", "_law_three", "_law_flat", "_law_good", "_law_odd", "_law_many", "_law_made", "_law_row", "_law_column", "_law_new", "_law_other", "_law_thing"]
theorem nd0__law_are_ladders_told : (n0__law_are_ladders_told).Nodup := by decide +kernel
noncomputable abbrev n1__law_are_ladders_told : List Str := ["_law_script", "_law_three", "_law_flat", "_law_good", "_law_odd", "_law_many", "_law_made", "_law_row", "_law_column", "_law_new", "_law_other", "_law_x", "_law_y"]
theorem nd1__law_are_ladders_told : (n1__law_are_ladders_told).Nodup := by decide +kernel
noncomputable abbrev n2__law_are_ladders_told : List Str := ["_law_script", "_law_three", "_law_flat", "_law_good", "_law_odd", "_law_many", "_law_made", "_law_row", "_law_column", "_law_new", "_law_other", "_law_x"]
theorem nd2__law_are_ladders_told : (n2__law_are_ladders_told).Nodup := by decide +kernel
theorem C__law_are_ladders_told (B : Bt mg) (c_chain_ladder : Cal P w K mg base 3 "chain_ladder" 1 F_chain_ladder) (c_is_ladder : Cal P w K mg base 4 "is_ladder" 1 F_is_ladder) (c__law_pick : Cal P w K mg base 2 "_law_pick" 3 F__law_pick) (a : At K mg "_law_are_ladders_told" (top 52) ["_law_script"]) : Cal P w K mg base 5 "_law_are_ladders_told" 1 (F__law_are_ladders_told) :=
  Cal.mkQ (k := 4) a sc__law_are_ladders_told fun f cdv A outer s H E hr =>
    qds_cons (qds_set (i := 1) sc__law_are_ladders_told.nd rfl (Or.inl rfl) (qd_tup (qda_cons (qd_tup (qda_cons (qd_int) (qda_cons (qd_int) (qda_cons (qd_int) (qda_nil) se_Constant) se_Constant) se_Constant)) (qda_cons (qd_tup (qda_cons (qd_int) (qda_cons (qd_int) (qda_cons (qd_int) (qda_nil) se_Constant) se_Constant) se_Constant)) (qda_cons (qd_tup (qda_cons (qd_int) (qda_cons (qd_int) (qda_cons (qd_int) (qda_nil) se_Constant) se_Constant) se_Constant)) (qda_nil) se_Tuple) se_Tuple) se_Tuple)))
    (qds_cons (qds_set (i := 2) sc__law_are_ladders_told.nd rfl (Or.inl rfl) (qd_tup (qda_cons (qd_tup (qda_cons (qd_int) (qda_cons (qd_int) (qda_cons (qd_int) (qda_cons (qd_int) (qda_nil) se_Constant) se_Constant) se_Constant) se_Constant)) (qda_cons (qd_tup (qda_cons (qd_int) (qda_cons (qd_int) (qda_cons (qd_int) (qda_cons (qd_int) (qda_nil) se_Constant) se_Constant) se_Constant) se_Constant)) (qda_cons (qd_tup (qda_cons (qd_int) (qda_cons (qd_int) (qda_cons (qd_int) (qda_cons (qd_int) (qda_nil) se_Constant) se_Constant) se_Constant) se_Constant)) (qda_cons (qd_tup (qda_cons (qd_int) (qda_cons (qd_int) (qda_cons (qd_int) (qda_cons (qd_int) (qda_nil) se_Constant) se_Constant) se_Constant) se_Constant)) (qda_nil) se_Tuple) se_Tuple) se_Tuple) se_Tuple)))
    (qds_cons (qds_set (i := 3) sc__law_are_ladders_told.nd rfl (Or.inl rfl) (qd_lst (qda_cons (qd_tup (qda_cons (qd_tup (qda_cons (qd_int) (qda_nil) se_Constant)) (qda_nil) se_Tuple)) (qda_cons (qd_var (qv 1 rfl (Or.inl rfl))) (qda_cons (qd_var (qv 2 rfl (Or.inl rfl))) (qda_cons (qd_callC c_chain_ladder hr (by decide) (qda_cons (qd_int) (qda_nil) se_Constant)) (qda_cons (qd_tup (qda_cons (qd_tup (qda_cons (qd_int) (qda_cons (qd_int) (qda_nil) se_Constant) se_Constant)) (qda_cons (qd_tup (qda_cons (qd_int) (qda_cons (qd_int) (qda_nil) se_Constant) se_Constant)) (qda_nil) se_Tuple) se_Tuple)) (qda_cons (qd_tup (qda_cons (qd_tup (qda_cons (qd_int) (qda_cons (qd_int) (qda_cons (qd_int) (qda_nil) se_Constant) se_Constant) se_Constant)) (qda_cons (qd_tup (qda_cons (qd_int) (qda_cons (qd_int) (qda_cons (qd_int) (qda_nil) se_Constant) se_Constant) se_Constant)) (qda_cons (qd_tup (qda_cons (qd_int) (qda_cons (qd_int) (qda_cons (qd_int) (qda_nil) se_Constant) se_Constant) se_Constant)) (qda_nil) se_Tuple) se_Tuple) se_Tuple)) (qda_nil) se_Tuple) se_Tuple) se_Call) se_Name) se_Name) se_Tuple)))
    (qds_cons (qds_set (i := 4) sc__law_are_ladders_told.nd rfl (Or.inl rfl) (qd_lst (qda_cons (qd_tup (qda_nil)) (qda_cons (qd_tup (qda_cons (qd_tup (qda_cons (qd_int) (qda_nil) se_Constant)) (qda_nil) se_Tuple)) (qda_cons (qd_tup (qda_cons (qd_tup (qda_cons (qd_int) (qda_cons (qd_int) (qda_nil) se_Constant) se_Constant)) (qda_cons (qd_tup (qda_cons (qd_int) (qda_cons (qd_int) (qda_nil) se_Constant) se_Constant)) (qda_nil) se_Tuple) se_Tuple)) (qda_cons (qd_tup (qda_cons (qd_tup (qda_cons (qd_int) (qda_cons (qd_int) (qda_nil) se_Constant) se_Constant)) (qda_cons (qd_tup (qda_cons (qd_int) (qda_cons (qd_int) (qda_nil) se_Constant) se_Constant)) (qda_nil) se_Tuple) se_Tuple)) (qda_cons (qd_tup (qda_cons (qd_tup (qda_cons (qd_int) (qda_cons (qd_int) (qda_nil) se_Constant) se_Constant)) (qda_cons (qd_tup (qda_cons (qd_int) (qda_cons (qd_int) (qda_nil) se_Constant) se_Constant)) (qda_nil) se_Tuple) se_Tuple)) (qda_cons (qd_tup (qda_cons (qd_tup (qda_cons (qd_int) (qda_cons (qd_int) (qda_nil) se_Constant) se_Constant)) (qda_cons (qd_tup (qda_cons (qd_int) (qda_cons (qd_int) (qda_nil) se_Constant) se_Constant)) (qda_nil) se_Tuple) se_Tuple)) (qda_nil) se_Tuple) se_Tuple) se_Tuple) se_Tuple) se_Tuple) se_Tuple)))
    (qds_cons (qds_expr (qd_extend (qv 4 rfl (Or.inl rfl)) (qd_lst (qda_cons (qd_tup (qda_cons (qd_tup (qda_cons (qd_int) (qda_cons (qd_int) (qda_cons (qd_int) (qda_nil) se_Constant) se_Constant) se_Constant)) (qda_cons (qd_tup (qda_cons (qd_int) (qda_cons (qd_int) (qda_cons (qd_int) (qda_nil) se_Constant) se_Constant) se_Constant)) (qda_nil) se_Tuple) se_Tuple)) (qda_nil) se_Tuple))))
    (qds_cons (qds_expr (qd_extend (qv 4 rfl (Or.inl rfl)) (qd_lst (qda_cons (qd_tup (qda_cons (qd_tup (qda_cons (qd_int) (qda_cons (qd_int) (qda_cons (qd_int) (qda_nil) se_Constant) se_Constant) se_Constant)) (qda_cons (qd_tup (qda_cons (qd_int) (qda_cons (qd_int) (qda_cons (qd_int) (qda_nil) se_Constant) se_Constant) se_Constant)) (qda_cons (qd_tup (qda_cons (qd_int) (qda_cons (qd_int) (qda_cons (qd_int) (qda_nil) se_Constant) se_Constant) se_Constant)) (qda_nil) se_Tuple) se_Tuple) se_Tuple)) (qda_cons (qd_tup (qda_cons (qd_tup (qda_cons (qd_int) (qda_cons (qd_int) (qda_cons (qd_neg (qd_int)) (qda_nil) se_UnaryOp) se_Constant) se_Constant)) (qda_cons (qd_tup (qda_cons (qd_int) (qda_cons (qd_int) (qda_cons (qd_neg (qd_int)) (qda_nil) se_UnaryOp) se_Constant) se_Constant)) (qda_cons (qd_tup (qda_cons (qd_neg (qd_int)) (qda_cons (qd_neg (qd_int)) (qda_cons (qd_int) (qda_nil) se_Constant) se_UnaryOp) se_UnaryOp)) (qda_nil) se_Tuple) se_Tuple) se_Tuple)) (qda_nil) se_Tuple) se_Tuple))))
    (qds_cons (qds_expr (qd_extend (qv 4 rfl (Or.inl rfl)) (qd_lst (qda_cons (qd_tup (qda_cons (qd_tup (qda_cons (qd_int) (qda_cons (qd_int) (qda_cons (qd_int) (qda_nil) se_Constant) se_Constant) se_Constant)) (qda_cons (qd_tup (qda_cons (qd_int) (qda_cons (qd_int) (qda_cons (qd_int) (qda_nil) se_Constant) se_Constant) se_Constant)) (qda_cons (qd_tup (qda_cons (qd_int) (qda_cons (qd_int) (qda_cons (qd_int) (qda_nil) se_Constant) se_Constant) se_Constant)) (qda_nil) se_Tuple) se_Tuple) se_Tuple)) (qda_nil) se_Tuple))))
    (qds_cons (qds_expr (qd_extend (qv 4 rfl (Or.inl rfl)) (qd_lst (qda_cons (qd_tup (qda_cons (qd_tup (qda_cons (qd_int) (qda_cons (qd_int) (qda_cons (qd_int) (qda_nil) se_Constant) se_Constant) se_Constant)) (qda_cons (qd_tup (qda_cons (qd_int) (qda_cons (qd_int) (qda_cons (qd_int) (qda_nil) se_Constant) se_Constant) se_Constant)) (qda_cons (qd_tup (qda_cons (qd_int) (qda_cons (qd_int) (qda_cons (qd_int) (qda_nil) se_Constant) se_Constant) se_Constant)) (qda_nil) se_Tuple) se_Tuple) se_Tuple)) (qda_cons (qd_tup (qda_cons (qd_tup (qda_cons (qd_int) (qda_cons (qd_int) (qda_cons (qd_int) (qda_nil) se_Constant) se_Constant) se_Constant)) (qda_cons (qd_tup (qda_cons (qd_int) (qda_cons (qd_int) (qda_cons (qd_int) (qda_nil) se_Constant) se_Constant) se_Constant)) (qda_cons (qd_tup (qda_cons (qd_int) (qda_cons (qd_int) (qda_cons (qd_int) (qda_nil) se_Constant) se_Constant) se_Constant)) (qda_nil) se_Tuple) se_Tuple) se_Tuple)) (qda_cons (qd_tup (qda_cons (qd_tup (qda_cons (qd_int) (qda_cons (qd_int) (qda_nil) se_Constant) se_Constant)) (qda_cons (qd_tup (qda_cons (qd_int) (qda_cons (qd_bl) (qda_nil) se_Constant) se_Constant)) (qda_nil) se_Tuple) se_Tuple)) (qda_nil) se_Tuple) se_Tuple) se_Tuple))))
    (qds_cons (qds_expr (qd_extend (qv 4 rfl (Or.inl rfl)) (qd_lst (qda_cons (qd_tup (qda_cons (qd_tup (qda_cons (qd_int) (qda_cons (qd_int) (qda_nil) se_Constant) se_Constant)) (qda_cons (qd_lst (qda_cons (qd_int) (qda_cons (qd_int) (qda_nil) se_Constant) se_Constant)) (qda_nil) se_List) se_Tuple)) (qda_nil) se_Tuple))))
    (qds_cons (qds_expr (qd_extend (qv 4 rfl (Or.inl rfl)) (qd_lst (qda_cons (qd_lst (qda_cons (qd_tup (qda_cons (qd_int) (qda_nil) se_Constant)) (qda_nil) se_Tuple)) (qda_cons (qd_non) (qda_cons (qd_tup (qda_cons (qd_tup (qda_cons (qd_int) (qda_cons (qd_int) (qda_nil) se_Constant) se_Constant)) (qda_cons (qd_tup (qda_cons (qd_int) (qda_cons (qd_non) (qda_nil) se_Constant) se_Constant)) (qda_nil) se_Tuple) se_Tuple)) (qda_cons (qd_tup (qda_cons (qd_tup (qda_cons (qd_int) (qda_cons (qd_int) (qda_cons (qd_int) (qda_cons (qd_int) (qda_nil) se_Constant) se_Constant) se_Constant) se_Constant)) (qda_cons (qd_tup (qda_cons (qd_int) (qda_cons (qd_int) (qda_cons (qd_int) (qda_cons (qd_int) (qda_nil) se_Constant) se_Constant) se_Constant) se_Constant)) (qda_cons (qd_tup (qda_cons (qd_int) (qda_cons (qd_int) (qda_cons (qd_int) (qda_cons (qd_int) (qda_nil) se_Constant) se_Constant) se_Constant) se_Constant)) (qda_cons (qd_tup (qda_cons (qd_int) (qda_cons (qd_int) (qda_cons (qd_int) (qda_cons (qd_int) (qda_nil) se_Constant) se_Constant) se_Constant) se_Constant)) (qda_nil) se_Tuple) se_Tuple) se_Tuple) se_Tuple)) (qda_nil) se_Tuple) se_Tuple) se_Constant) se_List))))
    (qds_cons (qds_expr (qd_extend (qv 4 rfl (Or.inl rfl)) (qd_lst (qda_cons (qd_tup (qda_cons (qd_tup (qda_cons (qd_int) (qda_nil) se_Constant)) (qda_cons (qd_tup (qda_cons (qd_int) (qda_nil) se_Constant)) (qda_nil) se_Tuple) se_Tuple)) (qda_cons (qd_int) (qda_nil) se_Constant) se_Tuple))))
    (qds_cons (qds_if (qw_pt (qdw_or (qdt_ne hr (qd_comp (k := 1) (N' := n0__law_are_ladders_told) false rfl ⟨rfl, by decide +kernel, rfl, rfl, rfl⟩ (qdi_val (qd_var (qv 3 rfl (Or.inl rfl)))) (fun _ _ _ _ => qdg_name (i := 11) (show 11 ≤ 11 by decide) nd0__law_are_ladders_told rfl (Or.inl rfl) (Or.inr rfl)) (fun _ _ _ _ => qdts_nil) (fun _ _ _ _ => qd_callC c_is_ladder hr (by decide) (qda_cons (qd_var (qv 11)) (qda_nil) se_Name))) (qd_repL (qd_lst (qda_cons (qd_bl) (qda_nil) se_Constant)) (qd_int))) (qdw_or1 (qdt_ne hr (qd_comp (k := 1) (N' := n0__law_are_ladders_told) false rfl ⟨rfl, by decide +kernel, rfl, rfl, rfl⟩ (qdi_val (qd_var (qv 4 rfl (Or.inl rfl)))) (fun _ _ _ _ => qdg_name (i := 11) (show 11 ≤ 11 by decide) nd0__law_are_ladders_told rfl (Or.inl rfl) (Or.inr rfl)) (fun _ _ _ _ => qdts_nil) (fun _ _ _ _ => qd_callC c_is_ladder hr (by decide) (qda_cons (qd_var (qv 11)) (qda_nil) se_Name))) (qd_repL (qd_lst (qda_cons (qd_bl) (qda_nil) se_Constant)) (qd_int)))))) (qds_one (qds_ret (qd_bl))) (qds_nil))
    (qds_cons (qds_set (i := 5) sc__law_are_ladders_told.nd rfl (Or.inl rfl) (qd_add (qd_int) (qd_callC c__law_pick hr (by decide) (qda_cons (qd_var (qv 0 rfl (Or.inl rfl))) (qda_cons (qd_int) (qda_cons (qd_int) (qda_nil) se_Constant) se_Constant) se_Name))))
    (qds_cons (qds_set (i := 6) sc__law_are_ladders_told.nd rfl (Or.inl rfl) (qd_callC c_chain_ladder hr (by decide) (qda_cons (qd_var (qv 5 rfl (Or.inl rfl))) (qda_nil) se_Name)))
    (qds_cons (qds_par (i := 7) (j := 8) rfl sc__law_are_ladders_told.nd rfl rfl (by decide) (qda_cons (qd_callC c__law_pick hr (by decide) (qda_cons (qd_var (qv 0 rfl (Or.inl rfl))) (qda_cons (qd_int) (qda_cons (qd_var (qv 5 rfl (Or.inl rfl))) (qda_nil) se_Name) se_Constant) se_Name)) (qda_cons (qd_callC c__law_pick hr (by decide) (qda_cons (qd_var (qv 0 rfl (Or.inl rfl))) (qda_cons (qd_int) (qda_cons (qd_var (qv 5 rfl (Or.inl rfl))) (qda_nil) se_Name) se_Constant) se_Name)) (qda_nil) se_Call) se_Call))
    (qds_cons (qds_for PassesOwn.never rfl (qdi_val (qd_tup (qda_cons (qd_neg (qd_int)) (qda_cons (qd_var (qv 5 rfl (Or.inl rfl))) (qda_cons (qd_non) (qda_cons (qd_bl) (qda_cons (qd_mod (qd_add (qd_ix (qd_ixV (qv 6 rfl (Or.inl rfl)) (qd_var (qv 7 rfl (Or.inl rfl)))) (qd_var (qv 8 rfl (Or.inl rfl)))) (qd_int)) (qd_var (qv 5 rfl (Or.inl rfl)))) (qda_nil) se_BinOp) se_Constant) se_Constant) se_Name) se_UnaryOp))) (qdg_name (i := 9) (show 0 ≤ 9 by decide) sc__law_are_ladders_told.nd rfl (Or.inl rfl)) (qds_cons (qds_set (i := 10) sc__law_are_ladders_told.nd rfl (Or.inl rfl) (qd_cat (qd_cat (qd_sl (qd_ixV (qv 6 rfl (Or.inl rfl)) (qd_var (qv 7 rfl (Or.inl rfl)))) (qdo_none) (qdo_some (qd_var (qv 8 rfl (Or.inl rfl))))) (qd_tup (qda_cons (qd_var (qv 9 rfl (Or.inl rfl))) (qda_nil) se_Name))) (qd_sl (qd_ixV (qv 6 rfl (Or.inl rfl)) (qd_var (qv 7 rfl (Or.inl rfl)))) (qdo_some (qd_add (qd_var (qv 8 rfl (Or.inl rfl))) (qd_int))) (qdo_none))))
    (qds_one (qds_if (qdt_isnot (qd_callC c_is_ladder hr (by decide) (qda_cons (qd_cat (qd_cat (qd_sl (qd_var (qv 6 rfl (Or.inl rfl))) (qdo_none) (qdo_some (qd_var (qv 7 rfl (Or.inl rfl))))) (qd_tup (qda_cons (qd_var (qv 10 rfl (Or.inl rfl))) (qda_nil) se_Name))) (qd_sl (qd_var (qv 6 rfl (Or.inl rfl))) (qdo_some (qd_add (qd_var (qv 7 rfl (Or.inl rfl))) (qd_int))) (qdo_none))) (qda_nil) se_BinOp)) (qd_bl)) (qds_one (qds_ret (qd_bl))) (qds_nil)))))
    (qds_one (qds_ret (qd_is (qd_callC c_is_ladder hr (by decide) (qda_cons (qd_tupOf B.m_tuple PyProof.Rows.boot_tuple (qda_cons (qd_comp (k := 1) (N' := n2__law_are_ladders_told) false rfl ⟨rfl, by decide +kernel, rfl, rfl, rfl⟩ (qdi_range1 B.m_range (qda_cons (qd_int) (qda_nil) se_Constant)) (fun _ _ _ _ => qdg_name (i := 11) (show 11 ≤ 11 by decide) nd2__law_are_ladders_told rfl (Or.inr rfl) (Or.inl rfl)) (fun _ _ _ _ => qdts_nil) (fun _ _ _ _ => qd_tupOf B.m_tuple PyProof.Rows.boot_tuple (qda_cons (qd_comp (k := 1) (N' := n1__law_are_ladders_told) false rfl ⟨rfl, by decide +kernel, rfl, rfl, rfl⟩ (qdi_range1 B.m_range (qda_cons (qd_int) (qda_nil) se_Constant)) (fun _ _ _ _ => qdg_name (i := 12) (show 12 ≤ 12 by decide) nd1__law_are_ladders_told rfl (Or.inl rfl) (Or.inr rfl)) (fun _ _ _ _ => qdts_nil) (fun _ _ _ _ => qd_max2 rfl B.m_max PyProof.Rows.boot_max (qda_cons (qd_var (qv 11)) (qda_cons (qd_var (qv 12)) (qda_nil) se_Name) se_Name))) (qda_nil) se_ListComp))) (qda_nil) se_ListComp)) (qda_nil) se_Call)) (qd_bl)))))))))))))))))))
noncomputable def d_is_many_places : DenS := sRet (eAnd (eCall F_is_whole 1 (aCons (eVar 0) (aNil))) (eCh dLe dLe (eC (.int 1)) (eVar 0) (eC (.int 8))))
noncomputable def F_is_many_places : List D → Option (D × Nat) := fnD 1 (d_is_many_places)
theorem sc_is_many_places : FnScope ["thing"] ["thing"] (defScope (top 31)) := ⟨rfl, rfl, rfl, by decide +kernel, rfl, by decide +kernel, by decide +kernel⟩
theorem C_is_many_places (B : Bt mg) (c_is_whole : Cal P w K mg base 1 "is_whole" 1 F_is_whole) (a : At K mg "is_many_places" (top 31) ["thing"]) : Cal P w K mg base 2 "is_many_places" 1 (F_is_many_places) :=
  Cal.mkQ (k := 1) a sc_is_many_places fun f cdv A outer s H E hr =>
    qds_one (qds_ret (qd_and (qd_callC c_is_whole hr (by decide) (qda_cons (qd_var (qv 0 rfl (Or.inl rfl))) (qda_nil) se_Name)) (qd_one (qd_ch_le_le (qd_int) (qd_var (qv 0 rfl (Or.inl rfl))) (qd_glob B.k_MOST_PLACES)))))
noncomputable def d_goes_between : DenS := sSeq (sIf (tOrD (tNotD (tOfV (eIsi .tuple (eVar 1)))) (tOfB (e2 dNe (eLenV 1) (eC (.int 3))))) (sRet (eC (.bl false))) (sNil))
  (sRet (eAnd (eCall F_is_number_of 2 (aCons (eIxV 1 (eC (.int 0))) (aCons (eVar 0) (aNil)))) (eCall F_is_number_of 2 (aCons (eIxV 1 (eC (.int 1))) (aCons (eVar 0) (aNil))))))
noncomputable def F_goes_between : List D → Option (D × Nat) := fnD 2 (d_goes_between)
theorem sc_goes_between : FnScope ["places", "thing"] ["places", "thing"] (defScope (top 34)) := ⟨rfl, rfl, rfl, by decide +kernel, rfl, by decide +kernel, by decide +kernel⟩
theorem C_goes_between (B : Bt mg) (c_is_number_of : Cal P w K mg base 2 "is_number_of" 2 F_is_number_of) (a : At K mg "goes_between" (top 34) ["places", "thing"]) : Cal P w K mg base 3 "goes_between" 2 (F_goes_between) :=
  Cal.mkQ (k := 2) a sc_goes_between fun f cdv A outer s H E hr =>
    qds_cons (qds_if (qw_pt (qdw_or (qdt_not (qdt_val (qd_isi .tuple B.m_isinstance B.m_tuple PyProof.Rows.boot_tuple (qd_var (qv 1 rfl (Or.inl rfl)))))) (qdw_or1 (qdt_ne hr (qd_lenV B.m_len (qv 1 rfl (Or.inl rfl))) (qd_int))))) (qds_one (qds_ret (qd_bl))) (qds_nil))
    (qds_one (qds_ret (qd_and (qd_callC c_is_number_of hr (by decide) (qda_cons (qd_ixV (qv 1 rfl (Or.inl rfl)) (qd_int)) (qda_cons (qd_var (qv 0 rfl (Or.inl rfl))) (qda_nil) se_Name) se_Subscript)) (qd_one (qd_callC c_is_number_of hr (by decide) (qda_cons (qd_ixV (qv 1 rfl (Or.inl rfl)) (qd_int)) (qda_cons (qd_var (qv 0 rfl (Or.inl rfl))) (qda_nil) se_Name) se_Subscript))))))
noncomputable def d_is_rule : DenS := sRet (eCall F_is_row_of 3 (aCons (eVar 1) (aCons (eLenV 0) (aCons (eLenV 0) (aNil)))))
noncomputable def F_is_rule : List D → Option (D × Nat) := fnD 2 (d_is_rule)
theorem sc_is_rule : FnScope ["ladder", "thing"] ["ladder", "thing"] (defScope (top 23)) := ⟨rfl, rfl, rfl, by decide +kernel, rfl, by decide +kernel, by decide +kernel⟩
theorem C_is_rule (B : Bt mg) (c_is_row_of : Cal P w K mg base 3 "is_row_of" 3 F_is_row_of) (a : At K mg "is_rule" (top 23) ["ladder", "thing"]) : Cal P w K mg base 4 "is_rule" 2 (F_is_rule) :=
  Cal.mkQ (k := 3) a sc_is_rule fun f cdv A outer s H E hr =>
    qds_one (qds_ret (qd_callC c_is_row_of hr (by decide) (qda_cons (qd_var (qv 1 rfl (Or.inl rfl))) (qda_cons (qd_lenV B.m_len (qv 0 rfl (Or.inl rfl))) (qda_cons (qd_lenV B.m_len (qv 0 rfl (Or.inl rfl))) (qda_nil) se_Call) se_Call) se_Name)))
noncomputable def d_is_below : DenS := sRet (e2 dEq (eIx (eIxV 0 (eVar 1)) (eVar 2)) (eVar 2))
noncomputable def F_is_below : List D → Option (D × Nat) := fnD 3 (d_is_below)
theorem sc_is_below : FnScope ["ladder", "one", "other"] ["ladder", "one", "other"] (defScope (top 18)) := ⟨rfl, rfl, rfl, by decide +kernel, rfl, by decide +kernel, by decide +kernel⟩
theorem C_is_below (B : Bt mg)  (a : At K mg "is_below" (top 18) ["ladder", "one", "other"]) : Cal P w K mg base 1 "is_below" 3 (F_is_below) :=
  Cal.mkQ (k := 0) a sc_is_below fun f cdv A outer s H E hr =>
    qds_one (qds_ret (qd_eq hr (qd_ix (qd_ixV (qv 0 rfl (Or.inl rfl)) (qd_var (qv 1 rfl (Or.inl rfl)))) (qd_var (qv 2 rfl (Or.inl rfl)))) (qd_var (qv 2 rfl (Or.inl rfl)))))
noncomputable def d_below : DenS := sRet (eComp 1 (iRange (aCons (eLenV 0) (aNil))) (pName 2) (tOfV (eCall F_is_below 3 (aCons (eVar 0) (aCons (eVar 2) (aCons (eVar 1) (aNil)))))) (eVar 2) false)
noncomputable def F_below : List D → Option (D × Nat) := fnD 2 (d_below)
theorem sc_below : FnScope ["ladder", "worth"] ["ladder", "worth"] (defScope (top 19)) := ⟨rfl, rfl, rfl, by decide +kernel, rfl, by decide +kernel, by decide +kernel⟩
noncomputable abbrev n0_below : List Str := ["ladder", "worth", "x"]
theorem nd0_below : (n0_below).Nodup := by decide +kernel
theorem C_below (B : Bt mg) (c_is_below : Cal P w K mg base 1 "is_below" 3 F_is_below) (a : At K mg "below" (top 19) ["ladder", "worth"]) : Cal P w K mg base 2 "below" 2 (F_below) :=
  Cal.mkQ (k := 1) a sc_below fun f cdv A outer s H E hr =>
    qds_one (qds_ret (qd_comp (k := 1) (N' := n0_below) false rfl ⟨rfl, by decide +kernel, rfl, rfl, rfl⟩ (qdi_range1 B.m_range (qda_cons (qd_lenV B.m_len (qv 0 rfl (Or.inr (Or.inl rfl)))) (qda_nil) se_Call)) (fun _ _ _ _ => qdg_name (i := 2) (show 2 ≤ 2 by decide) nd0_below rfl (Or.inl rfl) (Or.inr rfl)) (fun _ _ _ _ => qdts_one (qdt_val (qd_callC c_is_below hr (by decide) (qda_cons (qd_var (qv 0)) (qda_cons (qd_var (qv 2)) (qda_cons (qd_var (qv 1)) (qda_nil) se_Name) se_Name) se_Name)))) (fun _ _ _ _ => qd_var (qv 2))))
noncomputable def d_rises : DenS := sSeq (sFor (iRange (aCons (eLenV 0) (aNil))) (pName 2) (sFor (iVal (eCall F_below 2 (aCons (eVar 0) (aCons (eVar 2) (aNil))))) (pName 3) (sIf (tNotD (tOfV (eCall F_is_below 3 (aCons (eVar 0) (aCons (eIxV 1 (eVar 3)) (aCons (eIxV 1 (eVar 2)) (aNil))))))) (sRet (eC (.bl false))) (sNil))))
  (sRet (eC (.bl true)))
noncomputable def F_rises : List D → Option (D × Nat) := fnD 4 (d_rises)
theorem sc_rises : FnScope ["ladder", "rule", "y", "x"] ["ladder", "rule"] (defScope (top 24)) := ⟨rfl, rfl, rfl, by decide +kernel, rfl, by decide +kernel, by decide +kernel⟩
theorem C_rises (B : Bt mg) (c_below : Cal P w K mg base 2 "below" 2 F_below) (c_is_below : Cal P w K mg base 1 "is_below" 3 F_is_below) (a : At K mg "rises" (top 24) ["ladder", "rule"]) : Cal P w K mg base 3 "rises" 2 (F_rises) :=
  Cal.mkQ (k := 2) a sc_rises fun f cdv A outer s H E hr =>
    qds_cons (qds_for PassesOwn.never rfl (qdi_range1 B.m_range (qda_cons (qd_lenV B.m_len (qv 0 rfl (Or.inl rfl))) (qda_nil) se_Call)) (qdg_name (i := 2) (show 0 ≤ 2 by decide) sc_rises.nd rfl (Or.inl rfl)) (qds_one (qds_for PassesOwn.never rfl (qdi_val (qd_callC c_below hr (by decide) (qda_cons (qd_var (qv 0 rfl (Or.inl rfl))) (qda_cons (qd_var (qv 2 rfl (Or.inl rfl))) (qda_nil) se_Name) se_Name))) (qdg_name (i := 3) (show 0 ≤ 3 by decide) sc_rises.nd rfl (Or.inl rfl)) (qds_one (qds_if (qdt_not (qdt_val (qd_callC c_is_below hr (by decide) (qda_cons (qd_var (qv 0 rfl (Or.inl rfl))) (qda_cons (qd_ixV (qv 1 rfl (Or.inl rfl)) (qd_var (qv 3 rfl (Or.inl rfl)))) (qda_cons (qd_ixV (qv 1 rfl (Or.inl rfl)) (qd_var (qv 2 rfl (Or.inl rfl)))) (qda_nil) se_Subscript) se_Subscript) se_Name)))) (qds_one (qds_ret (qd_bl))) (qds_nil))))))
    (qds_one (qds_ret (qd_bl)))
noncomputable def d_is_rising_rule : DenS := sRet (eAnd (eCall F_is_rule 2 (aCons (eVar 0) (aCons (eVar 1) (aNil)))) (eCall F_rises 2 (aCons (eVar 0) (aCons (eVar 1) (aNil)))))
noncomputable def F_is_rising_rule : List D → Option (D × Nat) := fnD 2 (d_is_rising_rule)
theorem sc_is_rising_rule : FnScope ["ladder", "thing"] ["ladder", "thing"] (defScope (top 25)) := ⟨rfl, rfl, rfl, by decide +kernel, rfl, by decide +kernel, by decide +kernel⟩
theorem C_is_rising_rule (B : Bt mg) (c_is_rule : Cal P w K mg base 4 "is_rule" 2 F_is_rule) (c_rises : Cal P w K mg base 3 "rises" 2 F_rises) (a : At K mg "is_rising_rule" (top 25) ["ladder", "thing"]) : Cal P w K mg base 5 "is_rising_rule" 2 (F_is_rising_rule) :=
  Cal.mkQ (k := 4) a sc_is_rising_rule fun f cdv A outer s H E hr =>
    qds_one (qds_ret (qd_and (qd_callC c_is_rule hr (by decide) (qda_cons (qd_var (qv 0 rfl (Or.inl rfl))) (qda_cons (qd_var (qv 1 rfl (Or.inl rfl))) (qda_nil) se_Name) se_Name)) (qd_one (qd_callC c_rises hr (by decide) (qda_cons (qd_var (qv 0 rfl (Or.inl rfl))) (qda_cons (qd_var (qv 1 rfl (Or.inl rfl))) (qda_nil) se_Name) se_Name)))))
noncomputable def d_is_way : DenS := sRet (eAnd (eCall F_goes_between 2 (aCons (eVar 1) (aCons (eVar 2) (aNil)))) (eCall F_is_rising_rule 2 (aCons (eVar 0) (aCons (eIxV 2 (eC (.int 2))) (aNil)))))
noncomputable def F_is_way : List D → Option (D × Nat) := fnD 3 (d_is_way)
theorem sc_is_way : FnScope ["ladder", "places", "thing"] ["ladder", "places", "thing"] (defScope (top 33)) := ⟨rfl, rfl, rfl, by decide +kernel, rfl, by decide +kernel, by decide +kernel⟩
theorem C_is_way (B : Bt mg) (c_goes_between : Cal P w K mg base 3 "goes_between" 2 F_goes_between) (c_is_rising_rule : Cal P w K mg base 5 "is_rising_rule" 2 F_is_rising_rule) (a : At K mg "is_way" (top 33) ["ladder", "places", "thing"]) : Cal P w K mg base 6 "is_way" 3 (F_is_way) :=
  Cal.mkQ (k := 5) a sc_is_way fun f cdv A outer s H E hr =>
    qds_one (qds_ret (qd_and (qd_callC c_goes_between hr (by decide) (qda_cons (qd_var (qv 1 rfl (Or.inl rfl))) (qda_cons (qd_var (qv 2 rfl (Or.inl rfl))) (qda_nil) se_Name) se_Name)) (qd_one (qd_callC c_is_rising_rule hr (by decide) (qda_cons (qd_var (qv 0 rfl (Or.inl rfl))) (qda_cons (qd_ixV (qv 2 rfl (Or.inl rfl)) (qd_int)) (qda_nil) se_Subscript) se_Name)))))
noncomputable def d_are_ways : DenS := sSeq (sIf (tOrD (tNotD (tOfV (eIsi .tuple (eVar 2)))) (tOfB (e2 dGt (eLenV 2) (eC (.int 60))))) (sRet (eC (.bl false))) (sNil))
  (sRet (eB bAll (aCons (eComp 1 (iVal (eVar 2)) (pName 3) (tYesD) (eCall F_is_way 3 (aCons (eVar 0) (aCons (eVar 1) (aCons (eVar 3) (aNil))))) false) (aNil))))
noncomputable def F_are_ways : List D → Option (D × Nat) := fnD 3 (d_are_ways)
theorem sc_are_ways : FnScope ["ladder", "places", "thing"] ["ladder", "places", "thing"] (defScope (top 32)) := ⟨rfl, rfl, rfl, by decide +kernel, rfl, by decide +kernel, by decide +kernel⟩
noncomputable abbrev n0_are_ways : List Str := ["ladder", "places", "thing", "way"]
theorem nd0_are_ways : (n0_are_ways).Nodup := by decide +kernel
theorem C_are_ways (B : Bt mg) (c_is_way : Cal P w K mg base 6 "is_way" 3 F_is_way) (a : At K mg "are_ways" (top 32) ["ladder", "places", "thing"]) : Cal P w K mg base 7 "are_ways" 3 (F_are_ways) :=
  Cal.mkQ (k := 6) a sc_are_ways fun f cdv A outer s H E hr =>
    qds_cons (qds_if (qw_pt (qdw_or (qdt_not (qdt_val (qd_isi .tuple B.m_isinstance B.m_tuple PyProof.Rows.boot_tuple (qd_var (qv 2 rfl (Or.inl rfl)))))) (qdw_or1 (qdt_gt (qd_lenV B.m_len (qv 2 rfl (Or.inl rfl))) (qd_glob B.k_MOST_WAYS))))) (qds_one (qds_ret (qd_bl))) (qds_nil))
    (qds_one (qds_ret (qd_all rfl B.m_all (qda_cons (qd_comp (k := 1) (N' := n0_are_ways) false rfl ⟨rfl, by decide +kernel, rfl, rfl, rfl⟩ (qdi_val (qd_var (qv 2 rfl (Or.inl rfl)))) (fun _ _ _ _ => qdg_name (i := 3) (show 3 ≤ 3 by decide) nd0_are_ways rfl (Or.inl rfl) (Or.inr rfl)) (fun _ _ _ _ => qdts_nil) (fun _ _ _ _ => qd_callC c_is_way hr (by decide) (qda_cons (qd_var (qv 0)) (qda_cons (qd_var (qv 1)) (qda_cons (qd_var (qv 3)) (qda_nil) se_Name) se_Name) se_Name))) (qda_nil) se_ListComp))))
noncomputable def d_is_begin : DenS := sSeq (sIf (tOrD (tNotD (tOfV (eIsi .tuple (eVar 2)))) (tOfB (e2 dNe (eLenV 2) (eC (.int 2))))) (sRet (eC (.bl false))) (sNil))
  (sRet (eAnd (eCall F_is_number_of 2 (aCons (eIxV 2 (eC (.int 0))) (aCons (eVar 1) (aNil)))) (eCall F_is_number_of 2 (aCons (eIxV 2 (eC (.int 1))) (aCons (eLenV 0) (aNil))))))
noncomputable def F_is_begin : List D → Option (D × Nat) := fnD 3 (d_is_begin)
theorem sc_is_begin : FnScope ["ladder", "places", "thing"] ["ladder", "places", "thing"] (defScope (top 36)) := ⟨rfl, rfl, rfl, by decide +kernel, rfl, by decide +kernel, by decide +kernel⟩
theorem C_is_begin (B : Bt mg) (c_is_number_of : Cal P w K mg base 2 "is_number_of" 2 F_is_number_of) (a : At K mg "is_begin" (top 36) ["ladder", "places", "thing"]) : Cal P w K mg base 3 "is_begin" 3 (F_is_begin) :=
  Cal.mkQ (k := 2) a sc_is_begin fun f cdv A outer s H E hr =>
    qds_cons (qds_if (qw_pt (qdw_or (qdt_not (qdt_val (qd_isi .tuple B.m_isinstance B.m_tuple PyProof.Rows.boot_tuple (qd_var (qv 2 rfl (Or.inl rfl)))))) (qdw_or1 (qdt_ne hr (qd_lenV B.m_len (qv 2 rfl (Or.inl rfl))) (qd_int))))) (qds_one (qds_ret (qd_bl))) (qds_nil))
    (qds_one (qds_ret (qd_and (qd_callC c_is_number_of hr (by decide) (qda_cons (qd_ixV (qv 2 rfl (Or.inl rfl)) (qd_int)) (qda_cons (qd_var (qv 1 rfl (Or.inl rfl))) (qda_nil) se_Name) se_Subscript)) (qd_one (qd_callC c_is_number_of hr (by decide) (qda_cons (qd_ixV (qv 2 rfl (Or.inl rfl)) (qd_int)) (qda_cons (qd_lenV B.m_len (qv 0 rfl (Or.inl rfl))) (qda_nil) se_Call) se_Subscript))))))
noncomputable def d_are_begins : DenS := sSeq (sIf (tOrD (tNotD (tOfV (eIsi .tuple (eVar 2)))) (tOfB (e2 dGt (eLenV 2) (eC (.int 60))))) (sRet (eC (.bl false))) (sNil))
  (sRet (eB bAll (aCons (eComp 1 (iVal (eVar 2)) (pName 3) (tYesD) (eCall F_is_begin 3 (aCons (eVar 0) (aCons (eVar 1) (aCons (eVar 3) (aNil))))) false) (aNil))))
noncomputable def F_are_begins : List D → Option (D × Nat) := fnD 3 (d_are_begins)
theorem sc_are_begins : FnScope ["ladder", "places", "thing"] ["ladder", "places", "thing"] (defScope (top 35)) := ⟨rfl, rfl, rfl, by decide +kernel, rfl, by decide +kernel, by decide +kernel⟩
noncomputable abbrev n0_are_begins : List Str := ["ladder", "places", "thing", "begin"]
theorem nd0_are_begins : (n0_are_begins).Nodup := by decide +kernel
theorem C_are_begins (B : Bt mg) (c_is_begin : Cal P w K mg base 3 "is_begin" 3 F_is_begin) (a : At K mg "are_begins" (top 35) ["ladder", "places", "thing"]) : Cal P w K mg base 4 "are_begins" 3 (F_are_begins) :=
  Cal.mkQ (k := 3) a sc_are_begins fun f cdv A outer s H E hr =>
    qds_cons (qds_if (qw_pt (qdw_or (qdt_not (qdt_val (qd_isi .tuple B.m_isinstance B.m_tuple PyProof.Rows.boot_tuple (qd_var (qv 2 rfl (Or.inl rfl)))))) (qdw_or1 (qdt_gt (qd_lenV B.m_len (qv 2 rfl (Or.inl rfl))) (qd_glob B.k_MOST_BEGINS))))) (qds_one (qds_ret (qd_bl))) (qds_nil))
    (qds_one (qds_ret (qd_all rfl B.m_all (qda_cons (qd_comp (k := 1) (N' := n0_are_begins) false rfl ⟨rfl, by decide +kernel, rfl, rfl, rfl⟩ (qdi_val (qd_var (qv 2 rfl (Or.inl rfl)))) (fun _ _ _ _ => qdg_name (i := 3) (show 3 ≤ 3 by decide) nd0_are_begins rfl (Or.inl rfl) (Or.inr rfl)) (fun _ _ _ _ => qdts_nil) (fun _ _ _ _ => qd_callC c_is_begin hr (by decide) (qda_cons (qd_var (qv 0)) (qda_cons (qd_var (qv 1)) (qda_cons (qd_var (qv 3)) (qda_nil) se_Name) se_Name) se_Name))) (qda_nil) se_ListComp))))
noncomputable def d_is_chart : DenS := sSeq (sIf (tOrD (tNotD (tOfV (eIsi .tuple (eVar 1)))) (tOfB (e2 dNe (eLenV 1) (eC (.int 3))))) (sRet (eC (.bl false))) (sNil))
  (sSeq (sIf (tNotD (tOfV (eCall F_is_many_places 1 (aCons (eIxV 1 (eC (.int 0))) (aNil))))) (sRet (eC (.bl false))) (sNil))
  (sRet (eAnd (eCall F_are_ways 3 (aCons (eVar 0) (aCons (eIxV 1 (eC (.int 0))) (aCons (eIxV 1 (eC (.int 1))) (aNil))))) (eCall F_are_begins 3 (aCons (eVar 0) (aCons (eIxV 1 (eC (.int 0))) (aCons (eIxV 1 (eC (.int 2))) (aNil))))))))
noncomputable def F_is_chart : List D → Option (D × Nat) := fnD 2 (d_is_chart)
theorem sc_is_chart : FnScope ["ladder", "thing"] ["ladder", "thing"] (defScope (top 30)) := ⟨rfl, rfl, rfl, by decide +kernel, rfl, by decide +kernel, by decide +kernel⟩
theorem C_is_chart (B : Bt mg) (c_is_many_places : Cal P w K mg base 2 "is_many_places" 1 F_is_many_places) (c_are_ways : Cal P w K mg base 7 "are_ways" 3 F_are_ways) (c_are_begins : Cal P w K mg base 4 "are_begins" 3 F_are_begins) (a : At K mg "is_chart" (top 30) ["ladder", "thing"]) : Cal P w K mg base 8 "is_chart" 2 (F_is_chart) :=
  Cal.mkQ (k := 7) a sc_is_chart fun f cdv A outer s H E hr =>
    qds_cons (qds_if (qw_pt (qdw_or (qdt_not (qdt_val (qd_isi .tuple B.m_isinstance B.m_tuple PyProof.Rows.boot_tuple (qd_var (qv 1 rfl (Or.inl rfl)))))) (qdw_or1 (qdt_ne hr (qd_lenV B.m_len (qv 1 rfl (Or.inl rfl))) (qd_int))))) (qds_one (qds_ret (qd_bl))) (qds_nil))
    (qds_cons (qds_if (qdt_not (qdt_val (qd_callC c_is_many_places hr (by decide) (qda_cons (qd_ixV (qv 1 rfl (Or.inl rfl)) (qd_int)) (qda_nil) se_Subscript)))) (qds_one (qds_ret (qd_bl))) (qds_nil))
    (qds_one (qds_ret (qd_and (qd_callC c_are_ways hr (by decide) (qda_cons (qd_var (qv 0 rfl (Or.inl rfl))) (qda_cons (qd_ixV (qv 1 rfl (Or.inl rfl)) (qd_int)) (qda_cons (qd_ixV (qv 1 rfl (Or.inl rfl)) (qd_int)) (qda_nil) se_Subscript) se_Subscript) se_Name)) (qd_one (qd_callC c_are_begins hr (by decide) (qda_cons (qd_var (qv 0 rfl (Or.inl rfl))) (qda_cons (qd_ixV (qv 1 rfl (Or.inl rfl)) (qd_int)) (qda_cons (qd_ixV (qv 1 rfl (Or.inl rfl)) (qd_int)) (qda_nil) se_Subscript) se_Subscript) se_Name)))))))
noncomputable def d_is_call : DenS := sRet (eAnd (eCall F_goes_between 2 (aCons (eVar 1) (aCons (eVar 2) (aNil)))) (eCall F_is_number_of 2 (aCons (eIxV 2 (eC (.int 2))) (aCons (eVar 0) (aNil)))))
noncomputable def F_is_call : List D → Option (D × Nat) := fnD 3 (d_is_call)
theorem sc_is_call : FnScope ["houses", "places", "thing"] ["houses", "places", "thing"] (defScope (top 47)) := ⟨rfl, rfl, rfl, by decide +kernel, rfl, by decide +kernel, by decide +kernel⟩
theorem C_is_call (B : Bt mg) (c_goes_between : Cal P w K mg base 3 "goes_between" 2 F_goes_between) (c_is_number_of : Cal P w K mg base 2 "is_number_of" 2 F_is_number_of) (a : At K mg "is_call" (top 47) ["houses", "places", "thing"]) : Cal P w K mg base 4 "is_call" 3 (F_is_call) :=
  Cal.mkQ (k := 3) a sc_is_call fun f cdv A outer s H E hr =>
    qds_one (qds_ret (qd_and (qd_callC c_goes_between hr (by decide) (qda_cons (qd_var (qv 1 rfl (Or.inl rfl))) (qda_cons (qd_var (qv 2 rfl (Or.inl rfl))) (qda_nil) se_Name) se_Name)) (qd_one (qd_callC c_is_number_of hr (by decide) (qda_cons (qd_ixV (qv 2 rfl (Or.inl rfl)) (qd_int)) (qda_cons (qd_var (qv 0 rfl (Or.inl rfl))) (qda_nil) se_Name) se_Subscript)))))
noncomputable def d_is_house : DenS := sSeq (sIf (tOrD (tNotD (tOfV (eIsi .tuple (eVar 2)))) (tOrD (tOfB (e2 dNe (eLenV 2) (eC (.int 2)))) (tNotD (tOfV (eCall F_is_many_places 1 (aCons (eIxV 2 (eC (.int 0))) (aNil))))))) (sRet (eC (.bl false))) (sNil))
  (sSeq (sIf (tOrD (tNotD (tOfV (eIsi .tuple (eIxV 2 (eC (.int 1)))))) (tOfB (e2 dGt (eB bLen (aCons (eIxV 2 (eC (.int 1))) (aNil))) (eC (.int 60))))) (sRet (eC (.bl false))) (sNil))
  (sRet (eB bAll (aCons (eComp 1 (iVal (eIxV 2 (eC (.int 1)))) (pName 3) (tYesD) (eOr (eCall F_is_way 3 (aCons (eVar 0) (aCons (eIxV 2 (eC (.int 0))) (aCons (eVar 3) (aNil))))) (eCall F_is_call 3 (aCons (eVar 1) (aCons (eIxV 2 (eC (.int 0))) (aCons (eVar 3) (aNil)))))) false) (aNil)))))
noncomputable def F_is_house : List D → Option (D × Nat) := fnD 3 (d_is_house)
theorem sc_is_house : FnScope ["ladder", "houses", "thing"] ["ladder", "houses", "thing"] (defScope (top 46)) := ⟨rfl, rfl, rfl, by decide +kernel, rfl, by decide +kernel, by decide +kernel⟩
noncomputable abbrev n0_is_house : List Str := ["ladder", "houses", "thing", "way"]
theorem nd0_is_house : (n0_is_house).Nodup := by decide +kernel
theorem C_is_house (B : Bt mg) (c_is_many_places : Cal P w K mg base 2 "is_many_places" 1 F_is_many_places) (c_is_way : Cal P w K mg base 6 "is_way" 3 F_is_way) (c_is_call : Cal P w K mg base 4 "is_call" 3 F_is_call) (a : At K mg "is_house" (top 46) ["ladder", "houses", "thing"]) : Cal P w K mg base 7 "is_house" 3 (F_is_house) :=
  Cal.mkQ (k := 6) a sc_is_house fun f cdv A outer s H E hr =>
    qds_cons (qds_if (qw_pt (qdw_or (qdt_not (qdt_val (qd_isi .tuple B.m_isinstance B.m_tuple PyProof.Rows.boot_tuple (qd_var (qv 2 rfl (Or.inr (Or.inl rfl))))))) (qdw_or (qdt_ne hr (qd_lenV B.m_len (qv 2 rfl (Or.inr (Or.inl rfl)))) (qd_int)) (qdw_or1 (qdt_not (qdt_val (qd_callC c_is_many_places hr (by decide) (qda_cons (qd_ixV (qv 2 rfl (Or.inr (Or.inl rfl))) (qd_int)) (qda_nil) se_Subscript)))))))) (qds_one (qds_ret (qd_bl))) (qds_nil))
    (qds_cons (qds_if (qw_pt (qdw_or (qdt_not (qdt_val (qd_isi .tuple B.m_isinstance B.m_tuple PyProof.Rows.boot_tuple (qd_ixV (qv 2 rfl (Or.inr (Or.inl rfl))) (qd_int))))) (qdw_or1 (qdt_gt (qd_len B.m_len (qda_cons (qd_ixV (qv 2 rfl (Or.inr (Or.inl rfl))) (qd_int)) (qda_nil) se_Subscript)) (qd_glob B.k_MOST_WAYS))))) (qds_one (qds_ret (qd_bl))) (qds_nil))
    (qds_one (qds_ret (qd_all rfl B.m_all (qda_cons (qd_comp (k := 1) (N' := n0_is_house) false rfl ⟨rfl, by decide +kernel, rfl, rfl, rfl⟩ (qdi_val (qd_ixV (qv 2 rfl (Or.inr (Or.inl rfl))) (qd_int))) (fun _ _ _ _ => qdg_name (i := 3) (show 3 ≤ 3 by decide) nd0_is_house rfl (Or.inl rfl) (Or.inr rfl)) (fun _ _ _ _ => qdts_nil) (fun _ _ _ _ => qd_or (qd_callC c_is_way hr (by decide) (qda_cons (qd_var (qv 0)) (qda_cons (qd_ixV (qv 2) (qd_int)) (qda_cons (qd_var (qv 3)) (qda_nil) se_Name) se_Subscript) se_Name)) (qd_one (qd_callC c_is_call hr (by decide) (qda_cons (qd_var (qv 1)) (qda_cons (qd_ixV (qv 2) (qd_int)) (qda_cons (qd_var (qv 3)) (qda_nil) se_Name) se_Subscript) se_Name))))) (qda_nil) se_ListComp)))))
noncomputable def d_is_program : DenS := sSeq (sIf (tOrD (tNotD (tOfV (eIsi .tuple (eVar 1)))) (tNotD (tOfB (eCh dLe dLe (eC (.int 1)) (eLenV 1) (eC (.int 4)))))) (sRet (eC (.bl false))) (sNil))
  (sRet (eB bAll (aCons (eComp 1 (iVal (eVar 1)) (pName 2) (tYesD) (eCall F_is_house 3 (aCons (eVar 0) (aCons (eLenV 1) (aCons (eVar 2) (aNil))))) false) (aNil))))
noncomputable def F_is_program : List D → Option (D × Nat) := fnD 2 (d_is_program)
theorem sc_is_program : FnScope ["ladder", "thing"] ["ladder", "thing"] (defScope (top 45)) := ⟨rfl, rfl, rfl, by decide +kernel, rfl, by decide +kernel, by decide +kernel⟩
noncomputable abbrev n0_is_program : List Str := ["ladder", "thing", "house"]
theorem nd0_is_program : (n0_is_program).Nodup := by decide +kernel
theorem C_is_program (B : Bt mg) (c_is_house : Cal P w K mg base 7 "is_house" 3 F_is_house) (a : At K mg "is_program" (top 45) ["ladder", "thing"]) : Cal P w K mg base 8 "is_program" 2 (F_is_program) :=
  Cal.mkQ (k := 7) a sc_is_program fun f cdv A outer s H E hr =>
    qds_cons (qds_if (qw_pt (qdw_or (qdt_not (qdt_val (qd_isi .tuple B.m_isinstance B.m_tuple PyProof.Rows.boot_tuple (qd_var (qv 1 rfl (Or.inr (Or.inl rfl))))))) (qdw_or1 (qdt_not (qdt_ch_le_le (qd_int) (qd_lenV B.m_len (qv 1 rfl (Or.inr (Or.inl rfl)))) (qd_glob B.k_MOST_HOUSES)))))) (qds_one (qds_ret (qd_bl))) (qds_nil))
    (qds_one (qds_ret (qd_all rfl B.m_all (qda_cons (qd_comp (k := 1) (N' := n0_is_program) false rfl ⟨rfl, by decide +kernel, rfl, rfl, rfl⟩ (qdi_val (qd_var (qv 1 rfl (Or.inr (Or.inl rfl))))) (fun _ _ _ _ => qdg_name (i := 2) (show 2 ≤ 2 by decide) nd0_is_program rfl (Or.inl rfl) (Or.inr rfl)) (fun _ _ _ _ => qdts_nil) (fun _ _ _ _ => qd_callC c_is_house hr (by decide) (qda_cons (qd_var (qv 0)) (qda_cons (qd_lenV B.m_len (qv 1)) (qda_cons (qd_var (qv 2)) (qda_nil) se_Name) se_Call) se_Name))) (qda_nil) se_ListComp))))
noncomputable def d__law_are_charts_told : DenS := sSeq (sSet 0 (eTup (aCons (eTup (aCons (eC (.int 0)) (aCons (eC (.int 1)) (aNil)))) (aCons (eTup (aCons (eC (.int 1)) (aCons (eC (.int 1)) (aNil)))) (aNil)))))
  (sSeq (sAsg (eTup (aCons (eTup (aCons (eC (.int 0)) (aCons (eC (.int 0)) (aCons (eTup (aCons (eC (.int 0)) (aCons (eC (.int 1)) (aNil)))) (aNil))))) (aCons (eTup (aCons (eC (.int 0)) (aCons (eC (.int 1)) (aNil)))) (aCons (eTup (aCons (eC (.int 0)) (aCons (eC (.int 0)) (aCons (eC (.int 0)) (aNil))))) (aNil))))) (pTup (psCons (pName 1) (psCons (pName 2) (psCons (pName 3) (psNil))))))
  (sSeq (sSet 4 (eLst (aCons (eTup (aCons (eC (.int 8)) (aCons (eRepT (eTup (aCons (eVar 1) (aNil))) (eC (.int 60))) (aCons (eRepT (eTup (aCons (eVar 2) (aNil))) (eC (.int 60))) (aNil))))) (aCons (eTup (aCons (eC (.int 1)) (aCons (eTup (aNil)) (aCons (eTup (aNil)) (aNil))))) (aCons (eTup (aCons (eC (.int 8)) (aCons (eTup (aCons (eTup (aCons (eC (.int 7)) (aCons (eC (.int 7)) (aCons (eTup (aCons (eC (.int 1)) (aCons (eC (.int 1)) (aNil)))) (aNil))))) (aNil))) (aCons (eTup (aCons (eTup (aCons (eC (.int 7)) (aCons (eC (.int 0)) (aNil)))) (aNil))) (aNil))))) (aNil))))))
  (sSeq (sSet 5 (eLst (aCons (eTup (aCons (eC (.int 9)) (aCons (eTup (aNil)) (aCons (eTup (aNil)) (aNil))))) (aCons (eTup (aCons (eC (.int 0)) (aCons (eTup (aNil)) (aCons (eTup (aNil)) (aNil))))) (aCons (eTup (aCons (eC (.int 1)) (aCons (eRepT (eTup (aCons (eVar 1) (aNil))) (eC (.int 61))) (aCons (eTup (aNil)) (aNil))))) (aCons (eTup (aCons (eC (.int 1)) (aCons (eTup (aNil)) (aCons (eRepT (eTup (aCons (eVar 2) (aNil))) (eC (.int 61))) (aNil))))) (aNil)))))))
  (sSeq (sDrop (eExt 5 (eLst (aCons (eTup (aCons (eC (.int 1)) (aCons (eTup (aCons (eTup (aCons (eC (.int 0)) (aCons (eC (.int 1)) (aCons (eTup (aCons (eC (.int 0)) (aCons (eC (.int 1)) (aNil)))) (aNil))))) (aNil))) (aCons (eTup (aNil)) (aNil))))) (aCons (eTup (aCons (eC (.int 1)) (aCons (eTup (aCons (eTup (aCons (eC (.int 1)) (aCons (eC (.int 0)) (aCons (eTup (aCons (eC (.int 0)) (aCons (eC (.int 1)) (aNil)))) (aNil))))) (aNil))) (aCons (eTup (aNil)) (aNil))))) (aNil))))))
  (sSeq (sDrop (eExt 5 (eLst (aCons (eTup (aCons (eC (.int 1)) (aCons (eTup (aCons (eTup (aCons (eC (.int 0)) (aCons (eC (.int 0)) (aCons (eTup (aCons (eC (.int 1)) (aCons (eC (.int 0)) (aNil)))) (aNil))))) (aNil))) (aCons (eTup (aNil)) (aNil))))) (aCons (eTup (aCons (eC (.int 1)) (aCons (eTup (aCons (eTup (aCons (eC (.int 0)) (aCons (eC (.int 0)) (aCons (eTup (aCons (eC (.int 0)) (aCons (eC (.int 2)) (aNil)))) (aNil))))) (aNil))) (aCons (eTup (aNil)) (aNil))))) (aCons (eTup (aCons (eC (.int 1)) (aCons (eTup (aCons (eTup (aCons (eC (.int 0)) (aCons (eC (.int 0)) (aCons (eTup (aCons (eC (.int 0)) (aNil))) (aNil))))) (aNil))) (aCons (eTup (aNil)) (aNil))))) (aNil)))))))
  (sSeq (sDrop (eExt 5 (eLst (aCons (eTup (aCons (eC (.int 1)) (aCons (eTup (aCons (eTup (aCons (eC (.int 0)) (aCons (eC (.int 0)) (aNil)))) (aNil))) (aCons (eTup (aNil)) (aNil))))) (aCons (eTup (aCons (eC (.bl true)) (aCons (eTup (aNil)) (aCons (eTup (aNil)) (aNil))))) (aNil))))))
  (sSeq (sDrop (eExt 5 (eLst (aCons (eTup (aCons (eC (.int 1)) (aCons (eTup (aNil)) (aCons (eTup (aCons (eTup (aCons (eC (.int 1)) (aCons (eC (.int 0)) (aNil)))) (aNil))) (aNil))))) (aCons (eTup (aCons (eC (.int 1)) (aCons (eTup (aNil)) (aCons (eTup (aCons (eTup (aCons (eC (.int 0)) (aCons (eC (.int 2)) (aNil)))) (aNil))) (aNil))))) (aCons (eTup (aCons (eC (.int 1)) (aCons (eTup (aNil)) (aCons (eTup (aCons (eTup (aCons (eC (.int 0)) (aNil))) (aNil))) (aNil))))) (aCons (eTup (aCons (eC (.int 1)) (aCons (eLst (aCons (eVar 1) (aNil))) (aCons (eTup (aNil)) (aNil))))) (aCons (eTup (aCons (eC (.int 1)) (aCons (eTup (aNil)) (aCons (eLst (aCons (eVar 2) (aNil))) (aNil))))) (aNil)))))))))
  (sSeq (sDrop (eExt 5 (eLst (aCons (eTup (aCons (eC (.int 1)) (aCons (eTup (aNil)) (aNil)))) (aCons (eC .non) (aNil))))))
  (sSeq (sDrop (eExt 5 (eLst (aCons (eTup (aCons (eC (.int 1)) (aCons (eTup (aCons (eTup (aCons (eC (.int 0)) (aCons (eNeg (eC (.int 1))) (aCons (eTup (aCons (eC (.int 0)) (aCons (eC (.int 1)) (aNil)))) (aNil))))) (aNil))) (aCons (eTup (aNil)) (aNil))))) (aCons (eTup (aCons (eC (.int 1)) (aCons (eTup (aNil)) (aCons (eTup (aCons (eTup (aCons (eNeg (eC (.int 1))) (aCons (eC (.int 0)) (aNil)))) (aNil))) (aNil))))) (aCons (eTup (aCons (eC (.int 1)) (aCons (eTup (aNil)) (aCons (eTup (aCons (eTup (aCons (eC (.int 0)) (aCons (eNeg (eC (.int 1))) (aNil)))) (aNil))) (aNil))))) (aNil)))))))
  (sSeq (sDrop (eExt 5 (eLst (aCons (eTup (aCons (eC (.int 1)) (aCons (eTup (aCons (eTup (aCons (eC (.int 0)) (aCons (eC (.int 0)) (aCons (eTup (aCons (eC (.int 0)) (aCons (eNeg (eC (.int 1))) (aNil)))) (aNil))))) (aNil))) (aCons (eTup (aNil)) (aNil))))) (aCons (eTup (aCons (eC (.int 1)) (aCons (eTup (aCons (eC .non) (aNil))) (aCons (eTup (aNil)) (aNil))))) (aNil))))))
  (sSeq (sIf (tOfB (e2 dNe (eComp 1 (iVal (eCatL (eVar 4) (eVar 5))) (pName 7) (tYesD) (eCall F_is_chart 2 (aCons (eVar 0) (aCons (eVar 7) (aNil)))) false) (eCatL (eRepL (eLst (aCons (eC (.bl true)) (aNil))) (eC (.int 3))) (eRepL (eLst (aCons (eC (.bl false)) (aNil))) (eC (.int 23)))))) (sRet (eC (.bl false))) (sNil))
  (sSeq (sSet 6 (eTup (aCons (eC (.int 8)) (aCons (eRepT (eTup (aCons (eVar 1) (aNil))) (eC (.int 60))) (aNil)))))
  (sSeq (sSet 4 (eLst (aCons (eRepT (eTup (aCons (eVar 6) (aNil))) (eC (.int 4))) (aCons (eTup (aCons (eTup (aCons (eC (.int 1)) (aCons (eTup (aNil)) (aNil)))) (aNil))) (aCons (eTup (aCons (eTup (aCons (eC (.int 8)) (aCons (eRepT (eTup (aCons (eVar 3) (aNil))) (eC (.int 60))) (aNil)))) (aNil))) (aCons (eTup (aCons (eTup (aCons (eC (.int 1)) (aCons (eTup (aCons (eVar 1) (aCons (eVar 3) (aNil)))) (aNil)))) (aCons (eTup (aCons (eC (.int 1)) (aCons (eTup (aCons (eTup (aCons (eC (.int 0)) (aCons (eC (.int 0)) (aCons (eC (.int 1)) (aNil))))) (aNil))) (aNil)))) (aNil)))) (aNil)))))))
  (sSeq (sSet 5 (eLst (aCons (eTup (aNil)) (aCons (eRepT (eTup (aCons (eVar 6) (aNil))) (eC (.int 5))) (aCons (eTup (aCons (eTup (aCons (eC (.int 9)) (aCons (eTup (aNil)) (aNil)))) (aNil))) (aCons (eTup (aCons (eTup (aCons (eC (.int 0)) (aCons (eTup (aNil)) (aNil)))) (aNil))) (aCons (eTup (aCons (eTup (aCons (eC (.int 1)) (aCons (eRepT (eTup (aCons (eVar 1) (aNil))) (eC (.int 61))) (aNil)))) (aNil))) (aCons (eTup (aCons (eTup (aCons (eC (.int 1)) (aCons (eTup (aCons (eTup (aCons (eC (.int 0)) (aCons (eC (.int 0)) (aCons (eC (.int 1)) (aNil))))) (aNil))) (aNil)))) (aNil))) (aCons (eTup (aCons (eTup (aCons (eC (.int 1)) (aCons (eTup (aCons (eTup (aCons (eC (.int 0)) (aCons (eC (.int 0)) (aCons (eNeg (eC (.int 1))) (aNil))))) (aNil))) (aNil)))) (aNil))) (aNil))))))))))
  (sSeq (sDrop (eExt 5 (eLst (aCons (eTup (aCons (eTup (aCons (eC (.int 1)) (aCons (eTup (aCons (eTup (aCons (eC (.int 1)) (aCons (eC (.int 0)) (aCons (eC (.int 0)) (aNil))))) (aNil))) (aNil)))) (aNil))) (aCons (eTup (aCons (eTup (aCons (eC (.int 1)) (aCons (eTup (aCons (eTup (aCons (eC (.int 0)) (aCons (eC (.int 1)) (aCons (eC (.int 0)) (aNil))))) (aNil))) (aNil)))) (aNil))) (aCons (eTup (aCons (eTup (aCons (eC (.bl true)) (aCons (eTup (aNil)) (aNil)))) (aNil))) (aCons (eTup (aCons (eTup (aCons (eC (.int 1)) (aCons (eLst (aCons (eVar 1) (aNil))) (aNil)))) (aNil))) (aCons (eLst (aCons (eVar 6) (aNil))) (aCons (eTup (aCons (eTup (aCons (eC (.int 1)) (aNil))) (aNil))) (aNil))))))))))
  (sSeq (sDrop (eExt 5 (eLst (aCons (eTup (aCons (eTup (aCons (eC (.int 1)) (aCons (eTup (aCons (eTup (aCons (eC (.int 0)) (aCons (eC (.int 0)) (aCons (eTup (aCons (eC (.int 1)) (aCons (eC (.int 0)) (aNil)))) (aNil))))) (aNil))) (aNil)))) (aNil))) (aCons (eC .non) (aNil))))))
  (sRet (e2 dEq (eComp 1 (iVal (eCatL (eVar 4) (eVar 5))) (pName 7) (tYesD) (eCall F_is_program 2 (aCons (eVar 0) (aCons (eVar 7) (aNil)))) false) (eCatL (eRepL (eLst (aCons (eC (.bl true)) (aNil))) (eC (.int 4))) (eRepL (eLst (aCons (eC (.bl false)) (aNil))) (eC (.int 15))))))))))))))))))))))
noncomputable def F__law_are_charts_told : List D → Option (D × Nat) := fnD 7 (d__law_are_charts_told)
theorem sc__law_are_charts_told : FnScope ["_law_two", "_law_way", "_law_begin", "_law_call", "_law_good", "_law_odd", "_law_house"] [] (defScope (top 53)) := ⟨rfl, rfl, rfl, by decide +kernel, rfl, by decide +kernel, by decide +kernel⟩
noncomputable abbrev n0__law_are_charts_told : List Str := ["_law_two", "_law_way", "_law_begin", "_law_call", "_law_good", "_law_odd", "_law_house", "_law_thing"]
theorem nd0__law_are_charts_told : (n0__law_are_charts_told).Nodup := by decide +kernel
theorem C__law_are_charts_told (B : Bt mg) (c_is_chart : Cal P w K mg base 8 "is_chart" 2 F_is_chart) (c_is_program : Cal P w K mg base 8 "is_program" 2 F_is_program) (a : At K mg "_law_are_charts_told" (top 53) []) : Cal P w K mg base 9 "_law_are_charts_told" 0 (F__law_are_charts_told) :=
  Cal.mkQ (k := 8) a sc__law_are_charts_told fun f cdv A outer s H E hr =>
    qds_cons (qds_set (i := 0) sc__law_are_charts_told.nd rfl (Or.inr rfl) (qd_tup (qda_cons (qd_tup (qda_cons (qd_int) (qda_cons (qd_int) (qda_nil) se_Constant) se_Constant)) (qda_cons (qd_tup (qda_cons (qd_int) (qda_cons (qd_int) (qda_nil) se_Constant) se_Constant)) (qda_nil) se_Tuple) se_Tuple)))
    (qds_cons (qds_asg (qd_tup (qda_cons (qd_tup (qda_cons (qd_int) (qda_cons (qd_int) (qda_cons (qd_tup (qda_cons (qd_int) (qda_cons (qd_int) (qda_nil) se_Constant) se_Constant)) (qda_nil) se_Tuple) se_Constant) se_Constant)) (qda_cons (qd_tup (qda_cons (qd_int) (qda_cons (qd_int) (qda_nil) se_Constant) se_Constant)) (qda_cons (qd_tup (qda_cons (qd_int) (qda_cons (qd_int) (qda_cons (qd_int) (qda_nil) se_Constant) se_Constant) se_Constant)) (qda_nil) se_Tuple) se_Tuple) se_Tuple)) (qdg_tup (n := 3) rfl (qdgs_cons (qdg_name (i := 1) (show 0 ≤ 1 by decide) sc__law_are_charts_told.nd rfl (Or.inl rfl)) (qdgs_cons (qdg_name (i := 2) (show 0 ≤ 2 by decide) sc__law_are_charts_told.nd rfl (Or.inl rfl)) (qdgs_cons (qdg_name (i := 3) (show 0 ≤ 3 by decide) sc__law_are_charts_told.nd rfl (Or.inl rfl)) (qdgs_nil)))) ps_len3))
    (qds_cons (qds_set (i := 4) sc__law_are_charts_told.nd rfl (Or.inl rfl) (qd_lst (qda_cons (qd_tup (qda_cons (qd_int) (qda_cons (qd_repT (qd_tup (qda_cons (qd_var (qv 1 rfl (Or.inl rfl))) (qda_nil) se_Name)) (qd_int)) (qda_cons (qd_repT (qd_tup (qda_cons (qd_var (qv 2 rfl (Or.inl rfl))) (qda_nil) se_Name)) (qd_int)) (qda_nil) se_BinOp) se_BinOp) se_Constant)) (qda_cons (qd_tup (qda_cons (qd_int) (qda_cons (qd_tup (qda_nil)) (qda_cons (qd_tup (qda_nil)) (qda_nil) se_Tuple) se_Tuple) se_Constant)) (qda_cons (qd_tup (qda_cons (qd_int) (qda_cons (qd_tup (qda_cons (qd_tup (qda_cons (qd_int) (qda_cons (qd_int) (qda_cons (qd_tup (qda_cons (qd_int) (qda_cons (qd_int) (qda_nil) se_Constant) se_Constant)) (qda_nil) se_Tuple) se_Constant) se_Constant)) (qda_nil) se_Tuple)) (qda_cons (qd_tup (qda_cons (qd_tup (qda_cons (qd_int) (qda_cons (qd_int) (qda_nil) se_Constant) se_Constant)) (qda_nil) se_Tuple)) (qda_nil) se_Tuple) se_Tuple) se_Constant)) (qda_nil) se_Tuple) se_Tuple) se_Tuple)))
    (qds_cons (qds_set (i := 5) sc__law_are_charts_told.nd rfl (Or.inl rfl) (qd_lst (qda_cons (qd_tup (qda_cons (qd_int) (qda_cons (qd_tup (qda_nil)) (qda_cons (qd_tup (qda_nil)) (qda_nil) se_Tuple) se_Tuple) se_Constant)) (qda_cons (qd_tup (qda_cons (qd_int) (qda_cons (qd_tup (qda_nil)) (qda_cons (qd_tup (qda_nil)) (qda_nil) se_Tuple) se_Tuple) se_Constant)) (qda_cons (qd_tup (qda_cons (qd_int) (qda_cons (qd_repT (qd_tup (qda_cons (qd_var (qv 1 rfl (Or.inl rfl))) (qda_nil) se_Name)) (qd_int)) (qda_cons (qd_tup (qda_nil)) (qda_nil) se_Tuple) se_BinOp) se_Constant)) (qda_cons (qd_tup (qda_cons (qd_int) (qda_cons (qd_tup (qda_nil)) (qda_cons (qd_repT (qd_tup (qda_cons (qd_var (qv 2 rfl (Or.inl rfl))) (qda_nil) se_Name)) (qd_int)) (qda_nil) se_BinOp) se_Tuple) se_Constant)) (qda_nil) se_Tuple) se_Tuple) se_Tuple) se_Tuple)))
    (qds_cons (qds_expr (qd_extend (qv 5 rfl (Or.inl rfl)) (qd_lst (qda_cons (qd_tup (qda_cons (qd_int) (qda_cons (qd_tup (qda_cons (qd_tup (qda_cons (qd_int) (qda_cons (qd_int) (qda_cons (qd_tup (qda_cons (qd_int) (qda_cons (qd_int) (qda_nil) se_Constant) se_Constant)) (qda_nil) se_Tuple) se_Constant) se_Constant)) (qda_nil) se_Tuple)) (qda_cons (qd_tup (qda_nil)) (qda_nil) se_Tuple) se_Tuple) se_Constant)) (qda_cons (qd_tup (qda_cons (qd_int) (qda_cons (qd_tup (qda_cons (qd_tup (qda_cons (qd_int) (qda_cons (qd_int) (qda_cons (qd_tup (qda_cons (qd_int) (qda_cons (qd_int) (qda_nil) se_Constant) se_Constant)) (qda_nil) se_Tuple) se_Constant) se_Constant)) (qda_nil) se_Tuple)) (qda_cons (qd_tup (qda_nil)) (qda_nil) se_Tuple) se_Tuple) se_Constant)) (qda_nil) se_Tuple) se_Tuple))))
    (qds_cons (qds_expr (qd_extend (qv 5 rfl (Or.inl rfl)) (qd_lst (qda_cons (qd_tup (qda_cons (qd_int) (qda_cons (qd_tup (qda_cons (qd_tup (qda_cons (qd_int) (qda_cons (qd_int) (qda_cons (qd_tup (qda_cons (qd_int) (qda_cons (qd_int) (qda_nil) se_Constant) se_Constant)) (qda_nil) se_Tuple) se_Constant) se_Constant)) (qda_nil) se_Tuple)) (qda_cons (qd_tup (qda_nil)) (qda_nil) se_Tuple) se_Tuple) se_Constant)) (qda_cons (qd_tup (qda_cons (qd_int) (qda_cons (qd_tup (qda_cons (qd_tup (qda_cons (qd_int) (qda_cons (qd_int) (qda_cons (qd_tup (qda_cons (qd_int) (qda_cons (qd_int) (qda_nil) se_Constant) se_Constant)) (qda_nil) se_Tuple) se_Constant) se_Constant)) (qda_nil) se_Tuple)) (qda_cons (qd_tup (qda_nil)) (qda_nil) se_Tuple) se_Tuple) se_Constant)) (qda_cons (qd_tup (qda_cons (qd_int) (qda_cons (qd_tup (qda_cons (qd_tup (qda_cons (qd_int) (qda_cons (qd_int) (qda_cons (qd_tup (qda_cons (qd_int) (qda_nil) se_Constant)) (qda_nil) se_Tuple) se_Constant) se_Constant)) (qda_nil) se_Tuple)) (qda_cons (qd_tup (qda_nil)) (qda_nil) se_Tuple) se_Tuple) se_Constant)) (qda_nil) se_Tuple) se_Tuple) se_Tuple))))
    (qds_cons (qds_expr (qd_extend (qv 5 rfl (Or.inl rfl)) (qd_lst (qda_cons (qd_tup (qda_cons (qd_int) (qda_cons (qd_tup (qda_cons (qd_tup (qda_cons (qd_int) (qda_cons (qd_int) (qda_nil) se_Constant) se_Constant)) (qda_nil) se_Tuple)) (qda_cons (qd_tup (qda_nil)) (qda_nil) se_Tuple) se_Tuple) se_Constant)) (qda_cons (qd_tup (qda_cons (qd_bl) (qda_cons (qd_tup (qda_nil)) (qda_cons (qd_tup (qda_nil)) (qda_nil) se_Tuple) se_Tuple) se_Constant)) (qda_nil) se_Tuple) se_Tuple))))
    (qds_cons (qds_expr (qd_extend (qv 5 rfl (Or.inl rfl)) (qd_lst (qda_cons (qd_tup (qda_cons (qd_int) (qda_cons (qd_tup (qda_nil)) (qda_cons (qd_tup (qda_cons (qd_tup (qda_cons (qd_int) (qda_cons (qd_int) (qda_nil) se_Constant) se_Constant)) (qda_nil) se_Tuple)) (qda_nil) se_Tuple) se_Tuple) se_Constant)) (qda_cons (qd_tup (qda_cons (qd_int) (qda_cons (qd_tup (qda_nil)) (qda_cons (qd_tup (qda_cons (qd_tup (qda_cons (qd_int) (qda_cons (qd_int) (qda_nil) se_Constant) se_Constant)) (qda_nil) se_Tuple)) (qda_nil) se_Tuple) se_Tuple) se_Constant)) (qda_cons (qd_tup (qda_cons (qd_int) (qda_cons (qd_tup (qda_nil)) (qda_cons (qd_tup (qda_cons (qd_tup (qda_cons (qd_int) (qda_nil) se_Constant)) (qda_nil) se_Tuple)) (qda_nil) se_Tuple) se_Tuple) se_Constant)) (qda_cons (qd_tup (qda_cons (qd_int) (qda_cons (qd_lst (qda_cons (qd_var (qv 1 rfl (Or.inl rfl))) (qda_nil) se_Name)) (qda_cons (qd_tup (qda_nil)) (qda_nil) se_Tuple) se_List) se_Constant)) (qda_cons (qd_tup (qda_cons (qd_int) (qda_cons (qd_tup (qda_nil)) (qda_cons (qd_lst (qda_cons (qd_var (qv 2 rfl (Or.inl rfl))) (qda_nil) se_Name)) (qda_nil) se_List) se_Tuple) se_Constant)) (qda_nil) se_Tuple) se_Tuple) se_Tuple) se_Tuple) se_Tuple))))
    (qds_cons (qds_expr (qd_extend (qv 5 rfl (Or.inl rfl)) (qd_lst (qda_cons (qd_tup (qda_cons (qd_int) (qda_cons (qd_tup (qda_nil)) (qda_nil) se_Tuple) se_Constant)) (qda_cons (qd_non) (qda_nil) se_Constant) se_Tuple))))
    (qds_cons (qds_expr (qd_extend (qv 5 rfl (Or.inl rfl)) (qd_lst (qda_cons (qd_tup (qda_cons (qd_int) (qda_cons (qd_tup (qda_cons (qd_tup (qda_cons (qd_int) (qda_cons (qd_neg (qd_int)) (qda_cons (qd_tup (qda_cons (qd_int) (qda_cons (qd_int) (qda_nil) se_Constant) se_Constant)) (qda_nil) se_Tuple) se_UnaryOp) se_Constant)) (qda_nil) se_Tuple)) (qda_cons (qd_tup (qda_nil)) (qda_nil) se_Tuple) se_Tuple) se_Constant)) (qda_cons (qd_tup (qda_cons (qd_int) (qda_cons (qd_tup (qda_nil)) (qda_cons (qd_tup (qda_cons (qd_tup (qda_cons (qd_neg (qd_int)) (qda_cons (qd_int) (qda_nil) se_Constant) se_UnaryOp)) (qda_nil) se_Tuple)) (qda_nil) se_Tuple) se_Tuple) se_Constant)) (qda_cons (qd_tup (qda_cons (qd_int) (qda_cons (qd_tup (qda_nil)) (qda_cons (qd_tup (qda_cons (qd_tup (qda_cons (qd_int) (qda_cons (qd_neg (qd_int)) (qda_nil) se_UnaryOp) se_Constant)) (qda_nil) se_Tuple)) (qda_nil) se_Tuple) se_Tuple) se_Constant)) (qda_nil) se_Tuple) se_Tuple) se_Tuple))))
    (qds_cons (qds_expr (qd_extend (qv 5 rfl (Or.inl rfl)) (qd_lst (qda_cons (qd_tup (qda_cons (qd_int) (qda_cons (qd_tup (qda_cons (qd_tup (qda_cons (qd_int) (qda_cons (qd_int) (qda_cons (qd_tup (qda_cons (qd_int) (qda_cons (qd_neg (qd_int)) (qda_nil) se_UnaryOp) se_Constant)) (qda_nil) se_Tuple) se_Constant) se_Constant)) (qda_nil) se_Tuple)) (qda_cons (qd_tup (qda_nil)) (qda_nil) se_Tuple) se_Tuple) se_Constant)) (qda_cons (qd_tup (qda_cons (qd_int) (qda_cons (qd_tup (qda_cons (qd_non) (qda_nil) se_Constant)) (qda_cons (qd_tup (qda_nil)) (qda_nil) se_Tuple) se_Tuple) se_Constant)) (qda_nil) se_Tuple) se_Tuple))))
    (qds_cons (qds_if (qdt_ne hr (qd_comp (k := 1) (N' := n0__law_are_charts_told) false rfl ⟨rfl, by decide +kernel, rfl, rfl, rfl⟩ (qdi_val (qd_catL (qd_var (qv 4 rfl (Or.inl rfl))) (qd_var (qv 5 rfl (Or.inl rfl))))) (fun _ _ _ _ => qdg_name (i := 7) (show 7 ≤ 7 by decide) nd0__law_are_charts_told rfl (Or.inl rfl) (Or.inr rfl)) (fun _ _ _ _ => qdts_nil) (fun _ _ _ _ => qd_callC c_is_chart hr (by decide) (qda_cons (qd_var (qv 0)) (qda_cons (qd_var (qv 7)) (qda_nil) se_Name) se_Name))) (qd_catL (qd_repL (qd_lst (qda_cons (qd_bl) (qda_nil) se_Constant)) (qd_int)) (qd_repL (qd_lst (qda_cons (qd_bl) (qda_nil) se_Constant)) (qd_int)))) (qds_one (qds_ret (qd_bl))) (qds_nil))
    (qds_cons (qds_set (i := 6) sc__law_are_charts_told.nd rfl (Or.inl rfl) (qd_tup (qda_cons (qd_int) (qda_cons (qd_repT (qd_tup (qda_cons (qd_var (qv 1 rfl (Or.inl rfl))) (qda_nil) se_Name)) (qd_int)) (qda_nil) se_BinOp) se_Constant)))
    (qds_cons (qds_set (i := 4) sc__law_are_charts_told.nd rfl (Or.inl rfl) (qd_lst (qda_cons (qd_repT (qd_tup (qda_cons (qd_var (qv 6 rfl (Or.inl rfl))) (qda_nil) se_Name)) (qd_int)) (qda_cons (qd_tup (qda_cons (qd_tup (qda_cons (qd_int) (qda_cons (qd_tup (qda_nil)) (qda_nil) se_Tuple) se_Constant)) (qda_nil) se_Tuple)) (qda_cons (qd_tup (qda_cons (qd_tup (qda_cons (qd_int) (qda_cons (qd_repT (qd_tup (qda_cons (qd_var (qv 3 rfl (Or.inl rfl))) (qda_nil) se_Name)) (qd_int)) (qda_nil) se_BinOp) se_Constant)) (qda_nil) se_Tuple)) (qda_cons (qd_tup (qda_cons (qd_tup (qda_cons (qd_int) (qda_cons (qd_tup (qda_cons (qd_var (qv 1 rfl (Or.inl rfl))) (qda_cons (qd_var (qv 3 rfl (Or.inl rfl))) (qda_nil) se_Name) se_Name)) (qda_nil) se_Tuple) se_Constant)) (qda_cons (qd_tup (qda_cons (qd_int) (qda_cons (qd_tup (qda_cons (qd_tup (qda_cons (qd_int) (qda_cons (qd_int) (qda_cons (qd_int) (qda_nil) se_Constant) se_Constant) se_Constant)) (qda_nil) se_Tuple)) (qda_nil) se_Tuple) se_Constant)) (qda_nil) se_Tuple) se_Tuple)) (qda_nil) se_Tuple) se_Tuple) se_Tuple) se_BinOp)))
    (qds_cons (qds_set (i := 5) sc__law_are_charts_told.nd rfl (Or.inl rfl) (qd_lst (qda_cons (qd_tup (qda_nil)) (qda_cons (qd_repT (qd_tup (qda_cons (qd_var (qv 6 rfl (Or.inl rfl))) (qda_nil) se_Name)) (qd_int)) (qda_cons (qd_tup (qda_cons (qd_tup (qda_cons (qd_int) (qda_cons (qd_tup (qda_nil)) (qda_nil) se_Tuple) se_Constant)) (qda_nil) se_Tuple)) (qda_cons (qd_tup (qda_cons (qd_tup (qda_cons (qd_int) (qda_cons (qd_tup (qda_nil)) (qda_nil) se_Tuple) se_Constant)) (qda_nil) se_Tuple)) (qda_cons (qd_tup (qda_cons (qd_tup (qda_cons (qd_int) (qda_cons (qd_repT (qd_tup (qda_cons (qd_var (qv 1 rfl (Or.inl rfl))) (qda_nil) se_Name)) (qd_int)) (qda_nil) se_BinOp) se_Constant)) (qda_nil) se_Tuple)) (qda_cons (qd_tup (qda_cons (qd_tup (qda_cons (qd_int) (qda_cons (qd_tup (qda_cons (qd_tup (qda_cons (qd_int) (qda_cons (qd_int) (qda_cons (qd_int) (qda_nil) se_Constant) se_Constant) se_Constant)) (qda_nil) se_Tuple)) (qda_nil) se_Tuple) se_Constant)) (qda_nil) se_Tuple)) (qda_cons (qd_tup (qda_cons (qd_tup (qda_cons (qd_int) (qda_cons (qd_tup (qda_cons (qd_tup (qda_cons (qd_int) (qda_cons (qd_int) (qda_cons (qd_neg (qd_int)) (qda_nil) se_UnaryOp) se_Constant) se_Constant)) (qda_nil) se_Tuple)) (qda_nil) se_Tuple) se_Constant)) (qda_nil) se_Tuple)) (qda_nil) se_Tuple) se_Tuple) se_Tuple) se_Tuple) se_Tuple) se_BinOp) se_Tuple)))
    (qds_cons (qds_expr (qd_extend (qv 5 rfl (Or.inl rfl)) (qd_lst (qda_cons (qd_tup (qda_cons (qd_tup (qda_cons (qd_int) (qda_cons (qd_tup (qda_cons (qd_tup (qda_cons (qd_int) (qda_cons (qd_int) (qda_cons (qd_int) (qda_nil) se_Constant) se_Constant) se_Constant)) (qda_nil) se_Tuple)) (qda_nil) se_Tuple) se_Constant)) (qda_nil) se_Tuple)) (qda_cons (qd_tup (qda_cons (qd_tup (qda_cons (qd_int) (qda_cons (qd_tup (qda_cons (qd_tup (qda_cons (qd_int) (qda_cons (qd_int) (qda_cons (qd_int) (qda_nil) se_Constant) se_Constant) se_Constant)) (qda_nil) se_Tuple)) (qda_nil) se_Tuple) se_Constant)) (qda_nil) se_Tuple)) (qda_cons (qd_tup (qda_cons (qd_tup (qda_cons (qd_bl) (qda_cons (qd_tup (qda_nil)) (qda_nil) se_Tuple) se_Constant)) (qda_nil) se_Tuple)) (qda_cons (qd_tup (qda_cons (qd_tup (qda_cons (qd_int) (qda_cons (qd_lst (qda_cons (qd_var (qv 1 rfl (Or.inl rfl))) (qda_nil) se_Name)) (qda_nil) se_List) se_Constant)) (qda_nil) se_Tuple)) (qda_cons (qd_lst (qda_cons (qd_var (qv 6 rfl (Or.inl rfl))) (qda_nil) se_Name)) (qda_cons (qd_tup (qda_cons (qd_tup (qda_cons (qd_int) (qda_nil) se_Constant)) (qda_nil) se_Tuple)) (qda_nil) se_Tuple) se_List) se_Tuple) se_Tuple) se_Tuple) se_Tuple))))
    (qds_cons (qds_expr (qd_extend (qv 5 rfl (Or.inl rfl)) (qd_lst (qda_cons (qd_tup (qda_cons (qd_tup (qda_cons (qd_int) (qda_cons (qd_tup (qda_cons (qd_tup (qda_cons (qd_int) (qda_cons (qd_int) (qda_cons (qd_tup (qda_cons (qd_int) (qda_cons (qd_int) (qda_nil) se_Constant) se_Constant)) (qda_nil) se_Tuple) se_Constant) se_Constant)) (qda_nil) se_Tuple)) (qda_nil) se_Tuple) se_Constant)) (qda_nil) se_Tuple)) (qda_cons (qd_non) (qda_nil) se_Constant) se_Tuple))))
    (qds_one (qds_ret (qd_eq hr (qd_comp (k := 1) (N' := n0__law_are_charts_told) false rfl ⟨rfl, by decide +kernel, rfl, rfl, rfl⟩ (qdi_val (qd_catL (qd_var (qv 4 rfl (Or.inl rfl))) (qd_var (qv 5 rfl (Or.inl rfl))))) (fun _ _ _ _ => qdg_name (i := 7) (show 7 ≤ 7 by decide) nd0__law_are_charts_told rfl (Or.inl rfl) (Or.inr rfl)) (fun _ _ _ _ => qdts_nil) (fun _ _ _ _ => qd_callC c_is_program hr (by decide) (qda_cons (qd_var (qv 0)) (qda_cons (qd_var (qv 7)) (qda_nil) se_Name) se_Name))) (qd_catL (qd_repL (qd_lst (qda_cons (qd_bl) (qda_nil) se_Constant)) (qd_int)) (qd_repL (qd_lst (qda_cons (qd_bl) (qda_nil) se_Constant)) (qd_int))))))))))))))))))))))
noncomputable def d_law : DenS := sSeq (sIf (tOrD (tNotD (tOfV (eCall F__law_are_ladders_told 1 (aCons (eVar 0) (aNil))))) (tNotD (tOfV (eCall F__law_are_charts_told 0 (aNil))))) (sRet (eC (.bl false))) (sNil))
  (sSeq (sAsg (eTup (aCons (eCall F_chain_ladder 1 (aCons (eC (.int 3)) (aNil))) (aCons (eCall F__law_pick 3 (aCons (eVar 0) (aCons (eC (.int 3)) (aCons (eC (.int 3)) (aNil))))) (aNil)))) (pTup (psCons (pName 1) (psCons (pName 2) (psNil)))))
  (sSeq (sSet 3 (eTup (aCons (eC (.int 2)) (aCons (eTup (aCons (eTup (aCons (eC (.int 0)) (aCons (eC (.int 1)) (aCons (eTup (aCons (eC (.int 1)) (aCons (eC (.int 2)) (aCons (eC (.int 2)) (aNil))))) (aNil))))) (aCons (eTup (aCons (eC (.int 1)) (aCons (eC (.int 0)) (aCons (eTup (aCons (eC (.int 0)) (aCons (eC (.int 0)) (aCons (eC (.int 1)) (aNil))))) (aNil))))) (aCons (eTup (aCons (eC (.int 0)) (aCons (eC (.int 0)) (aCons (eTup (aCons (eC (.int 0)) (aCons (eC (.int 2)) (aCons (eC (.int 2)) (aNil))))) (aNil))))) (aNil))))) (aCons (eTup (aCons (eTup (aCons (eC (.int 0)) (aCons (eVar 2) (aNil)))) (aCons (eTup (aCons (eC (.int 1)) (aCons (eC (.int 2)) (aNil)))) (aNil)))) (aNil))))))
  (sSeq (sIf (tOrD (tOfB (e2 dNe (eCall F__law_do 4 (aCons (eVar 1) (aCons (eVar 3) (aCons (eTup (aCons (eC (.str "begin")) (aCons (eC (.int 0)) (aNil)))) (aCons (eLst (aNil)) (aNil)))))) (eTup (aCons (eC (.int 0)) (aCons (eVar 2) (aNil)))))) (tOfB (e2 dNe (eCall F__law_do 4 (aCons (eVar 1) (aCons (eVar 3) (aCons (eTup (aCons (eC (.str "place")) (aCons (eC (.int 1)) (aNil)))) (aCons (eLst (aNil)) (aNil)))))) (eTup (aCons (eC (.int 1)) (aCons (eC (.int 0)) (aNil))))))) (sRet (eC (.bl false))) (sNil))
  (sSeq (sIf (tOfB (e2 dNe (eCall F__law_do 4 (aCons (eVar 1) (aCons (eVar 3) (aCons (eTup (aCons (eC (.str "begin")) (aCons (eC (.int 0)) (aNil)))) (aCons (eLst (aCons (eC (.int 2)) (aCons (eC (.int 0)) (aCons (eC (.int 1)) (aNil))))) (aNil)))))) (eTup (aCons (eC (.int 0)) (aCons (eIx (eLst (aCons (eC (.int 0)) (aCons (eC (.int 1)) (aCons (eC (.int 1)) (aNil))))) (eVar 2)) (aNil)))))) (sRet (eC (.bl false))) (sNil))
  (sSeq (sIf (tOfB (e2 dNe (eCall F__law_do 4 (aCons (eVar 1) (aCons (eVar 3) (aCons (eTup (aCons (eC (.str "begin")) (aCons (eC (.int 1)) (aNil)))) (aCons (eLst (aCons (eC (.int 1)) (aCons (eC (.int 2)) (aNil)))) (aNil)))))) (eTup (aCons (eC (.int 0)) (aCons (eC (.int 2)) (aNil)))))) (sRet (eC (.bl false))) (sNil))
  (sSeq (sSet 4 (eLst (aCons (eTup (aCons (eC (.str "begin")) (aCons (eC (.int 2)) (aNil)))) (aCons (eTup (aCons (eC (.str "begin")) (aCons (eNeg (eC (.int 1))) (aNil)))) (aCons (eTup (aCons (eC (.str "place")) (aCons (eC (.int 2)) (aNil)))) (aCons (eTup (aCons (eC (.str "place")) (aCons (eNeg (eC (.int 1))) (aNil)))) (aCons (eTup (aCons (eC (.str "way")) (aCons (eC (.int 0)) (aNil)))) (aCons (eTup (aCons (eC (.str "")) (aCons (eC (.int 0)) (aNil)))) (aCons (eTup (aCons (eC (.str "begin")) (aCons (eC (.int 99)) (aNil)))) (aNil))))))))))
  (sSeq (sDrop (eExt 4 (eLst (aCons (eTup (aCons (eC (.str "place")) (aCons (eC (.int 99)) (aNil)))) (aNil)))))
  (sSeq (sIf (tOfB (e2 dNe (eComp 1 (iVal (eVar 4)) (pName 6) (tYesD) (eCall F__law_do 4 (aCons (eVar 1) (aCons (eVar 3) (aCons (eVar 6) (aCons (eLst (aNil)) (aNil)))))) false) (eRepL (eLst (aCons (eC (.str "no step")) (aNil))) (eC (.int 8))))) (sRet (eC (.bl false))) (sNil))
  (sSeq (sSet 5 (eLst (aCons (eLst (aCons (eC (.int 3)) (aNil))) (aCons (eLst (aCons (eNeg (eC (.int 1))) (aNil))) (aCons (eLst (aCons (eC (.int 1)) (aNil))) (aCons (eLst (aCons (eC (.int 0)) (aCons (eC (.int 0)) (aNil)))) (aCons (eLst (aCons (eC (.int 2)) (aCons (eC (.int 1)) (aNil)))) (aCons (eLst (aCons (eC (.int 0)) (aCons (eC (.int 1)) (aCons (eC (.int 1)) (aNil))))) (aCons (eLst (aCons (eC (.int 2)) (aCons (eC (.int 2)) (aCons (eC (.int 3)) (aNil))))) (aCons (eLst (aCons (eC (.int 0)) (aCons (eNeg (eC (.int 2))) (aNil)))) (aNil)))))))))))
  (sRet (e2 dEq (eComp 1 (iVal (eVar 5)) (pName 6) (tYesD) (eCall F__law_do 4 (aCons (eVar 1) (aCons (eVar 3) (aCons (eTup (aCons (eC (.str "place")) (aCons (eC (.int 0)) (aNil)))) (aCons (eVar 6) (aNil)))))) false) (eRepL (eLst (aCons (eC (.str "no step")) (aNil))) (eC (.int 8))))))))))))))
noncomputable def F_law : List D → Option (D × Nat) := fnD 6 (d_law)
theorem sc_law : FnScope ["_law_script", "_law_three", "_law_worth", "_law_chart", "_law_odd", "_law_rows"] ["_law_script"] (defScope (top 54)) := ⟨rfl, rfl, rfl, by decide +kernel, rfl, by decide +kernel, by decide +kernel⟩
noncomputable abbrev n0_law : List Str := ["_law_script", "_law_three", "_law_worth", "_law_chart", "_law_odd", "_law_rows", "_law_start"]
theorem nd0_law : (n0_law).Nodup := by decide +kernel
noncomputable abbrev n1_law : List Str := ["_law_script", "_law_three", "_law_worth", "_law_chart", "_law_odd", "_law_rows", "_law_row"]
theorem nd1_law : (n1_law).Nodup := by decide +kernel
theorem law_ok' (B : Bt mg) (c__law_are_ladders_told : Cal P w K mg base 5 "_law_are_ladders_told" 1 F__law_are_ladders_told) (c__law_are_charts_told : Cal P w K mg base 9 "_law_are_charts_told" 0 F__law_are_charts_told) (c_chain_ladder : Cal P w K mg base 3 "chain_ladder" 1 F_chain_ladder) (c__law_pick : Cal P w K mg base 2 "_law_pick" 3 F__law_pick) (c__law_do : Cal P w K mg base 6 "_law_do" 4 F__law_do) {f : Addr} {fd : FuncData} (F : Fun K "law" "law" (top 54) f fd) : FnOk P w K mg base CX0 10 f fd ["_law_script"] (spD K 1 F_law) :=
  law_okQ (k := 9) F sc_law fun f cdv A outer s H E hr =>
    qds_cons (qds_if (qw_pt (qdw_or (qdt_not (qdt_val (qd_callC c__law_are_ladders_told hr (by decide) (qda_cons (qd_var (qv 0 rfl (Or.inl rfl))) (qda_nil) se_Name)))) (qdw_or1 (qdt_not (qdt_val (qd_call0 c__law_are_charts_told hr (by decide))))))) (qds_one (qds_ret (qd_bl))) (qds_nil))
    (qds_cons (qds_asg (qd_tup (qda_cons (qd_callC c_chain_ladder hr (by decide) (qda_cons (qd_int) (qda_nil) se_Constant)) (qda_cons (qd_callC c__law_pick hr (by decide) (qda_cons (qd_var (qv 0 rfl (Or.inl rfl))) (qda_cons (qd_int) (qda_cons (qd_int) (qda_nil) se_Constant) se_Constant) se_Name)) (qda_nil) se_Call) se_Call)) (qdg_tup (n := 2) rfl (qdgs_cons (qdg_name (i := 1) (show 0 ≤ 1 by decide) sc_law.nd rfl (Or.inr rfl)) (qdgs_cons (qdg_name (i := 2) (show 0 ≤ 2 by decide) sc_law.nd rfl (Or.inl rfl)) (qdgs_nil))) ps_len2))
    (qds_cons (qds_set (i := 3) sc_law.nd rfl (Or.inr rfl) (qd_tup (qda_cons (qd_int) (qda_cons (qd_tup (qda_cons (qd_tup (qda_cons (qd_int) (qda_cons (qd_int) (qda_cons (qd_tup (qda_cons (qd_int) (qda_cons (qd_int) (qda_cons (qd_int) (qda_nil) se_Constant) se_Constant) se_Constant)) (qda_nil) se_Tuple) se_Constant) se_Constant)) (qda_cons (qd_tup (qda_cons (qd_int) (qda_cons (qd_int) (qda_cons (qd_tup (qda_cons (qd_int) (qda_cons (qd_int) (qda_cons (qd_int) (qda_nil) se_Constant) se_Constant) se_Constant)) (qda_nil) se_Tuple) se_Constant) se_Constant)) (qda_cons (qd_tup (qda_cons (qd_int) (qda_cons (qd_int) (qda_cons (qd_tup (qda_cons (qd_int) (qda_cons (qd_int) (qda_cons (qd_int) (qda_nil) se_Constant) se_Constant) se_Constant)) (qda_nil) se_Tuple) se_Constant) se_Constant)) (qda_nil) se_Tuple) se_Tuple) se_Tuple)) (qda_cons (qd_tup (qda_cons (qd_tup (qda_cons (qd_int) (qda_cons (qd_var (qv 2 rfl (Or.inl rfl))) (qda_nil) se_Name) se_Constant)) (qda_cons (qd_tup (qda_cons (qd_int) (qda_cons (qd_int) (qda_nil) se_Constant) se_Constant)) (qda_nil) se_Tuple) se_Tuple)) (qda_nil) se_Tuple) se_Tuple) se_Constant)))
    (qds_cons (qds_if (qw_pt (qdw_or (qdt_ne hr (qd_callC c__law_do hr (by decide) (qda_cons (qd_var (qv 1 rfl (Or.inr (Or.inl rfl)))) (qda_cons (qd_var (qv 3 rfl (Or.inr (Or.inl rfl)))) (qda_cons (qd_tup (qda_cons (qd_str) (qda_cons (qd_int) (qda_nil) se_Constant) se_Constant)) (qda_cons (qd_lst (qda_nil)) (qda_nil) se_List) se_Tuple) se_Name) se_Name)) (qd_tup (qda_cons (qd_int) (qda_cons (qd_var (qv 2 rfl (Or.inl rfl))) (qda_nil) se_Name) se_Constant))) (qdw_or1 (qdt_ne hr (qd_callC c__law_do hr (by decide) (qda_cons (qd_var (qv 1 rfl (Or.inr (Or.inl rfl)))) (qda_cons (qd_var (qv 3 rfl (Or.inr (Or.inl rfl)))) (qda_cons (qd_tup (qda_cons (qd_str) (qda_cons (qd_int) (qda_nil) se_Constant) se_Constant)) (qda_cons (qd_lst (qda_nil)) (qda_nil) se_List) se_Tuple) se_Name) se_Name)) (qd_tup (qda_cons (qd_int) (qda_cons (qd_int) (qda_nil) se_Constant) se_Constant)))))) (qds_one (qds_ret (qd_bl))) (qds_nil))
    (qds_cons (qds_if (qdt_ne hr (qd_callC c__law_do hr (by decide) (qda_cons (qd_var (qv 1 rfl (Or.inr (Or.inl rfl)))) (qda_cons (qd_var (qv 3 rfl (Or.inr (Or.inl rfl)))) (qda_cons (qd_tup (qda_cons (qd_str) (qda_cons (qd_int) (qda_nil) se_Constant) se_Constant)) (qda_cons (qd_lst (qda_cons (qd_int) (qda_cons (qd_int) (qda_cons (qd_int) (qda_nil) se_Constant) se_Constant) se_Constant)) (qda_nil) se_List) se_Tuple) se_Name) se_Name)) (qd_tup (qda_cons (qd_int) (qda_cons (qd_ix (qd_lst (qda_cons (qd_int) (qda_cons (qd_int) (qda_cons (qd_int) (qda_nil) se_Constant) se_Constant) se_Constant)) (qd_var (qv 2 rfl (Or.inl rfl)))) (qda_nil) se_Subscript) se_Constant))) (qds_one (qds_ret (qd_bl))) (qds_nil))
    (qds_cons (qds_if (qdt_ne hr (qd_callC c__law_do hr (by decide) (qda_cons (qd_var (qv 1 rfl (Or.inr (Or.inl rfl)))) (qda_cons (qd_var (qv 3 rfl (Or.inr (Or.inl rfl)))) (qda_cons (qd_tup (qda_cons (qd_str) (qda_cons (qd_int) (qda_nil) se_Constant) se_Constant)) (qda_cons (qd_lst (qda_cons (qd_int) (qda_cons (qd_int) (qda_nil) se_Constant) se_Constant)) (qda_nil) se_List) se_Tuple) se_Name) se_Name)) (qd_tup (qda_cons (qd_int) (qda_cons (qd_int) (qda_nil) se_Constant) se_Constant))) (qds_one (qds_ret (qd_bl))) (qds_nil))
    (qds_cons (qds_set (i := 4) sc_law.nd rfl (Or.inl rfl) (qd_lst (qda_cons (qd_tup (qda_cons (qd_str) (qda_cons (qd_int) (qda_nil) se_Constant) se_Constant)) (qda_cons (qd_tup (qda_cons (qd_str) (qda_cons (qd_neg (qd_int)) (qda_nil) se_UnaryOp) se_Constant)) (qda_cons (qd_tup (qda_cons (qd_str) (qda_cons (qd_int) (qda_nil) se_Constant) se_Constant)) (qda_cons (qd_tup (qda_cons (qd_str) (qda_cons (qd_neg (qd_int)) (qda_nil) se_UnaryOp) se_Constant)) (qda_cons (qd_tup (qda_cons (qd_str) (qda_cons (qd_int) (qda_nil) se_Constant) se_Constant)) (qda_cons (qd_tup (qda_cons (qd_str) (qda_cons (qd_int) (qda_nil) se_Constant) se_Constant)) (qda_cons (qd_tup (qda_cons (qd_str) (qda_cons (qd_int) (qda_nil) se_Constant) se_Constant)) (qda_nil) se_Tuple) se_Tuple) se_Tuple) se_Tuple) se_Tuple) se_Tuple) se_Tuple)))
    (qds_cons (qds_expr (qd_extend (qv 4 rfl (Or.inl rfl)) (qd_lst (qda_cons (qd_tup (qda_cons (qd_str) (qda_cons (qd_int) (qda_nil) se_Constant) se_Constant)) (qda_nil) se_Tuple))))
    (qds_cons (qds_if (qdt_ne hr (qd_comp (k := 1) (N' := n0_law) false rfl ⟨rfl, by decide +kernel, rfl, rfl, rfl⟩ (qdi_val (qd_var (qv 4 rfl (Or.inl rfl)))) (fun _ _ _ _ => qdg_name (i := 6) (show 6 ≤ 6 by decide) nd0_law rfl (Or.inl rfl) (Or.inr rfl)) (fun _ _ _ _ => qdts_nil) (fun _ _ _ _ => qd_callC c__law_do hr (by decide) (qda_cons (qd_var (qv 1)) (qda_cons (qd_var (qv 3)) (qda_cons (qd_var (qv 6)) (qda_cons (qd_lst (qda_nil)) (qda_nil) se_List) se_Name) se_Name) se_Name))) (qd_repL (qd_lst (qda_cons (qd_str) (qda_nil) se_Constant)) (qd_int))) (qds_one (qds_ret (qd_bl))) (qds_nil))
    (qds_cons (qds_set (i := 5) sc_law.nd rfl (Or.inl rfl) (qd_lst (qda_cons (qd_lst (qda_cons (qd_int) (qda_nil) se_Constant)) (qda_cons (qd_lst (qda_cons (qd_neg (qd_int)) (qda_nil) se_UnaryOp)) (qda_cons (qd_lst (qda_cons (qd_int) (qda_nil) se_Constant)) (qda_cons (qd_lst (qda_cons (qd_int) (qda_cons (qd_int) (qda_nil) se_Constant) se_Constant)) (qda_cons (qd_lst (qda_cons (qd_int) (qda_cons (qd_int) (qda_nil) se_Constant) se_Constant)) (qda_cons (qd_lst (qda_cons (qd_int) (qda_cons (qd_int) (qda_cons (qd_int) (qda_nil) se_Constant) se_Constant) se_Constant)) (qda_cons (qd_lst (qda_cons (qd_int) (qda_cons (qd_int) (qda_cons (qd_int) (qda_nil) se_Constant) se_Constant) se_Constant)) (qda_cons (qd_lst (qda_cons (qd_int) (qda_cons (qd_neg (qd_int)) (qda_nil) se_UnaryOp) se_Constant)) (qda_nil) se_List) se_List) se_List) se_List) se_List) se_List) se_List) se_List)))
    (qds_one (qds_ret (qd_eq hr (qd_comp (k := 1) (N' := n1_law) false rfl ⟨rfl, by decide +kernel, rfl, rfl, rfl⟩ (qdi_val (qd_var (qv 5 rfl (Or.inl rfl)))) (fun _ _ _ _ => qdg_name (i := 6) (show 6 ≤ 6 by decide) nd1_law rfl (Or.inl rfl) (Or.inr rfl)) (fun _ _ _ _ => qdts_nil) (fun _ _ _ _ => qd_callC c__law_do hr (by decide) (qda_cons (qd_var (qv 1)) (qda_cons (qd_var (qv 3)) (qda_cons (qd_tup (qda_cons (qd_str) (qda_cons (qd_int) (qda_nil) se_Constant) se_Constant)) (qda_cons (qd_var (qv 6)) (qda_nil) se_Name) se_Tuple) se_Name) se_Name))) (qd_repL (qd_lst (qda_cons (qd_str) (qda_nil) se_Constant)) (qd_int))))))))))))))
end
end My
set_option Elab.async false
set_option linter.all false
set_option maxRecDepth 100000
set_option maxHeartbeats 1000000
namespace My
open PySem PySem.Spec PyProof.Rows L2 L3
noncomputable abbrev scr (ns : List Int) : D := .lst (ns.map D.int)
noncomputable def cellI (ns : List Int) (k : Int) : Int := if k < ns.length then ns.getD k.toNat 0 else if ns = [] then 0 else ns.getD (k % ns.length).toNat 0 * 31 + k
theorem scr_at {ns : List Int} {k : Int} (h0 : 0 ≤ k) (h : k < ns.length) : L2.atI (ns.map D.int) k = some (.int (ns.getD k.toNat 0)) := by
  obtain ⟨m, rfl⟩ : ∃ m : Nat, k = Int.ofNat m := ⟨k.toNat, by show k = (k.toNat : Int); omega⟩
  have hk : m < ns.length := by have : (m : Int) < ns.length := h; omega
  apply atI_of
  rw [List.getElem?_map, List.getElem?_eq_getElem hk]
  simp [hk]
theorem sh_scr (ns : List Int) : Sh 1 (scr ns) := .lst fun d m => by
  obtain ⟨x, _, rfl⟩ := List.mem_map.mp m
  exact .int _
theorem eq_scr (ns : List Int) : dEq (scr ns) (.lst []) = some (.bl (decide (ns = []))) := by
  unfold dEq
  rw [if_pos ⟨(sh_scr ns).ok, (sh_L []).ok⟩]
  cases ns <;> rfl
theorem cell_ok (ns : List Int) (k : Int) (h0 : 0 ≤ k) : F__law_cell [scr ns, .int k] = some (.int (cellI ns k), 9) := by
  unfold F__law_cell d__law_cell cellI
  by_cases h : k < ns.length
  · simp [h, scr_at h0 h, lenD, atD]
  · by_cases hn : ns = []
    · subst hn
      have h' : ¬ k < 0 := by omega
      simp [h', lenD, eq_scr]
    · have hp : (0 : Int) < ns.length := by have := List.length_pos_iff.mpr hn; omega
      have h1 := Int.emod_nonneg k (Int.ne_of_gt hp)
      have h2 := Int.emod_lt_of_pos k hp
      have h3 := scr_at h1 h2
      have hp' := List.length_pos_iff.mpr hn
      simp [h, lenD, atD, eq_scr, hn, hp', h3]
noncomputable def drawnI (ns : List Int) (k : Int) : Int := (cellI ns k + 6151 * (k + 1)) * 40692 % 2147483399
noncomputable def pickI (ns : List Int) (k m : Int) : Int := (drawnI ns k * drawnI ns k + drawnI ns k / 31) % 2147483629 % m
theorem pick_ok (ns : List Int) (k m : Int) (h0 : 0 ≤ k) (hm : 0 < m) : F__law_pick [scr ns, .int k, .int m] = some (.int (pickI ns k m), 9) := by
  have d0 : 0 ≤ drawnI ns k := Int.emod_nonneg _ (by decide)
  have d1 : drawnI ns k < 2147483399 := Int.emod_lt_of_pos _ (by decide)
  have g1 : -18446744073709551616 < drawnI ns k := by omega
  have g2 : drawnI ns k < 18446744073709551616 := by omega
  have hd : (cellI ns k + 6151 * (k + 1)) * 40692 % 2147483399 = drawnI ns k := rfl
  unfold F__law_pick d__law_pick pickI
  simp [cell_ok ns k h0, hm, hd, g1, g2]
theorem pick_lo (ns : List Int) (k : Int) {m : Int} (hm : 0 < m) : 0 ≤ pickI ns k m := Int.emod_nonneg _ (Int.ne_of_gt hm)
theorem pick_hi (ns : List Int) (k : Int) {m : Int} (hm : 0 < m) : pickI ns k m < m := Int.emod_lt_of_pos _ hm
noncomputable def ch (n : Nat) : List (List Nat) := (List.range n).map fun i => (List.range n).map fun j => max i j
noncomputable def sb (n : Nat) : List (List Nat) := (List.range (n + 2)).map fun i => (List.range (n + 2)).map fun j => if i = 0 ∨ j = 0 ∨ i = j then max i j else n + 1
theorem rng_len {n : Nat} (hn : n ≤ 1000) {i : Nat} {ρ : Rho} {d : D} {q : Nat} (h : ρ[i]? = some (some (d, q))) (hl : lenD d = some n) : iRange (aCons (eLenV i) aNil) ρ = some (rangeD n, ρ) := by
  have b1 : (-1000 : Int) ≤ Int.ofNat n := by show (-1000 : Int) ≤ n; omega
  have b2 : Int.ofNat n ≤ 1000 := by show (n : Int) ≤ 1000; omega
  simp only [iRange, aCons, eLenV, aNil, h, hl]
  rw [if_pos ⟨b1, b2⟩]
  rfl
end My
set_option Elab.async false
set_option linter.all false
set_option maxRecDepth 100000
set_option maxHeartbeats 1000000
namespace My
open PySem PySem.Spec PyProof.Rows L2 L3
noncomputable def isNum (n : Nat) : D → Bool
  | .int i => decide (0 ≤ i) && decide (i < (n : Int))
  | _ => false
noncomputable def isRow (m n : Nat) : D → Bool
  | .tup ds => decide (ds.length = m) && ds.all (isNum n)
  | _ => false
theorem is_whole_ok (d : D) : F_is_whole [d] = some (.bl (match d with | .int _ => true | _ => false), 9) := by
  unfold F_is_whole d_is_whole
  cases d <;> simp [isD]
theorem is_number_ok (n : Nat) (d : D) : F_is_number_of [d, .int (Int.ofNat n)] = some (.bl (isNum n d), 9) := by
  unfold F_is_number_of d_is_number_of
  cases d with
  | int i =>
    have h := is_whole_ok (.int i)
    by_cases h0 : 0 ≤ i
    · by_cases h1 : i < (n : Int)
      · simp [h, isNum, h0, h1]
      · simp [h, isNum, h0, h1]
    · simp [h, isNum, h0]
  | non => simp [is_whole_ok, isNum]
  | bl b => simp [is_whole_ok, isNum]
  | str x => simp [is_whole_ok, isNum]
  | tup ds => simp [is_whole_ok, isNum]
  | lst ds => simp [is_whole_ok, isNum]
  | dic ks ds => simp [is_whole_ok, isNum]
  | exc nm => simp [is_whole_ok, isNum]
  | ob f fo vs ds => simp [is_whole_ok, isNum]
theorem is_row_ok (m n : Nat) (d : D) (hl : ∀ ds, d = .tup ds → ds.length ≤ 1000) : F_is_row_of [d, .int (Int.ofNat m), .int (Int.ofNat n)] = some (.bl (isRow m n d), 9) := by
  unfold F_is_row_of d_is_row_of
  cases d with
  | tup ds =>
    have hl := hl ds rfl
    refine fnD_rt ?_
    have hs : startD 3 [.tup ds, .int (Int.ofNat m), .int (Int.ofNat n)] = [some (.tup ds, 9), some (.int (Int.ofNat m), 9), some (.int (Int.ofNat n), 9)] := rfl
    rw [hs]
    by_cases hm : ds.length = m
    · refine (sSeq_nx (ρ1 := [some (.tup ds, 9), some (.int (Int.ofNat m), 9), some (.int (Int.ofNat n), 9)]) ?_).trans ?_
      · simp [-Int.ofNat_eq_natCast, isD, lenD, hm, dNe_nat]
      · have hi : iVal (eVar 0) [some (.tup ds, 9), some (.int (Int.ofNat m), 9), some (.int (Int.ofNat n), 9)] = some (ds, [some (.tup ds, 9), some (.int (Int.ofNat m), 9), some (.int (Int.ofNat n), 9)]) := by simp [hl]
        have hc := compD_fn (k := 1) (pt := pName 3) (tt := tYesD) (te := eCall F_is_number_of 2 (aCons (eVar 3) (aCons (eVar 2) (aNil)))) (deep := false) ds (fun _ => [some (.tup ds, 9), some (.int (Int.ofNat m), 9), some (.int (Int.ofNat n), 9)]) (fun _ => true) (fun i => .bl (isNum n (ds.getD i .non))) (fun i hi => by
          have hg : ds.getD i .non = ds[i] := by simp [hi]
          refine ⟨[some (.tup ds, 9), some (.int (Int.ofNat m), 9), some (.int (Int.ofNat n), 9), some (ds[i], dep0 ds[i])], [some (.tup ds, 9), some (.int (Int.ofNat m), 9), some (.int (Int.ofNat n), 9), some (ds[i], dep0 ds[i])], by simp [-dep0], rfl, ?_⟩
          rw [if_pos rfl]
          refine ⟨9, [some (.tup ds, 9), some (.int (Int.ofNat m), 9), some (.int (Int.ofNat n), 9), some (ds[i], dep0 ds[i])], ?_, by simp, by simp⟩
          have hv : ∃ q, eVar 3 [some (.tup ds, 9), some (.int (Int.ofNat m), 9), some (.int (Int.ofNat n), 9), some (ds[i], dep0 ds[i])] = some (ds[i], q, [some (.tup ds, 9), some (.int (Int.ofNat m), 9), some (.int (Int.ofNat n), 9), some (ds[i], dep0 ds[i])]) := by
            cases hL : (ds[i]).isL with
            | false => exact ⟨9, by simp [-dep0, hL]⟩
            | true => exact ⟨0, by simp [hL]⟩
          obtain ⟨q, hv⟩ := hv
          rw [hg]
          exact eCall_eq (aCons_eq hv (aCons_1 (q := 9) rfl)) rfl (is_number_ok n _))
        rw [show (List.range ds.length).filter (fun _ => true) = List.range ds.length by simp] at hc
        have e : (List.range ds.length).map (fun i => D.bl (isNum n (ds.getD i .non))) = ds.map fun d => .bl (isNum n d) := by
          apply List.ext_getElem?
          intro k
          by_cases hk : k < ds.length
          · simp [hk]
          · rw [List.getElem?_eq_none (by simp; omega), List.getElem?_eq_none (by simp; omega)]
        rw [e] at hc
        refine sRet_eq (eB_eq (aCons_1 (eComp_eq (deep := false) hi hc)) ?_)
        simp only [bAll, unBl_map, Option.map_some, isRow, hm]
        simp [List.all_map, Function.comp_def]
    · have e : isRow m n (.tup ds) = false := by simp [isRow, hm]
      rw [e]
      refine sSeq_rt ?_
      simp [-Int.ofNat_eq_natCast, isD, lenD, dNe_nat, hm]
  | non => simp [isD, isRow]
  | bl b => simp [isD, isRow]
  | int i => simp [isD, isRow]
  | str x => simp [isD, isRow]
  | lst ds => simp [isD, isRow]
  | dic ks ds => simp [isD, isRow]
  | exc nm => simp [isD, isRow]
  | ob f fo vs ds => simp [isD, isRow]
theorem isRow_rule {n : Nat} {r : Nat → Nat} (hr : ∀ i, i < n → r i < n) : isRow n n (ruleT n r) = true := by
  unfold isRow ruleT
  simp only [nums_len, List.length_map, List.length_range, decide_true, Bool.true_and]
  rw [List.all_eq_true]
  intro d m
  obtain ⟨x, hx, rfl⟩ := List.mem_map.mp m
  obtain ⟨i, hi, rfl⟩ := List.mem_map.mp hx
  have := hr i (List.mem_range.mp hi)
  show (decide ((0 : Int) ≤ (r i : Int)) && decide ((r i : Int) < (n : Int))) = true
  simp; omega
end My
set_option Elab.async false
set_option linter.all false
set_option maxRecDepth 100000
set_option maxHeartbeats 1000000
namespace My
open PySem PySem.Spec PyProof.Rows L2 L3
end My
set_option Elab.async false
set_option linter.all false
set_option maxRecDepth 100000
set_option maxHeartbeats 1000000
namespace My
open PySem PySem.Spec PyProof.Rows L2 L3
section
variable {n : Nat} {f : Nat → Nat → Nat}
theorem rng_varL {n : Nat} (hn : n ≤ 1000) {i q : Nat} {ρ : Rho} (h : ρ[i]? = some (some (.int (Int.ofNat n), q))) : iRange (aCons (eVar i) aNil) ρ = some (rangeD n, ρ) := by
  have b1 : (-1000 : Int) ≤ Int.ofNat n := by show (-1000 : Int) ≤ n; omega
  have b2 : Int.ofNat n ≤ 1000 := by show (n : Int) ≤ 1000; omega
  simp only [iRange, aCons, eVar, aNil, h, D.isL_int, if_true]
  rw [if_pos ⟨b1, b2⟩]
  rfl
theorem rangeD_at {n i : Nat} (h : i < (rangeD n).length) : (rangeD n)[i] = .int (Int.ofNat i) := by simp [rangeD]
theorem stay_ok (hn : n ≤ 1000) : F_joins_with_itself_stay [tabT n f] = some (.bl ((List.range n).all fun x => decide (f x x = x)), 9) := by
  unfold F_joins_with_itself_stay d_joins_with_itself_stay
  refine fnD_rt (sRet_eq (ρ1 := [some (tabT n f, 9)]) ?_)
  have hc := eComp_eq (k := 1) (tt := tYesD) (te := e2 dEq (eIx (eIxV 0 (eVar 1)) (eVar 1)) (eVar 1)) (deep := false) (rng_len hn (i := 0) (ρ := [some (tabT n f, 9)]) rfl len_tabT) (comp1 (i := 1) rfl (fun _ => true) (fun x => .bl (decide (f x x = x))) (fun _ => 9) (fun j hj => rfl) (fun j hj _ => by
    simp [-Int.ofNat_eq_natCast, at_tabT hj, at_rowT hj, dEq_nat]))
  rw [show (List.range n).filter (fun _ => true) = List.range n by simp] at hc
  refine eB_eq (aCons_1 hc) ?_
  simp only [bAll, unBl_map, Option.map_some]
  simp [List.all_map, Function.comp_def]
theorem either_ok (hn : n ≤ 1000) : F_joins_are_either_way [tabT n f] = some (.bl ((List.range n).all fun x => (List.range x).all fun y => decide (f x y = f y x)), 9) := by
  unfold F_joins_are_either_way d_joins_are_either_way
  refine fnD_rt ?_
  have hs : startD 3 [tabT n f] = [some (tabT n f, 9), none, none] := rfl
  rw [hs]
  obtain ⟨h1, h2⟩ := forD_chk (pt := pName 1) (body := sFor (iRange (aCons (eVar 1) (aNil))) (pName 2) (sIf (tOfB (e2 dNe (eIx (eIxV 0 (eVar 1)) (eVar 2)) (eIx (eIxV 0 (eVar 2)) (eVar 1)))) (sRet (eC (.bl false))) (sNil))) (d := .bl false) (q := 9) (rangeD n) (fun ρ => ∃ x y, ρ = [some (tabT n f, 9), x, y]) (fun x => (List.range x).all fun y => decide (f x y = f y x)) [some (tabT n f, 9), none, none] (fun x hx ρ ⟨a, b, e⟩ => by
    subst e
    have hx' : x < n := by rw [rangeD_len] at hx; exact hx
    have hx1 : x ≤ 1000 := by omega
    refine ⟨[some (tabT n f, 9), some (.int (Int.ofNat x), 9), b], by rw [rangeD_at]; simp, ?_⟩
    obtain ⟨i1, i2⟩ := forD_chk (pt := pName 2) (body := sIf (tOfB (e2 dNe (eIx (eIxV 0 (eVar 1)) (eVar 2)) (eIx (eIxV 0 (eVar 2)) (eVar 1)))) (sRet (eC (.bl false))) (sNil)) (d := .bl false) (q := 9) (rangeD x) (fun ρ => ∃ y, ρ = [some (tabT n f, 9), some (.int (Int.ofNat x), 9), y]) (fun y => decide (f x y = f y x)) [some (tabT n f, 9), some (.int (Int.ofNat x), 9), b] (fun y hy ρ ⟨b, e⟩ => by
      subst e
      have hy'' : y < x := by rw [rangeD_len] at hy; exact hy
      have hy' : y < n := Nat.lt_trans hy'' hx'
      refine ⟨[some (tabT n f, 9), some (.int (Int.ofNat x), 9), some (.int (Int.ofNat y), 9)], by rw [rangeD_at]; simp, fun ok => ⟨[some (tabT n f, 9), some (.int (Int.ofNat x), 9), some (.int (Int.ofNat y), 9)], ?_, ⟨_, rfl⟩⟩, fun no => ?_⟩
      · have ok' := of_decide_eq_true ok
        simp [-Int.ofNat_eq_natCast, at_tabT hx', at_rowT hy', at_tabT hy', at_rowT hx', dNe_nat, ok']
      · have no' := of_decide_eq_false no
        simp [-Int.ofNat_eq_natCast, at_tabT hx', at_rowT hy', at_tabT hy', at_rowT hx', dNe_nat, no']) ⟨b, rfl⟩
    rw [rangeD_len] at i1 i2
    refine ⟨fun ok => ?_, fun no => (sFor_eq (rng_varL hx1 (i := 1) (q := 9) rfl)).trans (i2 no)⟩
    obtain ⟨ρ2, e, b', rfl⟩ := i1 ok
    exact ⟨_, (sFor_eq (rng_varL hx1 (i := 1) (q := 9) rfl)).trans e, _, _, rfl⟩) ⟨none, none, rfl⟩
  rw [rangeD_len] at h1 h2
  cases h : ((List.range n).all fun x => (List.range x).all fun y => decide (f x y = f y x)) with
  | true =>
    obtain ⟨ρ', e, x, y, rfl⟩ := h1 h
    exact (sSeq_nx ((sFor_eq (rng_len hn rfl len_tabT)).trans e)).trans rfl
  | false => exact sSeq_rt ((sFor_eq (rng_len hn rfl len_tabT)).trans (h2 h))
theorem ends_ok (hn : n ≤ 1000) (cl : ∀ i j, i < n → j < n → f i j < n) : F_joins_are_from_either_end [tabT n f] = some (.bl ((List.range n).all fun x => (List.range n).all fun y => (List.range n).all fun z => decide (f (f x y) z = f x (f y z))), 9) := by
  unfold F_joins_are_from_either_end d_joins_are_from_either_end
  refine fnD_rt ?_
  refine (sSeq_nx (ρ1 := [some (tabT n f, 9), some (.int (Int.ofNat n), 9), none, none, none]) (by simp [len_tabT])).trans ?_
  have hR : ∀ ρ : Rho, ρ[1]? = some (some (.int (Int.ofNat n), 9)) → iRange (aCons (eVar 1) aNil) ρ = some (rangeD n, ρ) := fun ρ h => rng_varL hn h
  obtain ⟨h1, h2⟩ := forD_chk (pt := pName 2) (body := sFor (iRange (aCons (eVar 1) (aNil))) (pName 3) (sFor (iRange (aCons (eVar 1) (aNil))) (pName 4) (sIf (tOfB (e2 dNe (eIx (eIxV 0 (eIx (eIxV 0 (eVar 2)) (eVar 3))) (eVar 4)) (eIx (eIxV 0 (eVar 2)) (eIx (eIxV 0 (eVar 3)) (eVar 4))))) (sRet (eC (.bl false))) (sNil)))) (d := .bl false) (q := 9) (rangeD n) (fun ρ => ∃ x y z, ρ = [some (tabT n f, 9), some (.int (Int.ofNat n), 9), x, y, z]) (fun x => (List.range n).all fun y => (List.range n).all fun z => decide (f (f x y) z = f x (f y z))) [some (tabT n f, 9), some (.int (Int.ofNat n), 9), none, none, none] (fun x hx ρ ⟨a, b, c, e⟩ => by
    subst e
    have hx' : x < n := by rw [rangeD_len] at hx; exact hx
    refine ⟨[some (tabT n f, 9), some (.int (Int.ofNat n), 9), some (.int (Int.ofNat x), 9), b, c], by rw [rangeD_at]; simp, ?_⟩
    obtain ⟨i1, i2⟩ := forD_chk (pt := pName 3) (body := sFor (iRange (aCons (eVar 1) (aNil))) (pName 4) (sIf (tOfB (e2 dNe (eIx (eIxV 0 (eIx (eIxV 0 (eVar 2)) (eVar 3))) (eVar 4)) (eIx (eIxV 0 (eVar 2)) (eIx (eIxV 0 (eVar 3)) (eVar 4))))) (sRet (eC (.bl false))) (sNil))) (d := .bl false) (q := 9) (rangeD n) (fun ρ => ∃ y z, ρ = [some (tabT n f, 9), some (.int (Int.ofNat n), 9), some (.int (Int.ofNat x), 9), y, z]) (fun y => (List.range n).all fun z => decide (f (f x y) z = f x (f y z))) [some (tabT n f, 9), some (.int (Int.ofNat n), 9), some (.int (Int.ofNat x), 9), b, c] (fun y hy ρ ⟨b, c, e⟩ => by
      subst e
      have hy' : y < n := by rw [rangeD_len] at hy; exact hy
      refine ⟨[some (tabT n f, 9), some (.int (Int.ofNat n), 9), some (.int (Int.ofNat x), 9), some (.int (Int.ofNat y), 9), c], by rw [rangeD_at]; simp, ?_⟩
      obtain ⟨j1, j2⟩ := forD_chk (pt := pName 4) (body := sIf (tOfB (e2 dNe (eIx (eIxV 0 (eIx (eIxV 0 (eVar 2)) (eVar 3))) (eVar 4)) (eIx (eIxV 0 (eVar 2)) (eIx (eIxV 0 (eVar 3)) (eVar 4))))) (sRet (eC (.bl false))) (sNil)) (d := .bl false) (q := 9) (rangeD n) (fun ρ => ∃ z, ρ = [some (tabT n f, 9), some (.int (Int.ofNat n), 9), some (.int (Int.ofNat x), 9), some (.int (Int.ofNat y), 9), z]) (fun z => decide (f (f x y) z = f x (f y z))) [some (tabT n f, 9), some (.int (Int.ofNat n), 9), some (.int (Int.ofNat x), 9), some (.int (Int.ofNat y), 9), c] (fun z hz ρ ⟨c, e⟩ => by
        subst e
        have hz' : z < n := by rw [rangeD_len] at hz; exact hz
        have hxy := cl x y hx' hy'
        have hyz := cl y z hy' hz'
        refine ⟨[some (tabT n f, 9), some (.int (Int.ofNat n), 9), some (.int (Int.ofNat x), 9), some (.int (Int.ofNat y), 9), some (.int (Int.ofNat z), 9)], by rw [rangeD_at]; simp, fun ok => ⟨[some (tabT n f, 9), some (.int (Int.ofNat n), 9), some (.int (Int.ofNat x), 9), some (.int (Int.ofNat y), 9), some (.int (Int.ofNat z), 9)], ?_, ⟨_, rfl⟩⟩, fun no => ?_⟩
        · have ok' := of_decide_eq_true ok
          simp [-Int.ofNat_eq_natCast, at_tabT hx', at_tabT hy', at_tabT hxy, at_rowT hy', at_rowT hz', at_rowT hyz, dNe_nat, ok']
        · have no' := of_decide_eq_false no
          simp [-Int.ofNat_eq_natCast, at_tabT hx', at_tabT hy', at_tabT hxy, at_rowT hy', at_rowT hz', at_rowT hyz, dNe_nat, no']) ⟨c, rfl⟩
      rw [rangeD_len] at j1 j2
      refine ⟨fun ok => ?_, fun no => (sFor_eq (hR _ rfl)).trans (j2 no)⟩
      obtain ⟨ρ2, e, c', rfl⟩ := j1 ok
      exact ⟨_, (sFor_eq (hR _ rfl)).trans e, _, _, rfl⟩) ⟨b, c, rfl⟩
    rw [rangeD_len] at i1 i2
    refine ⟨fun ok => ?_, fun no => (sFor_eq (hR _ rfl)).trans (i2 no)⟩
    obtain ⟨ρ2, e, b', c', rfl⟩ := i1 ok
    exact ⟨_, (sFor_eq (hR _ rfl)).trans e, _, _, _, rfl⟩) ⟨none, none, none, rfl⟩
  rw [rangeD_len] at h1 h2
  cases h : ((List.range n).all fun x => (List.range n).all fun y => (List.range n).all fun z => decide (f (f x y) z = f x (f y z))) with
  | true =>
    obtain ⟨ρ', e, x, y, z, rfl⟩ := h1 h
    exact (sSeq_nx ((sFor_eq (hR _ rfl)).trans e)).trans rfl
  | false => exact sSeq_rt ((sFor_eq (hR _ rfl)).trans (h2 h))
noncomputable def leastB (n : Nat) (f : Nat → Nat → Nat) : Bool := (List.range n).any fun z => decide ((List.range n).map (fun j => f z j) = List.range n)
theorem has_least_ok (hn : n ≤ 1000) : F_has_least [tabT n f] = some (.bl (leastB n f), 9) := by
  have b1 : (-1000 : Int) ≤ Int.ofNat n := by show (-1000 : Int) ≤ n; omega
  have b2 : Int.ofNat n ≤ 1000 := by show (n : Int) ≤ 1000; omega
  have hr : F_row_of_least [.int (Int.ofNat n)] = some (.tup (nums (List.range n)), 9) := by
    unfold F_row_of_least d_row_of_least
    simp [-Int.ofNat_eq_natCast, b1, b2]
    rfl
  have hi : dIn (.tup (nums (List.range n))) (tabT n f) = some (.bl (leastB n f)) := by
    unfold dIn
    rw [if_pos ⟨(sh_T _).ok, (sh_tabT n f).ok⟩]
    have e : inD (.tup (nums (List.range n))) (tabT n f) = some (leastB n f) := by
      show some ((toPs ((List.range n).map fun i => rowT n f i)).any fun y => PyData.eqv y (toP (.tup (nums (List.range n))))) = some (leastB n f)
      rw [toPs_map, List.map_map, List.any_map]
      unfold leastB
      congr 1
      refine congrArg (fun p => (List.range n).any p) (funext fun z => ?_)
      exact eqD_T _ _
    rw [e]
    rfl
  unfold F_has_least d_has_least
  simp [-Int.ofNat_eq_natCast, len_tabT, hr, hi]
end
end My
set_option Elab.async false
set_option linter.all false
set_option maxRecDepth 100000
set_option maxHeartbeats 1000000
namespace My
open PySem PySem.Spec PyProof.Rows L2 L3
noncomputable def ladP (n : Nat) (f : Nat → Nat → Nat) : Bool := ((List.range n).all fun x => decide (f x x = x)) && ((List.range n).all fun x => (List.range x).all fun y => decide (f x y = f y x)) &&
  (((List.range n).all fun x => (List.range n).all fun y => (List.range n).all fun z => decide (f (f x y) z = f x (f y z))) && leastB n f)
theorem rows_all {m : Nat} (hm : m ≤ 1000) (ds : List D) (hl : ∀ d ∈ ds, ∀ es, d = .tup es → es.length ≤ 1000) : eB bAll (aCons (eComp 1 (iVal (eVar 0)) (pName 2) (tYesD) (eCall F_is_row_of 3 (aCons (eVar 2) (aCons (eVar 1) (aCons (eVar 1) (aNil))))) false) (aNil)) [some (.tup ds, 9), some (.int (Int.ofNat m), 9)] = (if ds.length ≤ 1000 then some (.bl (ds.all (isRow m m)), 9, [some (.tup ds, 9), some (.int (Int.ofNat m), 9)]) else none) := by
  by_cases h1 : ds.length ≤ 1000
  · rw [if_pos h1]
    have hi : iVal (eVar 0) [some (.tup ds, 9), some (.int (Int.ofNat m), 9)] = some (ds, [some (.tup ds, 9), some (.int (Int.ofNat m), 9)]) := by simp [h1]
    have hc := compD_fn (k := 1) (pt := pName 2) (tt := tYesD) (te := eCall F_is_row_of 3 (aCons (eVar 2) (aCons (eVar 1) (aCons (eVar 1) (aNil))))) (deep := false) ds (fun _ => [some (.tup ds, 9), some (.int (Int.ofNat m), 9)]) (fun _ => true) (fun i => .bl (isRow m m (ds.getD i .non))) (fun i hi => by
      have hg : ds.getD i .non = ds[i] := by simp [hi]
      refine ⟨[some (.tup ds, 9), some (.int (Int.ofNat m), 9), some (ds[i], dep0 ds[i])], [some (.tup ds, 9), some (.int (Int.ofNat m), 9), some (ds[i], dep0 ds[i])], by simp [-dep0], rfl, ?_⟩
      rw [if_pos rfl]
      refine ⟨9, [some (.tup ds, 9), some (.int (Int.ofNat m), 9), some (ds[i], dep0 ds[i])], ?_, by simp, by simp⟩
      have hv : ∃ q, eVar 2 [some (.tup ds, 9), some (.int (Int.ofNat m), 9), some (ds[i], dep0 ds[i])] = some (ds[i], q, [some (.tup ds, 9), some (.int (Int.ofNat m), 9), some (ds[i], dep0 ds[i])]) := by
        cases hL : (ds[i]).isL with
        | false => exact ⟨9, by simp [-dep0, hL]⟩
        | true => exact ⟨0, by simp [hL]⟩
      obtain ⟨q, hv⟩ := hv
      rw [hg]
      exact eCall_eq (aCons_eq hv (aCons_eq (f := eVar 1) (q := 9) rfl (aCons_1 (f := eVar 1) (q := 9) rfl))) rfl (is_row_ok m m _ (hl _ (List.getElem_mem hi))))
    rw [show (List.range ds.length).filter (fun _ => true) = List.range ds.length by simp] at hc
    have e : (List.range ds.length).map (fun i => D.bl (isRow m m (ds.getD i .non))) = ds.map fun d => .bl (isRow m m d) := by
      apply List.ext_getElem?
      intro k
      by_cases hk : k < ds.length
      · simp [hk]
      · rw [List.getElem?_eq_none (by simp; omega), List.getElem?_eq_none (by simp; omega)]
    rw [e] at hc
    refine eB_eq (aCons_1 (eComp_eq (deep := false) hi hc)) ?_
    simp only [bAll, unBl_map, Option.map_some]
    simp [List.all_map, Function.comp_def]
  · rw [if_neg h1]
    simp [h1]
theorem isl_len (ds : List D) (h : ¬ (1 ≤ ds.length ∧ ds.length ≤ 16)) : F_is_ladder [.tup ds] = some (.bl false, 9) := by
  unfold F_is_ladder d_is_ladder
  refine fnD_rt (sSeq_rt ?_)
  have hs : startD 2 [.tup ds] = [some (.tup ds, 9), none] := rfl
  rw [hs]
  by_cases h1 : (1 : Int) ≤ Int.ofNat ds.length
  · have h2 : ¬ (Int.ofNat ds.length ≤ 16) := fun z => h ⟨by have : (1 : Int) ≤ (ds.length : Int) := h1; omega, by have : (ds.length : Int) ≤ 16 := z; omega⟩
    simp [-Int.ofNat_eq_natCast, isD, lenD, h1, h2]
  · simp [-Int.ofNat_eq_natCast, isD, lenD, h1]
theorem isl_go (ds : List D) (h : 1 ≤ ds.length ∧ ds.length ≤ 16) (hl : ∀ d ∈ ds, ∀ es, d = .tup es → es.length ≤ 1000) : F_is_ladder [.tup ds] = (if ds.all (isRow ds.length ds.length) = true then fnD 2 (fun ρ => (sSeq (sIf (tOrD (tNotD (tOfV (eCall F_joins_with_itself_stay 1 (aCons (eVar 0) (aNil))))) (tNotD (tOfV (eCall F_joins_are_either_way 1 (aCons (eVar 0) (aNil)))))) (sRet (eC (.bl false))) (sNil))
  (sRet (eAnd (eCall F_joins_are_from_either_end 1 (aCons (eVar 0) (aNil))) (eCall F_has_least 1 (aCons (eVar 0) (aNil)))))) [some (.tup ds, 9), some (.int (Int.ofNat ds.length), 9)]) [.tup ds] else some (.bl false, 9)) := by
  have h1 : (1 : Int) ≤ Int.ofNat ds.length := by show (1 : Int) ≤ (ds.length : Int); omega
  have h2 : Int.ofNat ds.length ≤ 16 := by show (ds.length : Int) ≤ 16; omega
  have hr := rows_all (m := ds.length) (by omega) ds hl
  rw [if_pos (by omega)] at hr
  have hs : startD 2 [.tup ds] = [some (.tup ds, 9), none] := rfl
  have st : d_is_ladder [some (.tup ds, 9), none] = (sSeq (sIf (tNotD (tOfV (eB bAll (aCons (eComp 1 (iVal (eVar 0)) (pName 2) (tYesD) (eCall F_is_row_of 3 (aCons (eVar 2) (aCons (eVar 1) (aCons (eVar 1) (aNil))))) false) (aNil))))) (sRet (eC (.bl false))) (sNil))
  (sSeq (sIf (tOrD (tNotD (tOfV (eCall F_joins_with_itself_stay 1 (aCons (eVar 0) (aNil))))) (tNotD (tOfV (eCall F_joins_are_either_way 1 (aCons (eVar 0) (aNil)))))) (sRet (eC (.bl false))) (sNil))
  (sRet (eAnd (eCall F_joins_are_from_either_end 1 (aCons (eVar 0) (aNil))) (eCall F_has_least 1 (aCons (eVar 0) (aNil))))))) [some (.tup ds, 9), some (.int (Int.ofNat ds.length), 9)] := by
    unfold d_is_ladder
    refine (sSeq_nx (ρ1 := [some (.tup ds, 9), none]) ?_).trans ?_
    · simp [-Int.ofNat_eq_natCast, isD, lenD, h1, h2]
    · exact sSeq_nx (by simp [lenD])
  unfold F_is_ladder fnD
  rw [hs, st]
  cases hB : ds.all (isRow ds.length ds.length) with
  | true =>
    rw [hB] at hr
    rw [if_pos rfl, sSeq_nx (ρ1 := [some (.tup ds, 9), some (.int (Int.ofNat ds.length), 9)])]
    refine (sIf_f (ρ1 := [some (.tup ds, 9), some (.int (Int.ofNat ds.length), 9)]) ?_).trans rfl
    unfold tNotD tOfV
    rw [hr]
    rfl
  | false =>
    rw [hB] at hr
    rw [if_neg (by decide), sSeq_rt (d := .bl false) (q := 9)]
    refine (sIf_t (ρ1 := [some (.tup ds, 9), some (.int (Int.ofNat ds.length), 9)]) ?_).trans rfl
    unfold tNotD tOfV
    rw [hr]
    rfl
theorem isl_bad (ds : List D) (hl : ∀ d ∈ ds, ∀ es, d = .tup es → es.length ≤ 1000) (h : ds.all (isRow ds.length ds.length) = false) : F_is_ladder [.tup ds] = some (.bl false, 9) := by
  by_cases hk : 1 ≤ ds.length ∧ ds.length ≤ 16
  · rw [isl_go ds hk hl, h]; rfl
  · exact isl_len ds hk
theorem isl_tab {n : Nat} {f : Nat → Nat → Nat} (h1 : 1 ≤ n) (h2 : n ≤ 16) (cl : ∀ i j, i < n → j < n → f i j < n) : F_is_ladder [tabT n f] = some (.bl (ladP n f), 9) := by
  have hn : n ≤ 1000 := by omega
  have hlen : ((List.range n).map fun i => rowT n f i).length = n := by simp
  have hl : ∀ d ∈ ((List.range n).map fun i => rowT n f i), ∀ es, d = .tup es → es.length ≤ 1000 := fun d m es e => by
    obtain ⟨i, _, rfl⟩ := List.mem_map.mp m
    cases e
    rw [nums_len, List.length_map, List.length_range]; exact hn
  have hall : ((List.range n).map fun i => rowT n f i).all (isRow n n) = true := by
    rw [List.all_eq_true]
    intro d m
    obtain ⟨i, hi, rfl⟩ := List.mem_map.mp m
    exact isRow_rule (r := fun j => f i j) fun j hj => cl i j (List.mem_range.mp hi) hj
  have hg := isl_go ((List.range n).map fun i => rowT n f i) (by rw [hlen]; exact ⟨h1, h2⟩) hl
  rw [hlen, if_pos hall] at hg
  refine hg.trans ?_
  have q1 := stay_ok (f := f) hn
  have q2 := either_ok (f := f) hn
  have q3 := ends_ok hn cl
  have q4 := has_least_ok (f := f) hn
  show fnD 2 (fun _ => (sSeq _ _) [some (tabT n f, 9), some (.int (Int.ofNat n), 9)]) _ = _
  unfold ladP
  generalize ((List.range n).all fun x => decide (f x x = x)) = b1 at *
  generalize ((List.range n).all fun x => (List.range x).all fun y => decide (f x y = f y x)) = b2 at *
  generalize ((List.range n).all fun x => (List.range n).all fun y => (List.range n).all fun z => decide (f (f x y) z = f x (f y z))) = b3 at *
  cases b1 <;> cases b2 <;> cases b3 <;> simp [q1, q2, q3, q4]
end My
set_option Elab.async false
set_option linter.all false
set_option maxRecDepth 100000
set_option maxHeartbeats 1000000
namespace My
open PySem PySem.Spec PyProof.Rows L2 L3
end My
set_option Elab.async false
set_option linter.all false
set_option maxRecDepth 100000
set_option maxHeartbeats 1000000
namespace My
open PySem PySem.Spec PyProof.Rows L2 L3
theorem tOr_f {g h : DenT} {ρ ρ1 : Rho} (e : g ρ = some (false, ρ1)) : tOrD g h ρ = h ρ1 := by unfold tOrD; rw [e]; rfl
theorem tNot_eq {g : DenT} {ρ ρ1 : Rho} {b : Bool} (e : g ρ = some (b, ρ1)) : tNotD g ρ = some (!b, ρ1) := by unfold tNotD; rw [e]
theorem tOfV_eq {f : Den} {ρ ρ1 : Rho} {b : Bool} {q : Nat} (h : f ρ = some (.bl b, q, ρ1)) : tOfV f ρ = some (b, ρ1) := by unfold tOfV; rw [h]; cases b <;> rfl
theorem eVar_n {i q : Nat} {ρ : Rho} {d : D} (h : ρ[i]? = some (some (d, q))) (hd : d.isL = false) : eVar i ρ = some (d, 9, ρ) := by unfold eVar; rw [h]; simp [hd]
theorem eIxV_eq {i q : Nat} {ρ : Rho} {x d : D} {b : Den} {k : Int} {q' : Nat} (hb : b ρ = some (.int k, q', ρ)) (h : ρ[i]? = some (some (x, q))) (ha : atD x k = some d) (hd : d.isL = false) : eIxV i b ρ = some (d, 9, ρ) := by
  unfold eIxV
  rw [h]
  simp only [hb, h, ha, hd, dep0]
  simp
theorem eIx_eq {ρ : Rho} {x d : D} {a b : Den} {k : Int} {q q' : Nat} {ρ1 ρ2 : Rho} (h : a ρ = some (x, q, ρ1)) (hb : b ρ1 = some (.int k, q', ρ2)) (ha : atD x k = some d) (hx : x.isL = false) (hd : d.isL = false) : eIx a b ρ = some (d, 9, ρ2) := by
  unfold eIx
  rw [h]
  simp only [hb, ha, hd, hx, dep0]
  simp
theorem sAsg2 {f : Den} {i j : Nat} {ρ ρ1 ρ2 : Rho} {x y : D} {q : Nat} (h : f ρ = some (.tup [x, y], q, ρ1)) (e : (ρ1.set i (some (x, dep0 x))).set j (some (y, dep0 y)) = ρ2) (hi : i < ρ1.length) (hj : j < ρ1.length) : sAsg f (pTup (psCons (pName i) (psCons (pName j) psNil))) ρ = some (.nx ρ2) := by
  subst e
  unfold sAsg
  rw [h]
  simp [hi, hj]
theorem pick_ix (ns : List Int) {c : Int} (hc : 0 ≤ c) {n : Nat} (hn : 0 < n) : ∃ v, v < n ∧ F__law_pick [scr ns, .int c, .int (Int.ofNat n)] = some (.int (Int.ofNat v), 9) := by
  have hnp : (0 : Int) < Int.ofNat n := by show (0 : Int) < (n : Int); omega
  have h1 := pick_lo ns c hnp
  have h2 := pick_hi ns c hnp
  have h3 : Int.ofNat n = (n : Int) := rfl
  obtain ⟨v, hv⟩ := Int.eq_ofNat_of_zero_le h1
  refine ⟨v, by rw [hv, h3] at h2; omega, ?_⟩
  rw [pick_ok ns c _ hc hnp, hv]
  rfl
end My
set_option Elab.async false
set_option linter.all false
set_option maxRecDepth 100000
set_option maxHeartbeats 1000000
namespace My
open PySem PySem.Spec PyProof.Rows L2 L3
theorem forD_app {α J : Type} {pt : DenP} {body : DenS} (enc : α → D) (S : List D → J → Rho) (v : α → D) : ∀ (l : List α) (acc : List D) (j : J), acc.length + l.length ≤ 1000 →
    (∀ a ∈ l, ∀ ds j, ds.length ≤ 1000 → ∃ ρ1 j', pt (enc a) (S ds j) = some ρ1 ∧ body ρ1 = some (.nx (S (ds ++ [v a]) j'))) → ∃ j', forD pt body (l.map enc) (S acc j) = some (.nx (S (acc ++ l.map v) j'))
  | [], acc, j, _, _ => ⟨j, by rw [List.map_nil, List.map_nil, List.append_nil]; rfl⟩
  | a :: l, acc, j, hl, h => by
    rw [List.length_cons] at hl
    obtain ⟨ρ1, j1, h1, h2⟩ := h a List.mem_cons_self acc j (by omega)
    obtain ⟨j2, e⟩ := forD_app enc S v l (acc ++ [v a]) j1 (by rw [List.length_append]; show _ + 1 + _ ≤ 1000; omega) fun b hb => h b (List.mem_cons_of_mem _ hb)
    refine ⟨j2, ?_⟩
    rw [List.map_cons, forD_nx h1 h2, e, List.append_assoc]
    rfl
end My
set_option Elab.async false
set_option linter.all false
set_option maxRecDepth 100000
set_option maxHeartbeats 1000000
namespace My
open PySem PySem.Spec PyProof.Rows L2 L3
theorem rng_int {n : Nat} (hn : n ≤ 1000) {i q : Nat} {ρ : Rho} (h : ρ[i]? = some (some (.int (Int.ofNat n), q))) : iRange (aCons (eVar i) aNil) ρ = some (rangeD n, ρ) := by
  have b1 : (-1000 : Int) ≤ Int.ofNat n := by show (-1000 : Int) ≤ n; omega
  have b2 : Int.ofNat n ≤ 1000 := by show (n : Int) ≤ 1000; omega
  simp [-Int.ofNat_eq_natCast, h, b1, b2]
  rfl
theorem eCallO_eq {ob : D} {G : List D → Option (D × Nat)} {i n : Nat} {g : DenA} {ρ ρ1 : Rho} {ds : List D} {d : D} {q : Nat} (ho : ρ[i]? = some (some (ob, 9))) (h : g ρ = some (ds, ρ1)) (hl : ds.length = n) (hG : G ds = some (d, q)) : eCallO ob G i n g ρ = some (d, q, ρ1) := by
  unfold eCallO
  rw [if_pos ho]
  exact eCall_eq h hl hG
theorem table_ok {n : Nat} (hn : n ≤ 1000) {ob : D} (hb : ob.isL = false) {G : List D → Option (D × Nat)} {g : Nat → Nat → Nat} (hG : ∀ x y, x < n → y < n → G [.int (Int.ofNat x), .int (Int.ofNat y)] = some (.int (Int.ofNat (g x y)), 9)) :
    F_table_of ob G [.int (Int.ofNat n), ob] = some (tabT n g, 9) := by
  unfold F_table_of d_table_of
  have s0 : startD 4 [.int (Int.ofNat n), ob] = [some (.int (Int.ofNat n), 9), some (ob, 9), none, none] := by simp [hb]
  refine fnD_rt ?_
  rw [s0]
  refine (sSeq_nx (ρ1 := [some (.int (Int.ofNat n), 9), some (ob, 9), some (.lst [], 1), none]) rfl).trans ?_
  obtain ⟨j', e⟩ := forD_app (α := Nat) (J := Option (D × Nat)) (pt := pName 3) (body := b1_table_of ob G) (fun x => D.int (Int.ofNat x)) (fun ds j => [some (.int (Int.ofNat n), 9), some (ob, 9), some (.lst ds, 1), j]) (fun x => rowT n g x) (List.range n) [] none (by simpa using hn) (fun x hx ds j hds => by
    have hx' : x < n := List.mem_range.mp hx
    refine ⟨[some (.int (Int.ofNat n), 9), some (ob, 9), some (.lst ds, 1), some (.int (Int.ofNat x), 9)], some (.int (Int.ofNat x), 9), rfl, ?_⟩
    refine sApp_eq (ρ1 := [some (.int (Int.ofNat n), 9), some (ob, 9), some (.lst ds, 1), some (.int (Int.ofNat x), 9)]) rfl (aCons_1 (eTupOf_lst (aCons_1 (eComp_eq (deep := false) (ds := rangeD n) (ρ1 := [some (.int (Int.ofNat n), 9), some (ob, 9), some (.lst ds, 1), some (.int (Int.ofNat x), 9)]) (rng_int hn rfl) (comp1 (i := 4) (deep := false) rfl (fun _ => true) (fun y => .int (Int.ofNat (g x y))) (fun _ => 9) (fun j hj => rfl) (fun y hy _ => eCallO_eq rfl rfl rfl (hG x y hx' hy))))))) rfl hds ?_
    have e1 : (List.range n).filter (fun _ => true) = List.range n := by simp
    have e2 : (List.range n).map (fun y => D.int (Int.ofNat (g x y))) = nums ((List.range n).map fun y => g x y) := by unfold nums; rw [List.map_map]; rfl
    rw [e1, e2]
    rfl)
  refine (sSeq_nx ((sFor_eq (ds := rangeD n) (ρ1 := [some (.int (Int.ofNat n), 9), some (ob, 9), some (.lst [], 1), none]) (rng_int hn rfl)).trans e)).trans ?_
  refine sRet_eq (eTupOf_lst (aCons_1 (q := 0) (d := .lst ([] ++ (List.range n).map fun x => rowT n g x)) (ρ1 := [some (.int (Int.ofNat n), 9), some (ob, 9), some (.lst ([] ++ (List.range n).map fun x => rowT n g x), 0), j']) rfl))
end My
set_option Elab.async false
set_option linter.all false
set_option maxRecDepth 100000
set_option maxHeartbeats 1000000
namespace My
open PySem PySem.Spec PyProof.Rows L2 L3
theorem mod_n5 {a b : Nat} (h : 0 < b) : dMod (.int (Int.ofNat a)) (.int (Int.ofNat b)) = some (.int (Int.ofNat (a % b))) := by
  have h1 : (0 : Int) < Int.ofNat b := by show (0 : Int) < (b : Int); omega
  unfold dMod gI
  show (if _ then some (D.int (Int.ofNat a % Int.ofNat b)) else none) = _
  rw [if_pos h1]
  rfl
theorem add_n5 (a b : Nat) : dAdd (.int (Int.ofNat a)) (.int (Int.ofNat b)) = some (.int (Int.ofNat (a + b))) := rfl
theorem eTab_eq {fb fN : Den} {is : List Nat} {n : Nat} (hn : n ≤ 1000) {q : Nat} {ρ ρ1 : Rho} {cds : List D} {g : Nat → Nat → Nat} (hN : fN ρ = some (.int (Int.ofNat n), q, ρ1)) (hc : capD is ρ1 = some cds)
    (hG : ∀ x y, x < n → y < n → ∃ ρ', fb (startD ([D.int (Int.ofNat x), D.int (Int.ofNat y)] ++ cds).length ([D.int (Int.ofNat x), D.int (Int.ofNat y)] ++ cds)) = some (.int (Int.ofNat (g x y)), 9, ρ')) : eTab F_table_of fb is fN ρ = some (tabT n g, 9, ρ1) := by
  have hG' : ∀ x y, x < n → y < n → lamD fb cds [.int (Int.ofNat x), .int (Int.ofNat y)] = some (.int (Int.ofNat (g x y)), 9) := fun x y hx hy => by
    obtain ⟨ρ', e⟩ := hG x y hx hy
    unfold lamD
    rw [e]
  have hT : ∀ ob : D, ob.isL = false → F_table_of ob (lamD fb cds) [.int (Int.ofNat n), ob] = some (tabT n g, 9) := fun ob hb => table_ok hn hb hG'
  unfold eTab
  simp only [hN, hc]
  rw [if_pos (fun fa fo vs => (hT _ rfl).trans (hT (ob0 cds) rfl).symm), hT (ob0 cds) rfl]
theorem chain_ok {m : Nat} (h1 : 1 ≤ m) (h2 : m ≤ 16) : F_chain_ladder [.int (Int.ofNat m)] = some (tabT m max, 9) := by
  unfold F_chain_ladder d_chain_ladder
  have b1 : ¬ (Int.ofNat m < 1) := by show ¬ ((m : Int) < 1); omega
  have b2 : ¬ ((16 : Int) < Int.ofNat m) := by show ¬ ((16 : Int) < (m : Int)); omega
  refine fnD_rt ((sSeq_nx (ρ1 := [some (.int (Int.ofNat m), 9)]) ?_).trans (sRet_eq (eTab_eq (cds := []) (q := 9) (ρ1 := [some (.int (Int.ofNat m), 9)]) (Nat.le_trans h2 (by decide)) rfl rfl fun x y hx hy => ⟨[some (.int (Int.ofNat x), 9), some (.int (Int.ofNat y), 9)], ?_⟩)))
  · simp [-Int.ofNat_eq_natCast, b1, b2]
  · have e : (if Int.ofNat y > Int.ofNat x then Int.ofNat y else Int.ofNat x) = Int.ofNat (max x y) := by
      by_cases h : x < y
      · rw [if_pos (by show (x : Int) < (y : Int); omega), Nat.max_eq_right (Nat.le_of_lt h)]
      · rw [if_neg (by show ¬ ((x : Int) < (y : Int)); omega), Nat.max_eq_left (Nat.le_of_not_lt h)]
    show some (D.int (if Int.ofNat y > Int.ofNat x then Int.ofNat y else Int.ofNat x), 9, _) = _
    rw [e]
    rfl
end My
set_option Elab.async false
set_option linter.all false
set_option maxRecDepth 100000
set_option maxHeartbeats 0
namespace My
open PySem PySem.Spec PyProof.Rows L2 L3
theorem charts98 : F__law_are_charts_told [] = some (.bl true, 9) := by kernel_rfl
end My
set_option Elab.async false
set_option linter.all false
set_option maxRecDepth 100000
set_option maxHeartbeats 4000000
namespace My
open PySem PySem.Spec PyProof.Rows L2 L3
theorem cutA {ds : List D} {p : Nat} (hp : p < ds.length) : L3.cutD ds none (some (Int.ofNat p)) = ds.take p := by
  unfold L3.cutD
  have e1 : HT.sIx ds.length 0 none = 0 := rfl
  have e2 : HT.sIx ds.length ds.length (some (Int.ofNat p)) = p := by
    have : ¬ ((p : Int) < 0) := by omega
    simp [HT.sIx, this]
    omega
  rw [e1, e2, List.drop_zero, Nat.sub_zero]
theorem cutB {ds : List D} {p : Nat} (hp : p < ds.length) : L3.cutD ds (some (Int.ofNat p + 1)) none = ds.drop (p + 1) := by
  unfold L3.cutD
  have e1 : HT.sIx ds.length 0 (some (Int.ofNat p + 1)) = p + 1 := by
    have : ¬ ((p : Int) + 1 < 0) := by omega
    simp [HT.sIx, this]
    omega
  have e2 : HT.sIx ds.length ds.length none = ds.length := rfl
  rw [e1, e2, List.take_of_length_le (by rw [List.length_drop]; exact Nat.le_refl _)]
theorem set98 {ds : List D} {p : Nat} {d : D} (hp : p < ds.length) : ds.take p ++ [d] ++ ds.drop (p + 1) = ds.set p d := by
  rw [List.set_eq_take_append_cons_drop, if_pos hp, List.append_assoc]
  rfl
theorem eSl98 {fa : Den} {fl fh : DenO} {ρ ρ1 ρ2 ρ3 : Rho} {ds : List D} {q : Nat} {lo hi : Option Int} (h : fa ρ = some (.tup ds, q, ρ1)) (hl : fl ρ1 = some (lo, ρ2)) (hh : fh ρ2 = some (hi, ρ3)) : eSl fa fl fh ρ = some (.tup (L3.cutD ds lo hi), 9, ρ3) := by
  unfold eSl
  rw [h]
  simp only [hl, hh]
theorem eCat98 {fa fb : Den} {ρ ρ1 ρ2 : Rho} {ds es : List D} {q q' : Nat} (h : fa ρ = some (.tup ds, q, ρ1)) (h' : fb ρ1 = some (.tup es, q', ρ2)) (hl : ds.length + es.length ≤ 1000) : eCat fa fb ρ = some (.tup (ds ++ es), 9, ρ2) := by
  unfold eCat
  rw [h]
  simp only [h', hl, if_true]
noncomputable def odf (r c k i j : Nat) : Nat := if i = r ∧ j = c then k else max i j
theorem ladP_odf {n r c k : Nat} (hr : r < n) (hc : c < n) (hk : k ≠ max r c) : ladP n (odf r c k) = false := by
  cases h : ladP n (odf r c k) with
  | false => rfl
  | true =>
    exfalso
    unfold ladP at h
    simp only [Bool.and_eq_true] at h
    obtain ⟨⟨h1, h2⟩, -⟩ := h
    by_cases e : r = c
    · subst e
      have := of_decide_eq_true (L3.range_all.mp h1 r hr)
      unfold odf at this
      rw [if_pos ⟨rfl, rfl⟩] at this
      omega
    · rcases Nat.lt_or_gt_of_ne e with l | l
      · have := of_decide_eq_true (L3.range_all.mp (L3.range_all.mp h2 c hc) r l)
        unfold odf at this
        rw [if_neg (by omega), if_pos ⟨rfl, rfl⟩] at this
        omega
      · have := of_decide_eq_true (L3.range_all.mp (L3.range_all.mp h2 r hr) c l)
        unfold odf at this
        rw [if_pos ⟨rfl, rfl⟩, if_neg (by omega)] at this
        omega
noncomputable abbrev rows98 (n : Nat) : List D := (List.range n).map fun i => rowT n max i
noncomputable abbrev row98 (n r : Nat) : List D := nums ((List.range n).map fun j => max r j)
theorem odd_bad {n r c : Nat} (h2 : 1 ≤ n) (h16 : n ≤ 16) (hr : r < n) (hc : c < n) {d : D} (hd : isNum n d = false) : F_is_ladder [.tup ((rows98 n).set r (.tup ((row98 n r).set c d)))] = some (.bl false, 9) := by
  have hl : ((rows98 n).set r (.tup ((row98 n r).set c d))).length = n := by rw [List.length_set, List.length_map, List.length_range]
  refine isl_bad _ (fun x hx es he => ?_) ?_
  · rcases List.mem_or_eq_of_mem_set hx with h | h
    · obtain ⟨i, _, rfl⟩ := List.mem_map.mp h
      cases he
      rw [nums_len, List.length_map, List.length_range]
      omega
    · rw [h] at he
      cases he
      rw [List.length_set, nums_len, List.length_map, List.length_range]
      omega
  · rw [hl]
    cases z : ((rows98 n).set r (.tup ((row98 n r).set c d))).all (isRow n n) with
    | false => rfl
    | true =>
      have m : D.tup ((row98 n r).set c d) ∈ (rows98 n).set r (.tup ((row98 n r).set c d)) := List.mem_set (by rw [List.length_map, List.length_range]; exact hr) _
      have h := List.all_eq_true.mp z _ m
      unfold isRow at h
      rw [Bool.and_eq_true] at h
      have m2 : d ∈ (row98 n r).set c d := List.mem_set (by rw [nums_len, List.length_map, List.length_range]; exact hc) _
      have := List.all_eq_true.mp h.2 d m2
      rw [hd] at this
      cases this
theorem odd_num {n r c k : Nat} (h2 : 1 ≤ n) (h16 : n ≤ 16) (hr : r < n) (hc : c < n) (hk : k < n) (ne : k ≠ max r c) : F_is_ladder [.tup ((rows98 n).set r (.tup ((row98 n r).set c (.int (Int.ofNat k)))))] = some (.bl false, 9) := by
  have e : D.tup ((rows98 n).set r (.tup ((row98 n r).set c (.int (Int.ofNat k))))) = tabT n (odf r c k) := by
    unfold tabT
    rw [map_range_set]
    refine congrArg D.tup (List.map_congr_left fun i hi => ?_)
    by_cases h : i = r
    · subst h
      rw [if_pos rfl]
      unfold rowT
      rw [nums_set, map_range_set]
      refine congrArg (fun l => D.tup (nums l)) (List.map_congr_left fun j hj => ?_)
      by_cases hj' : j = c <;> simp [odf, hj']
    · rw [if_neg h]
      unfold rowT
      refine congrArg (fun l => D.tup (nums l)) (List.map_congr_left fun j hj => ?_)
      simp [odf, h]
  rw [e, isl_tab h2 h16 (fun i j hi hj => by unfold odf; split <;> omega), ladP_odf hr hc ne]
noncomputable def z98 (l : List (List Int)) : D := .tup (l.map fun r => .tup (r.map D.int))
noncomputable abbrev three98 : D := z98 [[0, 1, 2], [1, 1, 2], [2, 2, 2]]
noncomputable abbrev flat98 : D := z98 [[0, 1, 2, 3], [1, 1, 3, 3], [2, 3, 2, 3], [3, 3, 3, 3]]
noncomputable abbrev good98 : List D := [z98 [[0]], three98, flat98, tabT 16 max, z98 [[0, 0], [0, 1]], z98 [[0, 0, 2], [0, 1, 2], [2, 2, 2]]]
noncomputable abbrev odd98 : List D := [z98 [], z98 [[1]], z98 [[0, 1], [0, 1]], z98 [[0, 0], [1, 1]], z98 [[1, 1], [1, 1]], z98 [[0, 1], [1, 0]], z98 [[0, 1, 2], [1, 1, 2]], z98 [[0, 1, 3], [1, 1, 2], [2, 2, 2]], z98 [[0, 1, -1], [1, 1, -1], [-1, -1, 2]],
  z98 [[0, 1, 2], [1, 1, 1], [2, 2, 2]], z98 [[0, 1, 2], [1, 1, 0], [2, 0, 2]], z98 [[0, 2, 2], [2, 1, 2], [2, 2, 2]], .tup [.tup [.int 0, .int 1], .tup [.int 1, .bl true]], .tup [.tup [.int 0, .int 1], .lst [.int 1, .int 1]], .lst [.tup [.int 0]], .non, .tup [.tup [.int 0, .int 1], .tup [.int 1, .non]],
  z98 [[0, 1, 2, 3], [1, 1, 3, 2], [2, 3, 2, 3], [3, 2, 3, 3]], z98 [[0], [0]], .int 0]
theorem look98 (ns : List Int) : sIf (tOrD (tOfB (e2 dNe (eComp 1 (iVal (eVar 3)) (pName 11) (tYesD) (eCall F_is_ladder 1 (aCons (eVar 11) (aNil))) false) (eRepL (eLst (aCons (eC (.bl true)) (aNil))) (eC (.int 6))))) (tOfB (e2 dNe (eComp 1 (iVal (eVar 4)) (pName 11) (tYesD) (eCall F_is_ladder 1 (aCons (eVar 11) (aNil))) false) (eRepL (eLst (aCons (eC (.bl false)) (aNil))) (eC (.int 20)))))) (sRet (eC (.bl false))) (sNil) [some (scr ns, 0), some (three98, 9), some (flat98, 9), some (.lst good98, 1), some (.lst odd98, 1), none, none, none, none, none, none] = some (.nx [some (scr ns, 0), some (three98, 9), some (flat98, 9), some (.lst good98, 0), some (.lst odd98, 0), none, none, none, none, none, none]) := by kernel_rfl
theorem ladders98 (ns : List Int) : F__law_are_ladders_told [scr ns] = some (.bl true, 9) := by
  obtain ⟨v, hv, ev⟩ := pick_ix ns (c := 0) (by decide) (n := 15) (by decide)
  obtain ⟨n, hn⟩ : ∃ n, n = 2 + v := ⟨_, rfl⟩
  have n2 : 2 ≤ n := by omega
  have n16 : n ≤ 16 := by omega
  obtain ⟨r, hr, er⟩ := pick_ix ns (c := 1) (by decide) (n := n) (by omega)
  obtain ⟨c, hc, ec⟩ := pick_ix ns (c := 2) (by decide) (n := n) (by omega)
  have ch := chain_ok (m := n) (by omega) n16
  have c16 := chain_ok (m := 16) (by decide) (by decide)
  unfold F__law_are_ladders_told d__law_are_ladders_told
  refine fnD_rt ?_
  show sSeq _ _ [some (scr ns, 0), none, none, none, none, none, none, none, none, none, none] = _
  refine (sSeq_nx (ρ1 := [some (scr ns, 0), some (three98, 9), none, none, none, none, none, none, none, none, none]) rfl).trans ?_
  refine (sSeq_nx (ρ1 := [some (scr ns, 0), some (three98, 9), some (flat98, 9), none, none, none, none, none, none, none, none]) rfl).trans ?_
  refine (sSeq_nx (ρ1 := [some (scr ns, 0), some (three98, 9), some (flat98, 9), some (.lst good98, 1), none, none, none, none, none, none, none]) ?_).trans ?_
  · refine sSet_to (d := .lst good98) (q := 1) (ρ1 := [some (scr ns, 0), some (three98, 9), some (flat98, 9), none, none, none, none, none, none, none, none]) ?_ rfl
    have h := aCons_eq (f := eTup (aCons (eTup (aCons (eC (.int 0)) (aNil))) (aNil))) (d := z98 [[0]]) (q := 9) (ρ := [some (scr ns, 0), some (three98, 9), some (flat98, 9), none, none, none, none, none, none, none, none]) (ρ1 := [some (scr ns, 0), some (three98, 9), some (flat98, 9), none, none, none, none, none, none, none, none]) rfl (aCons_eq (f := eVar 1) (d := three98) (q := 9) (ρ1 := [some (scr ns, 0), some (three98, 9), some (flat98, 9), none, none, none, none, none, none, none, none]) rfl (aCons_eq (f := eVar 2) (d := flat98) (q := 9) (ρ1 := [some (scr ns, 0), some (three98, 9), some (flat98, 9), none, none, none, none, none, none, none, none]) rfl (aCons_eq (f := eCall F_chain_ladder 1 (aCons (eC (.int 16)) (aNil))) (ρ1 := [some (scr ns, 0), some (three98, 9), some (flat98, 9), none, none, none, none, none, none, none, none]) (eCall_eq (ds := [.int (Int.ofNat 16)]) rfl rfl c16) (aCons_eq (f := eTup (aCons (eTup (aCons (eC (.int 0)) (aCons (eC (.int 0)) (aNil)))) (aCons (eTup (aCons (eC (.int 0)) (aCons (eC (.int 1)) (aNil)))) (aNil)))) (d := z98 [[0, 0], [0, 1]]) (q := 9) (ρ1 := [some (scr ns, 0), some (three98, 9), some (flat98, 9), none, none, none, none, none, none, none, none]) rfl (aCons_1 (f := eTup (aCons (eTup (aCons (eC (.int 0)) (aCons (eC (.int 0)) (aCons (eC (.int 2)) (aNil))))) (aCons (eTup (aCons (eC (.int 0)) (aCons (eC (.int 1)) (aCons (eC (.int 2)) (aNil))))) (aCons (eTup (aCons (eC (.int 2)) (aCons (eC (.int 2)) (aCons (eC (.int 2)) (aNil))))) (aNil))))) (d := z98 [[0, 0, 2], [0, 1, 2], [2, 2, 2]]) (q := 9) (ρ1 := [some (scr ns, 0), some (three98, 9), some (flat98, 9), none, none, none, none, none, none, none, none]) rfl)))))
    unfold eLst
    rw [h]
    rfl
  refine (sSeq_nx rfl).trans ?_
  refine (sSeq_nx rfl).trans ?_
  refine (sSeq_nx rfl).trans ?_
  refine (sSeq_nx rfl).trans ?_
  refine (sSeq_nx rfl).trans ?_
  refine (sSeq_nx rfl).trans ?_
  refine (sSeq_nx rfl).trans ?_
  refine (sSeq_nx rfl).trans ?_
  show sSeq _ _ [some (scr ns, 0), some (three98, 9), some (flat98, 9), some (.lst good98, 1), some (.lst odd98, 1), none, none, none, none, none, none] = _
  refine (sSeq_nx (look98 ns)).trans ?_
  refine (sSeq_nx (ρ1 := [some (scr ns, 0), some (three98, 9), some (flat98, 9), some (.lst good98, 0), some (.lst odd98, 0), some (.int (Int.ofNat n), 9), none, none, none, none, none]) (sSet_to (e2_eq (q := 9) (y := .int (Int.ofNat v)) rfl (eCall_eq (ds := [scr ns, .int 0, .int (Int.ofNat 15)]) rfl rfl ev) (by rw [hn]; rfl)) rfl)).trans ?_
  refine (sSeq_nx (ρ1 := [some (scr ns, 0), some (three98, 9), some (flat98, 9), some (.lst good98, 0), some (.lst odd98, 0), some (.int (Int.ofNat n), 9), some (tabT n max, 9), none, none, none, none]) (sSet_to (eCall_eq (ds := [.int (Int.ofNat n)]) rfl rfl ch) rfl)).trans ?_
  refine (sSeq_nx (ρ1 := [some (scr ns, 0), some (three98, 9), some (flat98, 9), some (.lst good98, 0), some (.lst odd98, 0), some (.int (Int.ofNat n), 9), some (tabT n max, 9), some (.int (Int.ofNat r), 9), some (.int (Int.ofNat c), 9), none, none]) ?_).trans ?_
  · have h : aCons (eCall F__law_pick 3 (aCons (eVar 0) (aCons (eC (.int 1)) (aCons (eVar 5) (aNil))))) (aCons (eCall F__law_pick 3 (aCons (eVar 0) (aCons (eC (.int 2)) (aCons (eVar 5) (aNil))))) (aNil)) [some (scr ns, 0), some (three98, 9), some (flat98, 9), some (.lst good98, 0), some (.lst odd98, 0), some (.int (Int.ofNat n), 9), some (tabT n max, 9), none, none, none, none] = some ([.int (Int.ofNat r), .int (Int.ofNat c)], [some (scr ns, 0), some (three98, 9), some (flat98, 9), some (.lst good98, 0), some (.lst odd98, 0), some (.int (Int.ofNat n), 9), some (tabT n max, 9), none, none, none, none]) := aCons_eq (eCall_eq (ds := [scr ns, .int 1, .int (Int.ofNat n)]) rfl rfl er) (aCons_1 (eCall_eq (ds := [scr ns, .int 2, .int (Int.ofNat n)]) rfl rfl ec))
    unfold sPar
    rw [h]
    rfl
  -- one worth otherwise
  have hk : (max r c + 1) % n < n := Nat.mod_lt _ (by omega)
  have hne : (max r c + 1) % n ≠ max r c := by
    have hm : max r c < n := by omega
    by_cases h : max r c + 1 = n
    · rw [h, Nat.mod_self]; omega
    · rw [Nat.mod_eq_of_lt (by omega)]; omega
  have bad : ∀ d ∈ [D.int (-1), .int (Int.ofNat n), .non, .bl true, .int (Int.ofNat ((max r c + 1) % n))], d.isL = false ∧ F_is_ladder [.tup ((rows98 n).set r (.tup ((row98 n r).set c d)))] = some (.bl false, 9) := fun d hd => by
    rcases List.mem_cons.mp hd with rfl | hd
    · exact ⟨rfl, odd_bad (by omega) n16 hr hc rfl⟩
    rcases List.mem_cons.mp hd with rfl | hd
    · exact ⟨rfl, odd_bad (by omega) n16 hr hc (by show (decide ((0 : Int) ≤ (n : Int)) && decide ((n : Int) < (n : Int))) = false; simp)⟩
    rcases List.mem_cons.mp hd with rfl | hd
    · exact ⟨rfl, odd_bad (by omega) n16 hr hc rfl⟩
    rcases List.mem_cons.mp hd with rfl | hd
    · exact ⟨rfl, odd_bad (by omega) n16 hr hc rfl⟩
    rcases List.mem_cons.mp hd with rfl | hd
    · exact ⟨rfl, odd_num (by omega) n16 hr hc hk hne⟩
    cases hd
  have lr : (row98 n r).length = n := by rw [nums_len, List.length_map, List.length_range]
  have lt : (rows98 n).length = n := by rw [List.length_map, List.length_range]
  have it : iVal (eTup (aCons (eNeg (eC (.int 1))) (aCons (eVar 5) (aCons (eC .non) (aCons (eC (.bl true)) (aCons (e2 dMod (e2 dAdd (eIx (eIxV 6 (eVar 7)) (eVar 8)) (eC (.int 1))) (eVar 5)) (aNil))))))) [some (scr ns, 0), some (three98, 9), some (flat98, 9), some (.lst good98, 0), some (.lst odd98, 0), some (.int (Int.ofNat n), 9), some (tabT n max, 9), some (.int (Int.ofNat r), 9), some (.int (Int.ofNat c), 9), none, none] = some ([D.int (-1), .int (Int.ofNat n), .non, .bl true, .int (Int.ofNat ((max r c + 1) % n))], [some (scr ns, 0), some (three98, 9), some (flat98, 9), some (.lst good98, 0), some (.lst odd98, 0), some (.int (Int.ofNat n), 9), some (tabT n max, 9), some (.int (Int.ofNat r), 9), some (.int (Int.ofNat c), 9), none, none]) := by
    have hm : e2 dMod (e2 dAdd (eIx (eIxV 6 (eVar 7)) (eVar 8)) (eC (.int 1))) (eVar 5) [some (scr ns, 0), some (three98, 9), some (flat98, 9), some (.lst good98, 0), some (.lst odd98, 0), some (.int (Int.ofNat n), 9), some (tabT n max, 9), some (.int (Int.ofNat r), 9), some (.int (Int.ofNat c), 9), none, none] = some (.int (Int.ofNat ((max r c + 1) % n)), 9, [some (scr ns, 0), some (three98, 9), some (flat98, 9), some (.lst good98, 0), some (.lst odd98, 0), some (.int (Int.ofNat n), 9), some (tabT n max, 9), some (.int (Int.ofNat r), 9), some (.int (Int.ofNat c), 9), none, none]) := e2_eq (q' := 9) (e2_eq (q' := 9) (eIx_eq (x := rowT n max r) (q := 9) (q' := 9) (eIxV_eq (x := tabT n max) (q := 9) (q' := 9) rfl rfl (at_tabT hr) rfl) rfl (at_rowT hc) rfl rfl) rfl (add_n5 _ 1)) rfl (mod_n5 (by omega))
    have h := aCons_eq (f := eNeg (eC (.int 1))) (d := .int (-1)) (q := 9) (ρ := [some (scr ns, 0), some (three98, 9), some (flat98, 9), some (.lst good98, 0), some (.lst odd98, 0), some (.int (Int.ofNat n), 9), some (tabT n max, 9), some (.int (Int.ofNat r), 9), some (.int (Int.ofNat c), 9), none, none]) (ρ1 := [some (scr ns, 0), some (three98, 9), some (flat98, 9), some (.lst good98, 0), some (.lst odd98, 0), some (.int (Int.ofNat n), 9), some (tabT n max, 9), some (.int (Int.ofNat r), 9), some (.int (Int.ofNat c), 9), none, none]) rfl (aCons_eq (f := eVar 5) (d := .int (Int.ofNat n)) (q := 9) (ρ1 := [some (scr ns, 0), some (three98, 9), some (flat98, 9), some (.lst good98, 0), some (.lst odd98, 0), some (.int (Int.ofNat n), 9), some (tabT n max, 9), some (.int (Int.ofNat r), 9), some (.int (Int.ofNat c), 9), none, none]) rfl (aCons_eq (f := eC .non) (d := .non) (q := 9) (ρ1 := [some (scr ns, 0), some (three98, 9), some (flat98, 9), some (.lst good98, 0), some (.lst odd98, 0), some (.int (Int.ofNat n), 9), some (tabT n max, 9), some (.int (Int.ofNat r), 9), some (.int (Int.ofNat c), 9), none, none]) rfl (aCons_eq (f := eC (.bl true)) (d := .bl true) (q := 9) (ρ1 := [some (scr ns, 0), some (three98, 9), some (flat98, 9), some (.lst good98, 0), some (.lst odd98, 0), some (.int (Int.ofNat n), 9), some (tabT n max, 9), some (.int (Int.ofNat r), 9), some (.int (Int.ofNat c), 9), none, none]) rfl (aCons_1 hm))))
    unfold iVal eTup
    rw [h]
    rfl
  obtain ⟨w1, -⟩ := forD_all (J := Option (D × Nat) × Option (D × Nat)) (pt := pName 9) (body := b1__law_are_ladders_told) (d := .bl false) (q := 9) (fun d : D => d) (fun _ => true) (fun j => [some (scr ns, 0), some (three98, 9), some (flat98, 9), some (.lst good98, 0), some (.lst odd98, 0), some (.int (Int.ofNat n), 9), some (tabT n max, 9), some (.int (Int.ofNat r), 9), some (.int (Int.ofNat c), 9), j.1, j.2]) [D.int (-1), .int (Int.ofNat n), .non, .bl true, .int (Int.ofNat ((max r c + 1) % n))] (none, none) (fun d hd j => by
    obtain ⟨hL, hF⟩ := bad d hd
    have d9 : dep0 d = 9 := by unfold dep0; rw [hL]; rfl
    refine ⟨[some (scr ns, 0), some (three98, 9), some (flat98, 9), some (.lst good98, 0), some (.lst odd98, 0), some (.int (Int.ofNat n), 9), some (tabT n max, 9), some (.int (Int.ofNat r), 9), some (.int (Int.ofNat c), 9), some (d, 9), j.2], ?_, fun _ => ⟨(some (d, 9), some (.tup ((row98 n r).set c d), 9)), ?_⟩, fun z => by cases z⟩
    · show some [some (scr ns, 0), some (three98, 9), some (flat98, 9), some (.lst good98, 0), some (.lst odd98, 0), some (.int (Int.ofNat n), 9), some (tabT n max, 9), some (.int (Int.ofNat r), 9), some (.int (Int.ofNat c), 9), some (d, dep0 d), j.2] = _
      rw [d9]
    · have rw6 : ∀ x y, eIxV 6 (eVar 7) [some (scr ns, 0), some (three98, 9), some (flat98, 9), some (.lst good98, 0), some (.lst odd98, 0), some (.int (Int.ofNat n), 9), some (tabT n max, 9), some (.int (Int.ofNat r), 9), some (.int (Int.ofNat c), 9), x, y] = some (.tup (row98 n r), 9, [some (scr ns, 0), some (three98, 9), some (flat98, 9), some (.lst good98, 0), some (.lst odd98, 0), some (.int (Int.ofNat n), 9), some (tabT n max, 9), some (.int (Int.ofNat r), 9), some (.int (Int.ofNat c), 9), x, y]) := fun x y => eIxV_eq (x := tabT n max) (q := 9) (q' := 9) rfl rfl (at_tabT hr) rfl
      have row : eCat (eCat (eSl (eIxV 6 (eVar 7)) (oNone) (oSome (eVar 8))) (eTup (aCons (eVar 9) (aNil)))) (eSl (eIxV 6 (eVar 7)) (oSome (e2 dAdd (eVar 8) (eC (.int 1)))) (oNone)) [some (scr ns, 0), some (three98, 9), some (flat98, 9), some (.lst good98, 0), some (.lst odd98, 0), some (.int (Int.ofNat n), 9), some (tabT n max, 9), some (.int (Int.ofNat r), 9), some (.int (Int.ofNat c), 9), some (d, 9), j.2] = some (.tup ((row98 n r).set c d), 9, [some (scr ns, 0), some (three98, 9), some (flat98, 9), some (.lst good98, 0), some (.lst odd98, 0), some (.int (Int.ofNat n), 9), some (tabT n max, 9), some (.int (Int.ofNat r), 9), some (.int (Int.ofNat c), 9), some (d, 9), j.2]) := by
        have s1 := eSl98 (fl := oNone) (fh := oSome (eVar 8)) (lo := none) (hi := some (Int.ofNat c)) (ρ3 := [some (scr ns, 0), some (three98, 9), some (flat98, 9), some (.lst good98, 0), some (.lst odd98, 0), some (.int (Int.ofNat n), 9), some (tabT n max, 9), some (.int (Int.ofNat r), 9), some (.int (Int.ofNat c), 9), some (d, 9), j.2]) (rw6 (some (d, 9)) j.2) rfl rfl
        have s2 := eSl98 (fl := oSome (e2 dAdd (eVar 8) (eC (.int 1)))) (fh := oNone) (lo := some (Int.ofNat c + 1)) (hi := none) (ρ3 := [some (scr ns, 0), some (three98, 9), some (flat98, 9), some (.lst good98, 0), some (.lst odd98, 0), some (.int (Int.ofNat n), 9), some (tabT n max, 9), some (.int (Int.ofNat r), 9), some (.int (Int.ofNat c), 9), some (d, 9), j.2]) (rw6 (some (d, 9)) j.2) rfl rfl
        rw [cutA (by rw [lr]; exact hc)] at s1
        rw [cutB (by rw [lr]; exact hc)] at s2
        have t9 : eTup (aCons (eVar 9) (aNil)) [some (scr ns, 0), some (three98, 9), some (flat98, 9), some (.lst good98, 0), some (.lst odd98, 0), some (.int (Int.ofNat n), 9), some (tabT n max, 9), some (.int (Int.ofNat r), 9), some (.int (Int.ofNat c), 9), some (d, 9), j.2] = some (.tup [d], 9, [some (scr ns, 0), some (three98, 9), some (flat98, 9), some (.lst good98, 0), some (.lst odd98, 0), some (.int (Int.ofNat n), 9), some (tabT n max, 9), some (.int (Int.ofNat r), 9), some (.int (Int.ofNat c), 9), some (d, 9), j.2]) := by
          unfold eTup
          rw [aCons_1 (eVar_n (i := 9) (q := 9) (d := d) rfl hL)]
          rfl
        have c1 := eCat98 s1 t9 (by rw [List.length_take, lr]; show min c n + 1 ≤ 1000; omega)
        have c2 := eCat98 c1 s2 (by rw [List.length_append, List.length_take, List.length_drop, lr]; show min c n + 1 + (n - (c + 1)) ≤ 1000; omega)
        rw [set98 (by rw [lr]; exact hc)] at c2
        exact c2
      have tab : eCat (eCat (eSl (eVar 6) (oNone) (oSome (eVar 7))) (eTup (aCons (eVar 10) (aNil)))) (eSl (eVar 6) (oSome (e2 dAdd (eVar 7) (eC (.int 1)))) (oNone)) [some (scr ns, 0), some (three98, 9), some (flat98, 9), some (.lst good98, 0), some (.lst odd98, 0), some (.int (Int.ofNat n), 9), some (tabT n max, 9), some (.int (Int.ofNat r), 9), some (.int (Int.ofNat c), 9), some (d, 9), some (.tup ((row98 n r).set c d), 9)] = some (.tup ((rows98 n).set r (.tup ((row98 n r).set c d))), 9, [some (scr ns, 0), some (three98, 9), some (flat98, 9), some (.lst good98, 0), some (.lst odd98, 0), some (.int (Int.ofNat n), 9), some (tabT n max, 9), some (.int (Int.ofNat r), 9), some (.int (Int.ofNat c), 9), some (d, 9), some (.tup ((row98 n r).set c d), 9)]) := by
        have v6 : eVar 6 [some (scr ns, 0), some (three98, 9), some (flat98, 9), some (.lst good98, 0), some (.lst odd98, 0), some (.int (Int.ofNat n), 9), some (tabT n max, 9), some (.int (Int.ofNat r), 9), some (.int (Int.ofNat c), 9), some (d, 9), some (.tup ((row98 n r).set c d), 9)] = some (.tup (rows98 n), 9, [some (scr ns, 0), some (three98, 9), some (flat98, 9), some (.lst good98, 0), some (.lst odd98, 0), some (.int (Int.ofNat n), 9), some (tabT n max, 9), some (.int (Int.ofNat r), 9), some (.int (Int.ofNat c), 9), some (d, 9), some (.tup ((row98 n r).set c d), 9)]) := rfl
        have s1 := eSl98 (fl := oNone) (fh := oSome (eVar 7)) (lo := none) (hi := some (Int.ofNat r)) (ρ3 := [some (scr ns, 0), some (three98, 9), some (flat98, 9), some (.lst good98, 0), some (.lst odd98, 0), some (.int (Int.ofNat n), 9), some (tabT n max, 9), some (.int (Int.ofNat r), 9), some (.int (Int.ofNat c), 9), some (d, 9), some (.tup ((row98 n r).set c d), 9)]) v6 rfl rfl
        have s2 := eSl98 (fl := oSome (e2 dAdd (eVar 7) (eC (.int 1)))) (fh := oNone) (lo := some (Int.ofNat r + 1)) (hi := none) (ρ3 := [some (scr ns, 0), some (three98, 9), some (flat98, 9), some (.lst good98, 0), some (.lst odd98, 0), some (.int (Int.ofNat n), 9), some (tabT n max, 9), some (.int (Int.ofNat r), 9), some (.int (Int.ofNat c), 9), some (d, 9), some (.tup ((row98 n r).set c d), 9)]) v6 rfl rfl
        rw [cutA (by rw [lt]; exact hr)] at s1
        rw [cutB (by rw [lt]; exact hr)] at s2
        have t9 : eTup (aCons (eVar 10) (aNil)) [some (scr ns, 0), some (three98, 9), some (flat98, 9), some (.lst good98, 0), some (.lst odd98, 0), some (.int (Int.ofNat n), 9), some (tabT n max, 9), some (.int (Int.ofNat r), 9), some (.int (Int.ofNat c), 9), some (d, 9), some (.tup ((row98 n r).set c d), 9)] = some (.tup [.tup ((row98 n r).set c d)], 9, [some (scr ns, 0), some (three98, 9), some (flat98, 9), some (.lst good98, 0), some (.lst odd98, 0), some (.int (Int.ofNat n), 9), some (tabT n max, 9), some (.int (Int.ofNat r), 9), some (.int (Int.ofNat c), 9), some (d, 9), some (.tup ((row98 n r).set c d), 9)]) := rfl
        have c1 := eCat98 s1 t9 (by rw [List.length_take, lt]; show min r n + 1 ≤ 1000; omega)
        have c2 := eCat98 c1 s2 (by rw [List.length_append, List.length_take, List.length_drop, lt]; show min r n + 1 + (n - (r + 1)) ≤ 1000; omega)
        rw [set98 (by rw [lt]; exact hr)] at c2
        exact c2
      refine (sSeq_nx (ρ1 := [some (scr ns, 0), some (three98, 9), some (flat98, 9), some (.lst good98, 0), some (.lst odd98, 0), some (.int (Int.ofNat n), 9), some (tabT n max, 9), some (.int (Int.ofNat r), 9), some (.int (Int.ofNat c), 9), some (d, 9), some (.tup ((row98 n r).set c d), 9)]) (sSet_to row rfl)).trans ?_
      exact (sIf_f (tOfB_eq (e2_eq (q' := 9) (eCall_eq (aCons_1 tab) rfl hF) rfl rfl))).trans rfl)
  obtain ⟨j, e⟩ := w1 rfl
  rw [List.map_id'] at e
  refine (sSeq_nx ((sFor_eq it).trans e)).trans ?_
  generalize tabT n max = tn
  generalize Int.ofNat n = ni
  generalize Int.ofNat r = ri
  generalize Int.ofNat c = ci
  kernel_rfl
theorem law_true (ns : List Int) (h63 : ns.length ≤ 63) : ∃ q, F_law [.lst (ns.map D.int)] = some (.bl true, q) := by
  have l := ladders98 ns
  have c3 := chain_ok (m := 3) (by decide) (by decide)
  obtain ⟨w, hw, ew⟩ := pick_ix ns (c := 3) (by decide) (n := 3) (by decide)
  refine ⟨9, ?_⟩
  unfold F_law d_law
  refine fnD_rt ?_
  show sSeq _ _ [some (scr ns, 0), none, none, none, none, none] = _
  have t1 : tNotD (tOfV (eCall F__law_are_ladders_told 1 (aCons (eVar 0) (aNil)))) [some (scr ns, 0), none, none, none, none, none] = some (false, [some (scr ns, 0), none, none, none, none, none]) := tNot_eq (tOfV_eq (eCall_eq (ds := [scr ns]) rfl rfl l))
  have t2 : tNotD (tOfV (eCall F__law_are_charts_told 0 (aNil))) [some (scr ns, 0), none, none, none, none, none] = some (false, [some (scr ns, 0), none, none, none, none, none]) := tNot_eq (tOfV_eq (eCall_eq (ds := []) rfl rfl charts98))
  refine (sSeq_nx (ρ1 := [some (scr ns, 0), none, none, none, none, none]) ((sIf_f ((tOr_f t1).trans t2)).trans rfl)).trans ?_
  have ht : eTup (aCons (eCall F_chain_ladder 1 (aCons (eC (.int 3)) (aNil))) (aCons (eCall F__law_pick 3 (aCons (eVar 0) (aCons (eC (.int 3)) (aCons (eC (.int 3)) (aNil))))) (aNil))) [some (scr ns, 0), none, none, none, none, none] = some (.tup [tabT 3 max, .int (Int.ofNat w)], 9, [some (scr ns, 0), none, none, none, none, none]) := by
    have h : aCons (eCall F_chain_ladder 1 (aCons (eC (.int 3)) (aNil))) (aCons (eCall F__law_pick 3 (aCons (eVar 0) (aCons (eC (.int 3)) (aCons (eC (.int 3)) (aNil))))) (aNil)) [some (scr ns, 0), none, none, none, none, none] = some ([tabT 3 max, .int (Int.ofNat w)], [some (scr ns, 0), none, none, none, none, none]) := aCons_eq (eCall_eq (ds := [.int (Int.ofNat 3)]) rfl rfl c3) (aCons_1 (eCall_eq (ds := [scr ns, .int 3, .int (Int.ofNat 3)]) rfl rfl ew))
    unfold eTup
    rw [h]
    rfl
  refine (sSeq_nx (ρ1 := [some (scr ns, 0), some (tabT 3 max, 9), some (.int (Int.ofNat w), 9), none, none, none]) (sAsg2 ht rfl (show 1 < 6 by decide) (show 2 < 6 by decide))).trans ?_
  match w, hw with
  | 0, _ => kernel_rfl
  | 1, _ => kernel_rfl
  | 2, _ => kernel_rfl
end My
set_option maxHeartbeats 0
namespace My
open PySem PySem.Spec PyProof.Rows L2 L3
noncomputable def A0 (K : PySem.W.Frag) (mg : Str → Option Value) (x : Str) (st : Stmt) : Prop := ∃ f fd, Fun K x x st f fd ∧ mg x = some (.ref f)
theorem A0.mk {K : PySem.W.Frag} {h : Heap} {mg : Str → Option Value} {x : Str} {st : Stmt} {f : Addr} {od an : Option Addr} {sl : Array (Option Value)} {oc kV dc pm cd ct : Value} (X : K.In h) (G : h.Ns mainGlobals mg) (a : PySem.W.nsIn K mainGlobals x = some (some (.ref f))) (l : K.lookup f = some ⟨oc, od, .func (PySem.W.fnOf x x (defArgs st) (defBody st) (defScope st) .none kV dc pm an cd ct), sl⟩) (c : PySem.W.codeIn K cd x = true) (k : PySem.W.keepIn K (.ref f) = true) : A0 K mg x st := ⟨_, _, fun_mk l c k, PySem.W.mg_of X G a⟩
theorem A0.at {K : PySem.W.Frag} {mg : Str → Option Value} {x : Str} {st : Stmt} {ps : List Str} (a : A0 K mg x st) (h : ∀ (kV doc pm : Value) (an : Option Addr) (cdv ct : Value) (us : List Value), us.length = ps.length → bindArgs (PySem.W.fnOf x x (defArgs st) (defBody st) (defScope st) .none kV doc pm an cdv ct) ⟨us, []⟩ = pure (ps.zip us)) : At K mg x st ps := by
  obtain ⟨f, fd, F, m⟩ := a
  exact ⟨f, fd, F, m, F.binds h⟩
theorem all_mk {l : PySem.W.OpenLaw} {w : World} {K : PySem.W.Frag} {h : Heap} {mg : Str → Option Value} {fa : Addr} {f39 : Addr} {od39 an39 : Option Addr} {sl39 : Array (Option Value)} {oc39 kV39 dc39 pm39 cd39 ct39 : Value} {xr xe0 : Addr} (X : K.In h) (G : h.Ns mainGlobals mg) (hfa : mg "law" = some (.ref fa))
    (A1 : A0 K mg "table_of" (top 20))
    (A2 : A0 K mg "chain_ladder" (top 21))
    (A3 : A0 K mg "_law_cell" (top 49))
    (A4 : A0 K mg "_law_pick" (top 50))
    (A5 : A0 K mg "row_of_least" (top 15))
    (A6 : A0 K mg "least_of" (top 17))
    (A7 : A0 K mg "started" (top 39))
    (A8 : A0 K mg "is_whole" (top 5))
    (A9 : A0 K mg "is_number_of" (top 6))
    (A10 : A0 K mg "is_named_number" (top 8))
    (A11 : A0 K mg "is_start" (top 38))
    (A12 : A0 K mg "led_on" (top 41))
    (A13 : A0 K mg "ways_from" (top 40))
    (A14 : A0 K mg "brought" (top 42))
    (A15 : A0 K mg "_law_do" (top 51))
    (A16 : A0 K mg "joins_are_from_either_end" (top 14))
    (A17 : A0 K mg "has_least" (top 16))
    (A18 : A0 K mg "joins_with_itself_stay" (top 12))
    (A19 : A0 K mg "joins_are_either_way" (top 13))
    (A20 : A0 K mg "is_row_of" (top 7))
    (A21 : A0 K mg "is_ladder" (top 11))
    (A22 : A0 K mg "_law_are_ladders_told" (top 52))
    (A23 : A0 K mg "is_many_places" (top 31))
    (A24 : A0 K mg "goes_between" (top 34))
    (A25 : A0 K mg "is_rule" (top 23))
    (A26 : A0 K mg "is_below" (top 18))
    (A27 : A0 K mg "below" (top 19))
    (A28 : A0 K mg "rises" (top 24))
    (A29 : A0 K mg "is_rising_rule" (top 25))
    (A30 : A0 K mg "is_way" (top 33))
    (A31 : A0 K mg "are_ways" (top 32))
    (A32 : A0 K mg "is_begin" (top 36))
    (A33 : A0 K mg "are_begins" (top 35))
    (A34 : A0 K mg "is_chart" (top 30))
    (A35 : A0 K mg "is_call" (top 47))
    (A36 : A0 K mg "is_house" (top 46))
    (A37 : A0 K mg "is_program" (top 45))
    (A38 : A0 K mg "_law_are_charts_told" (top 53))
    (a39 : PySem.W.nsIn K mainGlobals "law" = some (some (.ref f39))) (l39 : K.lookup f39 = some ⟨oc39, od39, .func (PySem.W.fnOf "law" "law" (defArgs (top 54)) (defBody (top 54)) (defScope (top 54)) .none kV39 dc39 pm39 an39 cd39 ct39), sl39⟩) (c39 : PySem.W.codeIn K cd39 "law" = true) (k39 : PySem.W.keepIn K (.ref f39) = true)
    (z1 : PySem.W.nsIn K mainGlobals "ValueError" = some none) (z2 : PySem.W.nsIn K mainGlobals "all" = some none) (z3 : PySem.W.nsIn K mainGlobals "bool" = some none) (z4 : PySem.W.nsIn K mainGlobals "enumerate" = some none) (z5 : PySem.W.nsIn K mainGlobals "int" = some none) (z6 : PySem.W.nsIn K mainGlobals "isinstance" = some none) (z7 : PySem.W.nsIn K mainGlobals "len" = some none) (z8 : PySem.W.nsIn K mainGlobals "max" = some none) (z9 : PySem.W.nsIn K mainGlobals "range" = some none) (z10 : PySem.W.nsIn K mainGlobals "str" = some none) (z11 : PySem.W.nsIn K mainGlobals "tuple" = some none) {tk1 : Tok} (v1 : PySem.W.nsIn K mainGlobals "MOST_BEGINS" = some (some (.int 60 tk1))) {tk2 : Tok} (v2 : PySem.W.nsIn K mainGlobals "MOST_HOUSES" = some (some (.int 4 tk2))) {tk3 : Tok} (v3 : PySem.W.nsIn K mainGlobals "MOST_PLACES" = some (some (.int 8 tk3))) {tk4 : Tok} (v4 : PySem.W.nsIn K mainGlobals "MOST_WAYS" = some (some (.int 60 tk4))) {tk5 : Tok} (v5 : PySem.W.nsIn K mainGlobals "MOST_WORTHS" = some (some (.int 16 tk5))) (t_chain_ladder : ∃ c Pt, PySem.W.tabIn K "chain_ladder" = some (c, Pt)) (xrN : PySem.W.nsIn K mainGlobals "RiseError" = some (some (.ref xr))) (xcg : PySem.W.specialIn K (.builtin "object.__class__") "__get__" = some (some (.builtin "getset_descriptor.__get__"))) (xct : PySem.W.takesIn K (.builtin "object.__class__") = some true) (xrg : PySem.W.findIn K (.ref xr) "__getattribute__" = some (some (.builtin "BaseException.__getattribute__"))) (xrt : PySem.W.findIn K (.ref xr) "__getattr__" = some none) (xrc : PySem.W.findIn K (.ref xr) "__class__" = some (some (.builtin "object.__class__"))) (xro : PySem.W.mroIn K xr (.type "object") = some true) (xrb : PySem.W.mroIn K xr (.type "BaseException") = some true) (xrT : PySem.W.typeIn K (.ref xr) = some (.type "type")) (xe0N : PySem.W.nsIn K mainGlobals "NoStep" = some (some (.ref xe0))) (xe0g : PySem.W.findIn K (.ref xe0) "__getattribute__" = some (some (.builtin "BaseException.__getattribute__"))) (xe0t : PySem.W.findIn K (.ref xe0) "__getattr__" = some none) (xe0c : PySem.W.findIn K (.ref xe0) "__class__" = some (some (.builtin "object.__class__"))) (xe0o : PySem.W.mroIn K xe0 (.type "object") = some true) (xe0b : PySem.W.mroIn K xe0 (.type "BaseException") = some true) (xe0V : PySem.W.mroIn K xe0 (.type "ValueError") = some true) (xe0n0 : PySem.W.mroIn K xe0 (.type "int") = some false) (xe0n1 : PySem.W.mroIn K xe0 (.type "bool") = some false) (xe0n2 : PySem.W.mroIn K xe0 (.type "tuple") = some false) (xe0n3 : PySem.W.mroIn K xe0 (.type "list") = some false) (xe0n4 : PySem.W.mroIn K xe0 (.type "str") = some false) (xe0R : PySem.W.mroIn K xe0 (.ref xr) = some true) (xe0X : PySem.W.excIn K xe0 L3.bmV "ValueError.__new__" = true) :
    ∃ fd : FuncData, (∀ (s : Shared) (v : Value), BindsTo s fd ⟨[v], []⟩ [("_law_script", v)]) ∧ ∀ base : Heap, K.In base → base.Ns mainGlobals mg → Lm K mg base → FnOk l.prog w K mg base CX0 10 fa fd ["_law_script"] (spD K 1 F_law) := by
  have e := hfa.symm.trans (PySem.W.mg_of X G a39)
  cases e
  have B : Bt mg := ⟨PySem.W.mg_none_of X G z1, PySem.W.mg_none_of X G z2, PySem.W.mg_none_of X G z3, PySem.W.mg_none_of X G z4, PySem.W.mg_none_of X G z5, PySem.W.mg_none_of X G z6, PySem.W.mg_none_of X G z7, PySem.W.mg_none_of X G z8, PySem.W.mg_none_of X G z9, PySem.W.mg_none_of X G z10, PySem.W.mg_none_of X G z11, ⟨_, PySem.W.mg_of X G v1⟩, ⟨_, PySem.W.mg_of X G v2⟩, ⟨_, PySem.W.mg_of X G v3⟩, ⟨_, PySem.W.mg_of X G v4⟩, ⟨_, PySem.W.mg_of X G v5⟩⟩
  have xk_xe0 : XKls K "NoStep" xe0 := XKls.of xe0N ⟨L3.ci_of xe0o, xe0g, xe0t, xe0c, xcg, xct, xe0o, xe0b⟩ xe0X xe0V xe0n0 xe0n1 xe0n2 xe0n3 xe0n4
  have T : Xt K mg := ⟨(Under.cons (Under.nil ⟨L3.ci_of xro, xrg, xrt, xrc, xcg, xct, xro, xrb⟩ xrT (PySem.W.mg_of X G xrN)) (PySem.W.mg_of X G xrN) xk_xe0 xe0R), ⟨xe0, ⟨xk_xe0, PySem.W.mg_of X G xe0N⟩⟩, (IsC.self (IsC.nil (PySem.W.mg_of X G xe0N)) xe0N (PySem.W.mg_of X G xe0N))⟩
  refine ⟨PySem.W.fnOf "law" "law" (defArgs (top 54)) (defBody (top 54)) (defScope (top 54)) .none kV39 dc39 pm39 an39 cd39 ct39, fun s v => .of_eq rfl, fun base KX NG L => ?_⟩
  have hy_table_of : ∃ fn, mg "table_of" = some (.ref fn) ∧ PySem.W.keepIn K (.ref fn) = true := by
    obtain ⟨f, fd, F, m⟩ := A1
    exact ⟨f, m, F.kp⟩
  have hT_table_of : ∀ (base : Heap) (ob : D) (G : List D → Option (D × Nat)), CalO l.prog w K mg base 1 ob 2 G → Cal l.prog w K mg base 2 "table_of" 2 (F_table_of ob G) := fun base ob G co => C_table_of B co  (A1.at fun _ _ _ _ _ _ _ h => by obtain ⟨_, _, rfl⟩ := L3.len2 h; rfl)
  have D_chain_ladder := C_chain_ladder B L KX NG t_chain_ladder hT_table_of hy_table_of   (A2.at fun _ _ _ _ _ _ _ h => by obtain ⟨_, rfl⟩ := L3.len1 h; rfl)
  have D__law_cell := C__law_cell (P := l.prog) (w := w) (base := base) B  (A3.at fun _ _ _ _ _ _ _ h => by obtain ⟨_, _, rfl⟩ := L3.len2 h; rfl)
  have D__law_pick := C__law_pick B D__law_cell (A4.at fun _ _ _ _ _ _ _ h => by obtain ⟨_, _, _, rfl⟩ := L3.len3 h; rfl)
  have D_row_of_least := C_row_of_least (P := l.prog) (w := w) (base := base) B  (A5.at fun _ _ _ _ _ _ _ h => by obtain ⟨_, rfl⟩ := L3.len1 h; rfl)
  have D_least_of := C_least_of B D_row_of_least (A6.at fun _ _ _ _ _ _ _ h => by obtain ⟨_, rfl⟩ := L3.len1 h; rfl)
  have D_started := C_started B D_least_of (A7.at fun _ _ _ _ _ _ _ h => by obtain ⟨_, _, _, rfl⟩ := L3.len3 h; rfl)
  have D_is_whole := C_is_whole (P := l.prog) (w := w) (base := base) B  (A8.at fun _ _ _ _ _ _ _ h => by obtain ⟨_, rfl⟩ := L3.len1 h; rfl)
  have D_is_number_of := C_is_number_of B D_is_whole (A9.at fun _ _ _ _ _ _ _ h => by obtain ⟨_, _, rfl⟩ := L3.len2 h; rfl)
  have D_is_named_number := C_is_named_number B D_is_number_of (A10.at fun _ _ _ _ _ _ _ h => by obtain ⟨_, _, rfl⟩ := L3.len2 h; rfl)
  have D_is_start := C_is_start B D_is_named_number (A11.at fun _ _ _ _ _ _ _ h => by obtain ⟨_, _, rfl⟩ := L3.len2 h; rfl)
  have D_led_on := C_led_on (P := l.prog) (w := w) (base := base) B  (A12.at fun _ _ _ _ _ _ _ h => by obtain ⟨_, _, _, rfl⟩ := L3.len3 h; rfl)
  have D_ways_from := C_ways_from (P := l.prog) (w := w) (base := base) B  (A13.at fun _ _ _ _ _ _ _ h => by obtain ⟨_, _, rfl⟩ := L3.len2 h; rfl)
  have D_brought := C_brought B D_is_start D_started D_ways_from D_led_on (A14.at fun _ _ _ _ _ _ _ h => by obtain ⟨_, _, _, _, rfl⟩ := L3.len4 h; rfl)
  have DX_brought := CX_brought B T D_is_start D_ways_from D_led_on D_started (A14.at fun _ _ _ _ _ _ _ h => by obtain ⟨_, _, _, _, rfl⟩ := L3.len4 h; rfl)
  have D__law_do := C__law_do B T D_brought DX_brought (A15.at fun _ _ _ _ _ _ _ h => by obtain ⟨_, _, _, _, rfl⟩ := L3.len4 h; rfl)
  have D_joins_are_from_either_end := C_joins_are_from_either_end (P := l.prog) (w := w) (base := base) B  (A16.at fun _ _ _ _ _ _ _ h => by obtain ⟨_, rfl⟩ := L3.len1 h; rfl)
  have D_has_least := C_has_least B D_row_of_least (A17.at fun _ _ _ _ _ _ _ h => by obtain ⟨_, rfl⟩ := L3.len1 h; rfl)
  have D_joins_with_itself_stay := C_joins_with_itself_stay (P := l.prog) (w := w) (base := base) B  (A18.at fun _ _ _ _ _ _ _ h => by obtain ⟨_, rfl⟩ := L3.len1 h; rfl)
  have D_joins_are_either_way := C_joins_are_either_way (P := l.prog) (w := w) (base := base) B  (A19.at fun _ _ _ _ _ _ _ h => by obtain ⟨_, rfl⟩ := L3.len1 h; rfl)
  have D_is_row_of := C_is_row_of B D_is_number_of (A20.at fun _ _ _ _ _ _ _ h => by obtain ⟨_, _, _, rfl⟩ := L3.len3 h; rfl)
  have D_is_ladder := C_is_ladder B D_is_row_of D_joins_with_itself_stay D_joins_are_either_way D_joins_are_from_either_end D_has_least (A21.at fun _ _ _ _ _ _ _ h => by obtain ⟨_, rfl⟩ := L3.len1 h; rfl)
  have D__law_are_ladders_told := C__law_are_ladders_told B D_chain_ladder D_is_ladder D__law_pick (A22.at fun _ _ _ _ _ _ _ h => by obtain ⟨_, rfl⟩ := L3.len1 h; rfl)
  have D_is_many_places := C_is_many_places B D_is_whole (A23.at fun _ _ _ _ _ _ _ h => by obtain ⟨_, rfl⟩ := L3.len1 h; rfl)
  have D_goes_between := C_goes_between B D_is_number_of (A24.at fun _ _ _ _ _ _ _ h => by obtain ⟨_, _, rfl⟩ := L3.len2 h; rfl)
  have D_is_rule := C_is_rule B D_is_row_of (A25.at fun _ _ _ _ _ _ _ h => by obtain ⟨_, _, rfl⟩ := L3.len2 h; rfl)
  have D_is_below := C_is_below (P := l.prog) (w := w) (base := base) B  (A26.at fun _ _ _ _ _ _ _ h => by obtain ⟨_, _, _, rfl⟩ := L3.len3 h; rfl)
  have D_below := C_below B D_is_below (A27.at fun _ _ _ _ _ _ _ h => by obtain ⟨_, _, rfl⟩ := L3.len2 h; rfl)
  have D_rises := C_rises B D_below D_is_below (A28.at fun _ _ _ _ _ _ _ h => by obtain ⟨_, _, rfl⟩ := L3.len2 h; rfl)
  have D_is_rising_rule := C_is_rising_rule B D_is_rule D_rises (A29.at fun _ _ _ _ _ _ _ h => by obtain ⟨_, _, rfl⟩ := L3.len2 h; rfl)
  have D_is_way := C_is_way B D_goes_between D_is_rising_rule (A30.at fun _ _ _ _ _ _ _ h => by obtain ⟨_, _, _, rfl⟩ := L3.len3 h; rfl)
  have D_are_ways := C_are_ways B D_is_way (A31.at fun _ _ _ _ _ _ _ h => by obtain ⟨_, _, _, rfl⟩ := L3.len3 h; rfl)
  have D_is_begin := C_is_begin B D_is_number_of (A32.at fun _ _ _ _ _ _ _ h => by obtain ⟨_, _, _, rfl⟩ := L3.len3 h; rfl)
  have D_are_begins := C_are_begins B D_is_begin (A33.at fun _ _ _ _ _ _ _ h => by obtain ⟨_, _, _, rfl⟩ := L3.len3 h; rfl)
  have D_is_chart := C_is_chart B D_is_many_places D_are_ways D_are_begins (A34.at fun _ _ _ _ _ _ _ h => by obtain ⟨_, _, rfl⟩ := L3.len2 h; rfl)
  have D_is_call := C_is_call B D_goes_between D_is_number_of (A35.at fun _ _ _ _ _ _ _ h => by obtain ⟨_, _, _, rfl⟩ := L3.len3 h; rfl)
  have D_is_house := C_is_house B D_is_many_places D_is_way D_is_call (A36.at fun _ _ _ _ _ _ _ h => by obtain ⟨_, _, _, rfl⟩ := L3.len3 h; rfl)
  have D_is_program := C_is_program B D_is_house (A37.at fun _ _ _ _ _ _ _ h => by obtain ⟨_, _, rfl⟩ := L3.len2 h; rfl)
  have D__law_are_charts_told := C__law_are_charts_told B D_is_chart D_is_program (A38.at fun _ _ _ _ _ _ _ h => by have e := List.length_eq_zero_iff.mp h; subst e; rfl)
  exact law_ok' B D__law_are_ladders_told D__law_are_charts_told D_chain_ladder D__law_pick D__law_do (fun_mk (st := top 54) l39 c39 k39)
theorem walk {l : PySem.W.OpenLaw} {q : Program} {loose : List Str} {XP : (Str → Option Value) → Heap → Prop} {YP : World → Heap → Prop} {d : DefRec} {K : Params → PySem.W.Frag} (hn : l.most = some 63) (hdf : d.params.defaults = [])
    (hY : ∀ (w : World) (h : Heap), YP w h → (K w.params).In h)
    (F : ∀ (w : World) (mg : Str → Option Value) (fa : Addr) (h : Heap), (K w.params).In h → h.Ns mainGlobals mg → mg d.name = some (.ref fa) → LamR q (K w.params) ∧ PySem.W.noTabs (K w.params) = true ∧
      ∃ fd : FuncData, (∀ (s : Shared) (u : Value), BindsTo s fd ⟨[u], []⟩ [("_law_script", u)]) ∧ ∀ base : Heap, (K w.params).In base → base.Ns mainGlobals mg → Lm (K w.params) mg base → FnOk l.prog w (K w.params) mg base CX0 10 fa fd ["_law_script"] (spD (K w.params) 1 F_law)) :
    PySem.W.WalkO q loose XP YP l.row.toRowW d [] (fun f vs => PySem.call f vs) :=
  walk_ofL (n := 63) (k := 10) (x := "_law_script") (CX := fun _ => CX0) (sp := fun w => spD (K w.params) 1 F_law) hn (by decide) hdf ⟨rfl, by decide, by decide⟩ hY F (fun _ _ a ns hl tb hS => law_sp law_true hl hS tb) fun _ _ _ _ _ z => z
end My
open PySem PySem.W PyProof.Rows
set_option maxRecDepth 100000 in
set_option maxHeartbeats 0 in
theorem PySem.Challenge.cw_ladderhall_k98_whole_edges_holds : PySem.Challenge.rw_ladderhall_k98_whole_edges.Holds := by
  w_on; o_law; k_head; (case hw => w_witness2)
  k_fill
  refine My.walk (l := PySem.Challenge.rw_ladderhall_k98_whole_edges) rfl rfl (fun w h Y => PySem.W.km_in_of Y) ?F
  case F =>
    intro w mg fa h KX G hmg
    refine' ⟨L3.LamR.of ?r1 ?r2 ?r3 ?r4, ?nt, ?al⟩
    (case r1 => refine' .inr (L3.tab_none ?_); k_is)
    (case r2 => exact .inl ⟨_, rfl⟩)
    (case r3 => refine' .inr (L3.tab_none ?_); k_is)
    (case r4 => refine' .inr (L3.tab_none ?_); k_is)
    (case nt => kernel_rfl)
    refine' My.all_mk KX G hmg ?A1 ?A2 ?A3 ?A4 ?A5 ?A6 ?A7 ?A8 ?A9 ?A10 ?A11 ?A12 ?A13 ?A14 ?A15 ?A16 ?A17 ?A18 ?A19 ?A20 ?A21 ?A22 ?A23 ?A24 ?A25 ?A26 ?A27 ?A28 ?A29 ?A30 ?A31 ?A32 ?A33 ?A34 ?A35 ?A36 ?A37 ?A38 ?a39 ?l39 ?c39 ?k39 ?z1 ?z2 ?z3 ?z4 ?z5 ?z6 ?z7 ?z8 ?z9 ?z10 ?z11 ?v1 ?v2 ?v3 ?v4 ?v5 ?t_chain_ladder ?xrN ?xcg ?xct ?xrg ?xrt ?xrc ?xro ?xrb ?xrT ?xe0N ?xe0g ?xe0t ?xe0c ?xe0o ?xe0b ?xe0V ?xe0n0 ?xe0n1 ?xe0n2 ?xe0n3 ?xe0n4 ?xe0R ?xe0X
    (case A1 | A2 | A3 | A4 | A5 | A6 | A7 | A8 | A9 | A10 | A11 | A12 | A13 | A14 | A15 | A16 | A17 | A18 | A19 | A20 | A21 | A22 | A23 | A24 | A25 | A26 | A27 | A28 | A29 | A30 | A31 | A32 | A33 | A34 | A35 | A36 | A37 | A38 => refine' My.A0.mk KX G ?a ?l ?c ?k; (case a => k_is); (case l => k_is); (case c => k_is); (case k => k_is))
    (case a39 => k_is)
    (case l39 => k_is)
    (case c39 => k_is)
    (case k39 => k_is)
    (case z1 => k_is)
    (case z2 => k_is)
    (case z3 => k_is)
    (case z4 => k_is)
    (case z5 => k_is)
    (case z6 => k_is)
    (case z7 => k_is)
    (case z8 => k_is)
    (case z9 => k_is)
    (case z10 => k_is)
    (case z11 => k_is)
    (case v1 => k_is)
    (case v2 => k_is)
    (case v3 => k_is)
    (case v4 => k_is)
    (case v5 => k_is)
    (case t_chain_ladder => refine' L3.tab_mk ?a ?l ?c ?m ?v; (case a => k_is); (case l => k_is); (case c => exact rfl); (case m => k_is); (case v => exact rfl))
    (case xrN => k_is)
    (case xcg => k_is)
    (case xct => k_is)
    (case xrg => k_is)
    (case xrt => k_is)
    (case xrc => k_is)
    (case xro => k_is)
    (case xrb => k_is)
    (case xrT => k_is)
    (case xe0N => k_is)
    (case xe0g => k_is)
    (case xe0t => k_is)
    (case xe0c => k_is)
    (case xe0o => k_is)
    (case xe0b => k_is)
    (case xe0V => k_is)
    (case xe0n0 => k_is)
    (case xe0n1 => k_is)
    (case xe0n2 => k_is)
    (case xe0n3 => k_is)
    (case xe0n4 => k_is)
    (case xe0R => k_is)
    (case xe0X => k_exc)
