import PyProof.Rows.All
import Wide.All
import OpenK.AllK
import Wide.FinOn
import Lean
import PyProof.EqAt
import PyProof.EqKinds
import PyProof.TupleCall
import KE.KIsNot
import PyProof.ExcArgs
import OpenK.KOwn
import KE.LcSums
import PyProof.EnumMake
import PyProof.Draws
import PyProof.Rows.EnumRows
import PyProof.ExcBaseAll.ValueError
import PyProof.NsDelKeeps
import PySem.Challenge.RW_ladderhall_k31_whole_any_order
set_option Elab.async false
set_option linter.all false
set_option maxRecDepth 100000
set_option maxHeartbeats 0
namespace L2
open PySem PySem.Spec PyProof.Rows
noncomputable abbrev Key := Sum Int Str
noncomputable def y4v : Key -> Value -> Bool
  | .inl k, v => Value.isInt k v
  | .inr x, v => Value.isStrOf x v
noncomputable def z9w (w : World) : Key -> Int
  | .inl k => hashInt k
  | .inr x => hashStr w x
theorem x23 : ∀ {k : Key} {v : Value}, y4v k v = true -> (∃ i t, k = Sum.inl i /\ v = Value.int i t) \/ (∃ x t, k = Sum.inr x /\ v = Value.str x t)
  | .inl i, v, h => by
    obtain ⟨t, e⟩ := Value.isInt_shape (k := i) (v := v) h
    exact .inl ⟨i, t, rfl, e⟩
  | .inr x, v, h => by
    obtain ⟨t, e⟩ := Value.isStrOf_shape (x := x) (v := v) h
    exact .inr ⟨x, t, rfl, e⟩
theorem y68 (i : Int) (t : Tok) : y4v (.inl i) (.int i t) = true := by simp [y4v, Value.isInt]
theorem y7b (x : Str) (t : Tok) : y4v (.inr x) (.str x t) = true := by simp [y4v, Value.isStrOf]
theorem z51 (a b : Int) : decide ((Sum.inl a : Key) = Sum.inl b) = (a == b) := by
  by_cases e : a = b
  · subst e; simp
  · have h : ¬ (Sum.inl a : Key) = Sum.inl b := fun q => e (Sum.inl.inj q)
    rw [decide_eq_false h]
    exact (beq_eq_false_iff_ne.mpr e).symm
theorem z5u (a b : Str) : decide ((Sum.inr a : Key) = Sum.inr b) = decide (a = b) := by
  by_cases e : a = b
  · subst e; simp
  · have h : ¬ (Sum.inr a : Key) = Sum.inr b := fun q => e (Sum.inr.inj q)
    rw [decide_eq_false h, decide_eq_false e]
theorem z6b (a : Int) (b : Str) : decide ((Sum.inl a : Key) = Sum.inr b) = false := decide_eq_false (fun q => nomatch q)
theorem z73 (a : Str) (b : Int) : decide ((Sum.inr a : Key) = Sum.inl b) = false := decide_eq_false (fun q => nomatch q)
noncomputable def x2j (prog : Program) (w : World) : PySem.KeyKind prog w Key where
  is := y4v
  hash := z9w w
  inj := fun v a b ha hb => by
    rcases x23 ha with ⟨i, t, rfl, rfl⟩ | ⟨x, t, rfl, rfl⟩
    · rcases x23 hb with ⟨j, u, rfl, e⟩ | ⟨y, u, rfl, e⟩
      · injection e with e1 _; rw [e1]
      · exact nomatch e
    · rcases x23 hb with ⟨j, u, rfl, e⟩ | ⟨y, u, rfl, e⟩
      · exact nomatch e
      · injection e with e1 _; rw [e1]
  byValue := fun k v h => by
    rcases x23 h with ⟨i, t, rfl, rfl⟩ | ⟨x, t, rfl, rfl⟩ <;> rfl
  pyHash := fun hv h => by
    rcases x23 hv with ⟨i, t, rfl, rfl⟩ | ⟨x, t, rfl, rfl⟩
    · exact wpAny_pyHash_int h
    · exact wpAny_pyHash_str h
  eqBool := fun hu hv h => by
    rcases x23 hu with ⟨i, t, rfl, rfl⟩ | ⟨x, t, rfl, rfl⟩
    · rcases x23 hv with ⟨j, u, rfl, rfl⟩ | ⟨y, u, rfl, rfl⟩
      · rw [z51] at h; exact wpAny_eqBool_int h
      · rw [z6b] at h; exact SeqAt.EqAt.int_str i t y u _ _ _ _ h
    · rcases x23 hv with ⟨j, u, rfl, rfl⟩ | ⟨y, u, rfl, rfl⟩
      · rw [z73] at h; exact SeqAt.EqAt.str_int x t j u _ _ _ _ h
      · rw [z5u] at h; exact wpAny_eqBool_str h
  «strs» := fun k x t v h => by
    rcases x23 h with ⟨i, u, rfl, e⟩ | ⟨y, u, rfl, e⟩
    · exact nomatch e
    · injection e with e1 _
      subst e1
      cases v <;> rfl
theorem y2y (prog : Program) (w : World) (i : Int) (t : Tok) : (x2j prog w).is (.inl i) (.int i t) = true := y68 i t
theorem y3e (prog : Program) (w : World) (x : Str) (t : Tok) : (x2j prog w).is (.inr x) (.str x t) = true := y7b x t
inductive V where
  | non | bl (b : Bool) | int (i : Int) | str (x : Str) | byt (b : Array UInt8) | flt (b : UInt64) | ref (a : Addr) | ty (n : String)
  deriving DecidableEq
noncomputable def x36 : V -> Value -> Prop
  | .non, u => u = Value.none
  | .bl b, u => u = Value.bool b
  | .int i, u => ∃ t, u = Value.int i t
  | .str x, u => ∃ t, u = Value.str x t
  | .byt b, u => ∃ t, u = Value.bytes b t
  | .flt b, u => ∃ t, u = Value.float b t
  | .ref a, u => u = Value.ref a
  | .ty n, u => u = Value.type n
noncomputable abbrev x2a : List V -> List Value -> Prop := Paired x36
theorem x2a.length {xs : List V} {us : List Value} (r : x2a xs us) : xs.length = us.length := Paired.length r
theorem x2a.get : ∀ {xs : List V} {us : List Value} {i : Nat} {x : V}, x2a xs us -> xs[i]? = some x -> ∃ u, us[i]? = some u /\ x36 x u
  | _, _, _, _, .nil, e => by simp at e
  | _, _, 0, _, .cons r _, e => by simp at e; subst e; exact ⟨_, rfl, r⟩
  | _, _, i + 1, x, .cons _ t, e => by
    obtain ⟨u, h1, h2⟩ := x2a.get (i := i) (x := x) t (by simpa using e)
    exact ⟨u, by simpa using h1, h2⟩
theorem x2a.set {x : V} {u : Value} (r : x36 x u) : ∀ {xs : List V} {us : List Value} (i : Nat), x2a xs us -> x2a (xs.set i x) (us.set i u)
  | _, _, _, .nil => .nil
  | _, _, 0, .cons _ t => .cons r t
  | _, _, i + 1, .cons q t => .cons q (x2a.set r i t)
theorem x2a.append : ∀ {xs ys : List V} {us ws : List Value}, x2a xs us -> x2a ys ws -> x2a (xs ++ ys) (us ++ ws)
  | _, _, _, _, .nil, s => s
  | _, _, _, _, .cons r t, s => .cons r (x2a.append t s)
theorem x2a.take : ∀ {xs : List V} {us : List Value} (n : Nat), x2a xs us -> x2a (xs.take n) (us.take n)
  | _, _, 0, _ => .nil
  | _, _, _ + 1, .nil => .nil
  | _, _, n + 1, .cons r t => .cons r (x2a.take n t)
theorem x2a.drop : ∀ {xs : List V} {us : List Value} (n : Nat), x2a xs us -> x2a (xs.drop n) (us.drop n)
  | _, _, 0, r => r
  | _, _, _ + 1, .nil => .nil
  | _, _, n + 1, .cons _ t => x2a.drop n t
noncomputable def z38 : Option V -> Option Value -> Prop
  | some v, some u => x36 v u
  | none, none => True
  | _, _ => False
noncomputable def KV {κ : Type} : List (κ × V) -> List (κ × Value) -> Prop := Paired fun (p : κ × V) (q : κ × Value) => p.1 = q.1 /\ x36 p.2 q.2
noncomputable def kV : Key -> V
  | .inl i => .int i
  | .inr x => .str x
inductive HO where
  /-- a list -/
  | lst (xs : List V)
  /-- a tuple (never changes) -/
  | tup (xs : List V)
  /-- a dict whose keys are ints and texts; one whose keys are tuples of ints and texts (the empty one is both) -/
  | dK (kvs : List (Key × V)) | dT (kvs : List (List Key × V))
  /-- a set of ints: its members, its size -/
  | set (S : Int -> Bool) (n : Nat)
  /-- an instance of the class at C, its dict at dx, its attributes -/
  | ins (C dx : Addr) (fs : List (Str × V))
  /-- the dict of the instance at x -/
  | own (x : Addr)
  /-- the dict of an exception -/
  | xd (fs : List (Str × V))
  /-- a bound method, f of x -/
  | met (f x : Addr)
  /-- a range object lo, lo + 1, .. below hi -/
  | rng (lo hi : Int)
  /-- a thing that is known to the object (the script; a dict while a loop walks it): read, never written while it is so -/
  | frz (o : Obj) (u : HO)
  /-- a code object's table -/
  | tbl (ps : Array Value)
  /-- any other thing, by what is true of its one object (a def of one's own: SetO a S n := HO.ext fun h => ..) -/
  | ext (φ : Heap -> Prop)
noncomputable abbrev Hp := Addr -> Option HO
noncomputable def upd (H : Hp) (a : Addr) (o : HO) : Hp := fun b => if b = a then some o else H b
theorem x26 {H : Hp} {a : Addr} {o : HO} : upd H a o a = some o := by unfold upd; rw [if_pos rfl]
theorem x0p {H : Hp} {a b : Addr} {o : HO} (h : b ≠ a) : upd H a o b = H b := by unfold upd; rw [if_neg h]
theorem z0t {H : Hp} {a : Addr} {o u : HO} : upd (upd H a o) a u = upd H a u := by
  funext b; unfold upd; split <;> rfl
theorem x1i {H : Hp} {a b : Addr} {o : HO} (h : H a = some o) (h' : H b = none) : a ≠ b := by
  intro e; subst e; rw [h] at h'; cases h'
noncomputable def x52 (h : Heap) (a : Addr) (items : Array Value) : Prop := ∃ o, h.get? a = some o /\ o.cls = .type "tuple" /\ (∃ n, o.data = .seq items n) /\ o.dict = none
theorem x52.tup {h : Heap} {a : Addr} {items : Array Value} (x : x52 h a items) : IsTup h a items := let ⟨o, e, c, n, _⟩ := x; ⟨o, e, c, n⟩
theorem x52.new (h : Heap) (items : Array Value) : x52 (h.push { cls := .type "tuple", data := .seq items }) h.objs.size items := ⟨_, Heap.get?_push_size _ rfl, rfl, ⟨_, rfl⟩, rfl⟩
theorem x52.lt {h : Heap} {a : Addr} {items : Array Value} (x : x52 h a items) : a < h.objs.size := let ⟨_, e, _⟩ := x; Heap.lt_size e
section
variable (P : Program) (w : World)
noncomputable def x2d (H : Hp) (h : Heap) (a : Addr) : HO -> Prop
  | .lst xs => xs.length <= sizeLine /\ ∃ (its : List Value) (n : Nat), x2a xs its /\ h.get? a = some { cls := .type "list", data := .seq its.toArray n }
  | .tup xs => xs.length <= sizeLine /\ ∃ its : List Value, x2a xs its /\ x52 h a its.toArray
  | .dK kvs => kvs.length <= sizeLine /\ (a == sysModules) = false /\ ∃ vs, KV kvs vs /\ h.DictOf (x2j P w) a vs
  | .dT kvs => kvs.length <= sizeLine /\ (a == sysModules) = false /\ ∃ xs : List (List Key × Addr × Value),
      Paired (fun (p : List Key × V) (q : List Key × Addr × Value) => p.1 = q.1 /\ H q.2.1 = some (.tup (p.1.map kV)) /\ x36 p.2 q.2.2) kvs xs /\
      ∃ o es ep, h.get? a = some o /\ o.ExactDict /\ o.data = .dict es ep /\ es.toList = xs.map (entryOfKey (tupleKind (x2j P w))) /\ (xs.map (·.1)).Nodup
  | .set S n => h.SetOf (intKind P w) a S n
  | .ins C dx fs => H dx = some (.own a) /\ fs.length <= 1000 /\ dx ≠ a /\ h.get? a = some (PySem.W.instObj C dx) /\
      ∃ mA, h.Ns1 dx mA /\ (∀ f, z38 (fs.lookup f) (mA f)) /\ PySem.Within mA (fs.map (·.1))
  | .own _ => ∃ o, h.get? a = some o
  | .xd fs => ∃ mA, h.Ns1 a mA /\ ∀ f, z38 (fs.lookup f) (mA f)
  | .rng lo hi => ∃ t u v, h.get? a = some { cls := .type "range", data := .fields #[.int lo t, .int hi u, .int 1 v] }
  | .frz o u => h.get? a = some o /\ x2d H h a u
  | .tbl ps => h.get? a = some { cls := .none, data := .fields ps }
  | .met f x => h.get? a = some (PySem.W.methodObj (.ref f) (.ref x))
  | .ext φ => φ h /\ (∃ o, h.get? a = some o) /\ ∀ h1 h2 : Heap, φ h1 -> (∀ o, h1.get? a = some o -> h2.get? a = some o) -> φ h2
noncomputable def HOk (H : Hp) (h : Heap) : Prop := ∀ a o, H a = some o -> x2d P w H h a o
end
section
variable {P : Program} {w : World} {H H' : Hp} {h h' : Heap} {a : Addr} {o : HO}
theorem x2d.lt (x : x2d P w H h a o) : a < h.objs.size := by
  cases o with
  | lst xs => obtain ⟨_, _, _, _, e⟩ := x; exact Heap.lt_size e
  | tup xs => obtain ⟨_, _, _, p⟩ := x; exact p.lt
  | dK kvs => obtain ⟨_, _, _, _, o, _, _, e, _⟩ := x; exact Heap.lt_size e
  | dT kvs => obtain ⟨_, _, _, _, o, _, _, e, _⟩ := x; exact Heap.lt_size e
  | set S n => obtain ⟨o, _, _, _, e, _⟩ := x; exact Heap.lt_size e
  | ins C dx fs => obtain ⟨_, _, _, e, _⟩ := x; exact Heap.lt_size e
  | own y => obtain ⟨_, e⟩ := x; exact Heap.lt_size e
  | xd fs => obtain ⟨_, ⟨_, _, _, e, _⟩, _⟩ := x; exact Heap.lt_size e
  | rng lo hi => obtain ⟨_, _, _, e⟩ := x; exact Heap.lt_size e
  | frz ob u => obtain ⟨e, _⟩ := x; exact Heap.lt_size e
  | tbl ps => exact Heap.lt_size (show h.get? a = some _ from x)
  | met f y => exact Heap.lt_size (show h.get? a = some _ from x)
  | ext φ => obtain ⟨_, ⟨_, e⟩, _⟩ := x; exact Heap.lt_size e
theorem Paired.mapP {α β : Type} {F G : α -> β -> Prop} : ∀ {l₁ : List α} {l₂ : List β}, Paired F l₁ l₂ -> (∀ a b, F a b -> G a b) -> Paired G l₁ l₂
  | _, _, .nil, _ => .nil
  | _, _, .cons r t, f => .cons (f _ _ r) (Paired.mapP t f)
theorem x2d.stay (x : x2d P w H h a o) (k : ∀ b u, (b = a \/ H b = some (.own a)) -> h.get? b = some u -> h'.get? b = some u)
    (ho : ∀ b, H b = some (.own a) -> H' b = some (.own a)) (ht : ∀ b xs, H b = some (.tup xs) -> H' b = some (.tup xs)) : x2d P w H' h' a o := by
  induction o with
  | lst xs => obtain ⟨z, its, n, r, e⟩ := x; exact ⟨z, its, n, r, k _ _ (.inl rfl) e⟩
  | tup xs => obtain ⟨z, its, r, ob, e, c⟩ := x; exact ⟨z, its, r, ob, k _ _ (.inl rfl) e, c⟩
  | dK kvs => obtain ⟨z, y, vs, r, ob, es, ep, e, c⟩ := x; exact ⟨z, y, vs, r, ob, es, ep, k _ _ (.inl rfl) e, c⟩
  | dT kvs =>
    obtain ⟨z, y, xs, r, ob, es, ep, e, c⟩ := x
    exact ⟨z, y, xs, Paired.mapP r fun p q z => ⟨z.1, ht _ _ z.2.1, z.2.2⟩, ob, es, ep, k _ _ (.inl rfl) e, c⟩
  | set S n => obtain ⟨ob, es, ep, t, e, c⟩ := x; exact ⟨ob, es, ep, t, k _ _ (.inl rfl) e, c⟩
  | ins C dx fs =>
    obtain ⟨d, z, ne, e, mA, ⟨od, es, ep, e2, c⟩, r⟩ := x
    exact ⟨ho _ d, z, ne, k _ _ (.inl rfl) e, mA, ⟨od, es, ep, k _ _ (.inr d) e2, c⟩, r⟩
  | own y => obtain ⟨ob, e⟩ := x; exact ⟨ob, k _ _ (.inl rfl) e⟩
  | xd fs => obtain ⟨mA, ⟨od, es, ep, e, c⟩, r⟩ := x; exact ⟨mA, ⟨od, es, ep, k _ _ (.inl rfl) e, c⟩, r⟩
  | rng lo hi => obtain ⟨t, u, v, e⟩ := x; exact ⟨t, u, v, k _ _ (.inl rfl) e⟩
  | frz ob u ih => obtain ⟨e, q⟩ := x; exact ⟨k _ _ (.inl rfl) e, ih q⟩
  | tbl ps =>
    have e : h.get? a = some { cls := .none, data := .fields ps } := x
    show h'.get? a = some { cls := .none, data := .fields ps }
    exact k a _ (.inl rfl) e
  | met f y =>
    have e : h.get? a = some (PySem.W.methodObj (.ref f) (.ref y)) := x
    show h'.get? a = some (PySem.W.methodObj (.ref f) (.ref y))
    exact k a _ (.inl rfl) e
  | ext φ => obtain ⟨p, ⟨o, e⟩, st⟩ := x; exact ⟨st _ _ p fun o q => k _ _ (.inl rfl) q, ⟨o, k _ _ (.inl rfl) e⟩, st⟩
theorem HOk.lt (x : HOk P w H h) (e : H a = some o) : a < h.objs.size := (x a o e).lt
theorem HOk.fresh (x : HOk P w H h) (e : h.objs.size <= a) : H a = none := by
  cases q : H a with
  | none => rfl
  | some u => exact absurd (Nat.lt_of_lt_of_le (x.lt q) e) (Nat.lt_irrefl _)
theorem HOk.kept (x : HOk P w H h) (k : ∀ b u, h.get? b = some u -> h'.get? b = some u) : HOk P w H h' := fun a o e =>
  (x a o e).stay (fun b u _ q => k b u q) (fun _ q => q) fun _ _ q => q
theorem HOk.laid (x : HOk P w H h) (k : ∀ b u, h.get? b = some u -> h'.get? b = some u) (hp : h.objs.size <= a) (new : x2d P w (upd H a o) h' a o) : HOk P w (upd H a o) h' := fun b u e => by
  have hn := x.fresh hp
  by_cases hb : b = a
  · subst hb; rw [x26] at e; cases e; exact new
  · rw [x0p hb] at e
    exact (x b u e).stay (fun c v _ q => k c v q) (fun c q => by rw [x0p (x1i q hn)]; exact q) fun c xs q => by rw [x0p (x1i q hn)]; exact q
end
noncomputable def Rd (H : Hp) (a : Addr) (u : HO) : Prop := H a = some u \/ ∃ o, H a = some (.frz o u)
theorem Rd.of {H : Hp} {a : Addr} {u : HO} (h : H a = some u) : Rd H a u := .inl h
theorem Rd.ok {P : Program} {w : World} {H : Hp} {h : Heap} {a : Addr} {u : HO} (r : Rd H a u) (x : HOk P w H h) : x2d P w H h a u := by
  rcases r with r | ⟨o, r⟩
  · exact x a u r
  · obtain ⟨_, q⟩ := x a _ r
    exact q
noncomputable def Mut : Option HO -> Prop
  | some (.lst _) => True
  | some (.dK _) => True
  | some (.dT _) => True
  | some (.set _ _) => True
  | some (.ins _ _ _) => True
  | some (.ext _) => True
  | _ => False
section
variable {P : Program} {w : World} {H : Hp} {h h' : Heap} {x e : Addr} {o' : HO}
theorem HOk.write (ok : HOk P w H h) (mu : Mut (H x)) (he : e = x \/ H e = some (.own x)) (k : ∀ b u, b ≠ e -> h.get? b = some u -> h'.get? b = some u) (heo : ∃ u, h'.get? e = some u)
    (new : x2d P w (upd H x o') h' x o') : HOk P w (upd H x o') h' := fun b u q => by
  have nown : ∀ c y, H c = some (.own y) -> c ≠ x := fun c y r z => by subst z; rw [r] at mu; exact mu
  have ntup : ∀ c xs, H c = some (.tup xs) -> c ≠ x := fun c xs r z => by subst z; rw [r] at mu; exact mu
  by_cases hb : b = x
  · subst hb; rw [x26] at q; cases q; exact new
  · rw [x0p hb] at q
    by_cases hbe : b = e
    · have q' : H b = some (.own x) := by
        rcases he with z | z
        · exact absurd (hbe.trans z) hb
        · rw [hbe]; exact z
      rw [q] at q'; cases q'
      obtain ⟨v, hv⟩ := heo
      exact ⟨v, by rw [hbe]; exact hv⟩
    · refine (ok b u q).stay (fun c v hc r => k c v ?_ r) (fun c r => by rw [x0p (nown c b r)]; exact r) fun c xs r => by rw [x0p (ntup c xs r)]; exact r
      rcases hc with rfl | hc
      · exact hbe
      · rintro rfl
        rcases he with z | z
        · exact nown c b hc z
        · rw [hc] at z; cases z; exact hb rfl
end
structure Un (fs ex : List Addr) (H H' : Hp) (h h' : Heap) : Prop where
  keep : ∀ b o, h.get? b = some o -> H b = none -> b ∉ fs -> b ∉ ex -> h'.get? b = some o
  slot : ∀ b o, h.get? b = some o -> H b = none -> b ∈ fs -> b ∉ ex -> ∃ sl, h'.get? b = some { o with slots := sl }
  free : ∀ b o, h.get? b = some o -> H b = none -> b ∉ ex -> H' b = none
  there : ∀ b o, h.get? b = some o -> b ∉ ex -> ∃ o', h'.get? b = some o'
  tups : ∀ b xs, H b = some (.tup xs) -> H' b = some (.tup xs)
  frzs : ∀ b o u, H b = some (.frz o u) -> H' b = some (.frz o u)
  tbls : ∀ b ps, H b = some (.tbl ps) -> ∃ more, H' b = some (.tbl (ps ++ more))
section
variable {fs fs' ex ex' : List Addr} {H H1 H2 : Hp} {h h1 h2 h' : Heap} {a x e : Addr} {o : HO}
theorem Un.any (u : Un fs ex H H1 h h1) {b : Addr} {ob : Obj} (q : h.get? b = some ob) (n : H b = none) (hx : b ∉ ex) : ∃ sl, h1.get? b = some { ob with slots := sl } := by
  by_cases hb : b ∈ fs
  · exact u.slot b ob q n hb hx
  · exact ⟨ob.slots, u.keep b ob q n hb hx⟩
theorem Un.kept (k : ∀ b u, h.get? b = some u -> h'.get? b = some u) : Un fs ex H H h h' :=
  ⟨fun b ob q _ _ _ => k b ob q, fun b ob q _ _ _ => ⟨ob.slots, k b ob q⟩, fun _ _ _ n _ => n, fun b ob q _ => ⟨ob, k b ob q⟩, fun _ _ q => q, fun _ _ _ q => q, fun _ ps q => ⟨#[], by rw [q]; simp⟩⟩
theorem Un.refl : Un fs ex H H h h := Un.kept fun _ _ q => q
theorem Un.laid (k : ∀ b u, h.get? b = some u -> h'.get? b = some u) (hp : h.objs.size <= a) (hn : H a = none) : Un fs ex H (upd H a o) h h' where
  keep := fun b u q _ _ _ => k b u q
  slot := fun b u q _ _ _ => ⟨u.slots, k b u q⟩
  free := fun b u q n _ => by rw [x0p (Nat.ne_of_lt (Nat.lt_of_lt_of_le (Heap.lt_size q) hp))]; exact n
  there := fun b u q _ => ⟨u, k b u q⟩
  tups := fun b xs q => by rw [x0p (x1i q hn)]; exact q
  frzs := fun b u xs q => by rw [x0p (x1i q hn)]; exact q
  tbls := fun b ps q => ⟨#[], by rw [x0p (x1i q hn), q]; simp⟩
theorem Un.write (mu : Mut (H x)) (he : e = x \/ H e = some (.own x)) (k : ∀ b u, b ≠ e -> h.get? b = some u -> h'.get? b = some u) (heo : ∃ u, h'.get? e = some u) : Un fs ex H (upd H x o) h h' := by
  have hx : ∀ b, H b = none -> b ≠ x := fun b n z => by subst z; rw [n] at mu; exact mu
  have hb : ∀ b, H b = none -> b ≠ e := fun b n z => by
    subst z
    rcases he with r | r
    · exact hx b n r
    · rw [n] at r; cases r
  have hm : ∀ b u, H b = some u -> ¬ Mut (some u) -> b ≠ x := fun b u q nm z => by subst z; rw [q] at mu; exact nm mu
  refine ⟨fun b u q n _ _ => k b u (hb b n) q, fun b u q n _ _ => ⟨u.slots, k b u (hb b n) q⟩, fun b u q n _ => by rw [x0p (hx b n)]; exact n, fun b u q _ => ?_,
    fun b xs q => by rw [x0p (hm b _ q fun z => z)]; exact q, fun b u xs q => by rw [x0p (hm b _ q fun z => z)]; exact q, fun b ps q => ⟨#[], by rw [x0p (hm b _ q fun z => z), q]; simp⟩⟩
  by_cases hbe : b = e
  · subst hbe; exact heo
  · exact ⟨u, k b u hbe q⟩
end
noncomputable def trk (h : Heap) (H : Hp) : List Addr := (List.range h.objs.size).filter fun a => (H a).isSome
noncomputable def y7x (h : Heap) (H : Hp) : Heap := PySem.W.hideAll h (trk h H)
theorem y5t (h : Heap) (H : Hp) : (y7x h H).objs.size = h.objs.size := PySem.W.hideAll_size _ _
theorem y8i {h : Heap} {H : Hp} {b : Addr} {o : Obj} (e : h.get? b = some o) (n : H b = none) : (y7x h H).get? b = some o :=
  PySem.W.hideAll_get _ e fun hm => by
    have q : (H b).isSome = true := (List.mem_filter.mp hm).2
    rw [n] at q; simp at q
theorem z2o {h : Heap} {H : Hp} {b : Addr} {o : Obj} (e : (y7x h H).get? b = some o) : h.get? b = some o /\ H b = none := by
  have e' : h.get? b = some o := PySem.W.of_hideAll (trk h H) e
  refine ⟨e', ?_⟩
  cases q : H b with
  | none => rfl
  | some x =>
    have hm : b ∈ trk h H := List.mem_filter.mpr ⟨List.mem_range.mpr (Heap.lt_size e'), by simp [q]⟩
    have z : (y7x h H).get? b = none := PySem.W.hideAll_none (trk h H) hm
    rw [z] at e; cases e
noncomputable def z2w (g h : Heap) (L : Addr) : List (Addr × Obj) := (List.range h.objs.size).filterMap fun a => if a = L \/ (g.get? a).isSome = true then none else (h.get? a).map fun o => (a, o)
noncomputable def x25 (g h : Heap) (L d : Addr) : List (Addr × Obj) := (z2w g h L).filter fun p => decide (p.1 ≠ d)
structure Mod (K : PySem.W.Frag) (mg : Str -> Option Value) (base : Heap) : Prop where
  kin : K.In base
  glob : base.Ns mainGlobals mg
  blt : ∃ mb, base.Ns builtinsNs mb /\ ∀ x : Str, x ≠ "__name__" -> mb x = bootBuiltins x
  nolimit : base.NoLimit
structure Cx where
  prog : Program
  w : World
  K : PySem.W.Frag
  mg : Str -> Option Value
  base : Heap
  A : Around
  N : List Str
  s₀ : Shared
  H₀ : Hp
  env : Env
  outer : List Env
  stack : List Env
  ex : List Addr
  fn : Str -> Bool
  calm : Bool
  pn : List (Addr × Obj)
  xe : Value -> Shared -> Prop
noncomputable def frs (l : List Env) : List Addr := l.filterMap (·.frame)
noncomputable abbrev Cx.fs (X : Cx) : List Addr := frs X.outer
noncomputable def Vis (sc : Scope) (x : Str) : Prop := sc.names.lookup x = some .local \/ sc.names.lookup x = some .cell \/ sc.names.lookup x = some .free
noncomputable def Loc (sc : Scope) (x : Str) : Prop := sc.names.lookup x = some .local \/ sc.names.lookup x = some .cell
noncomputable def z9k (env : Env) (h : Heap) (m : Str -> Option Value) (x : Str) (u : Value) : Prop :=
  (env.kindOf x = some .local /\ m x = some u) \/ ((env.kindOf x = some .cell \/ env.kindOf x = some .free) /\ ∃ c, env.cells.lookup x = some c /\ h.IsCell c (some u))
structure Cx.Ok (X : Cx) : Prop where
  mod : Mod X.K X.mg X.base
  kind : X.env.scope.kind = .function
  glob : X.env.globals = mainGlobals
  blt : X.env.builtins = builtinsNs
  above : X.s₀.heap.objs.size <= X.env.locals
  inj : ∀ x y c, X.env.cells.lookup x = some c -> X.env.cells.lookup y = some c -> x = y
  has : ∀ x, (X.env.kindOf x = some .cell \/ X.env.kindOf x = some .free) -> ∃ c, X.env.cells.lookup x = some c
  cab : ∀ x c, X.fn x = true -> X.env.cells.lookup x = some c -> X.s₀.heap.objs.size <= c
  hd : X.calm = true -> X.A.handled = none
  frames : X.A.frames = some X.stack
  stk : X.stack = X.outer \/ (X.stack = X.env :: X.outer /\ X.env.frame = some X.env.locals)
  exf : ∀ b ∈ X.ex, b ≠ X.env.locals /\ ∀ x c, X.env.cells.lookup x = some c -> c ≠ b
  bs : ∀ b o, X.base.get? b = some o -> X.s₀.heap.get? b = some o /\ X.H₀ b = none
  bsz : X.base.objs.size <= X.s₀.heap.objs.size
  noex : ∀ b o, X.base.get? b = some o -> b ∉ X.ex
  exfs : ∀ b ∈ X.ex, b ∉ X.fs
  funs : X.s₀.heap.FunFrames X.base X.outer
  frf : ∀ b ∈ X.fs, X.H₀ b = none
structure Inv (X : Cx) (pins : List (Addr × Obj)) (σ : List (Option V)) (H : Hp) (s : Shared) : Prop where
  ok : X.Ok
  os : s.os = X.s₀.os
  bare : AllBare s.gens
  base : Un X.fs X.ex X.H₀ H X.s₀.heap s.heap
  loc : ∃ m, s.heap.Ns X.env.locals m /\ ∀ (i : Nat) (x : Str) (v : V), X.N[i]? = some x -> σ[i]? = some (some v) -> Vis X.env.scope x -> ∃ u, x36 v u /\ z9k X.env s.heap m x u
  cell : ∀ x c, X.env.cells.lookup x = some c -> ∃ v, s.heap.IsCell c v
  free : H X.env.locals = none
  freeC : ∀ x c, X.env.cells.lookup x = some c -> H c = none
  pin : ∀ p ∈ X.pn ++ pins, s.heap.get? p.1 = some p.2 /\ H p.1 = none /\ p.1 ≠ X.env.locals /\ p.1 ∉ X.fs /\ ∀ v, p.2.data ≠ .cell v
  hok : HOk X.prog X.w H s.heap
  len : σ.length = X.N.length
section
variable {X : Cx} {pins : List (Addr × Obj)} {σ : List (Option V)} {H H' : Hp} {s : Shared} {h' : Heap}
theorem Cx.Ok.nofr (ok : X.Ok) {b : Addr} {o : Obj} (e : X.base.get? b = some o) : b ∉ X.fs := fun hb => by
  have := (ok.funs.mem hb).1
  rw [e] at this; cases this
theorem Inv.bs (I : Inv X pins σ H s) : ∀ b o, X.base.get? b = some o -> s.heap.get? b = some o /\ H b = none := fun b o e =>
  ⟨I.base.keep b o (I.ok.bs b o e).1 (I.ok.bs b o e).2 (I.ok.nofr e) (I.ok.noex b o e), I.base.free b o (I.ok.bs b o e).1 (I.ok.bs b o e).2 (I.ok.noex b o e)⟩
theorem Inv.bk (I : Inv X pins σ H s) : ∀ b o, X.base.get? b = some o -> s.heap.get? b = some o := fun b o e => (I.bs b o e).1
theorem Inv.mod (I : Inv X pins σ H s) : Mod X.K X.mg X.base := I.ok.mod
theorem Inv.kIn (I : Inv X pins σ H s) : X.K.In s.heap := I.ok.mod.kin.keeps I.bk
theorem Inv.fr (I : Inv X pins σ H s) : ∃ m, Fr X.base X.env.locals s.heap m :=
  let ⟨m, hn, _⟩ := I.loc
  ⟨m, hn, I.bk, Nat.le_trans I.ok.bsz I.ok.above⟩
theorem Inv.lt (I : Inv X pins σ H s) : X.env.locals < s.heap.objs.size := let ⟨_, hn, _⟩ := I.loc; hn.lt
theorem Inv.sz (I : Inv X pins σ H s) : X.s₀.heap.objs.size <= s.heap.objs.size := Nat.le_trans I.ok.above (Nat.le_of_lt I.lt)
theorem Inv.nofs (I : Inv X pins σ H s) {a : Addr} (h : s.heap.objs.size <= a) : a ∉ X.fs := fun hb => by
  obtain ⟨_, o, ho, _⟩ := I.ok.funs.mem hb
  exact absurd (Nat.lt_of_lt_of_le (Heap.lt_size ho) (Nat.le_trans I.sz h)) (Nat.lt_irrefl _)
theorem Inv.cne (I : Inv X pins σ H s) : ∀ x c, X.env.cells.lookup x = some c -> c ≠ X.env.locals := fun x c e z => by
  obtain ⟨v, o, ho, hd⟩ := I.cell x c e
  obtain ⟨m, ⟨o', es, ep, ho', hd', _⟩, _⟩ := I.loc
  rw [z, ho'] at ho; cases ho; rw [hd'] at hd; cases hd
theorem Inv.funs (I : Inv X pins σ H s) : s.heap.FunFrames X.base X.outer := by
  have all : ∀ (l : List Env), (∀ b ∈ frs l, b ∈ X.fs) -> X.s₀.heap.FunFrames X.base l -> s.heap.FunFrames X.base l := by
    intro l
    induction l with
    | nil => intro _ _; trivial
    | cons env r ih =>
      intro hs hl
      obtain ⟨hk, ⟨L, o, hf, hn, ho, hd⟩, hr⟩ := hl
      have hL : L ∈ X.fs := hs L (by unfold frs; rw [List.filterMap_cons, hf]; exact List.mem_cons_self)
      obtain ⟨sl, e⟩ := I.base.slot L o ho (I.ok.frf L hL) hL fun z => I.ok.exfs L z hL
      exact ⟨hk, ⟨L, _, hf, hn, e, hd⟩, ih (fun b hb => hs b (by unfold frs; rw [List.filterMap_cons, hf]; exact List.mem_cons_of_mem _ hb)) hr⟩
  exact all X.outer (fun _ hb => hb) I.ok.funs
theorem Inv.stack (I : Inv X pins σ H s) : s.heap.FunFrames X.base X.stack := by
  rcases I.ok.stk with e | ⟨e, hf⟩
  · rw [e]; exact I.funs
  · rw [e]
    obtain ⟨m, hn, _⟩ := I.loc
    refine .cons (by rw [I.ok.kind]; decide) hf hn ?_ I.funs
    exact Heap.get?_none_of_le (Nat.le_trans I.ok.bsz I.ok.above)
theorem Inv.stkSub (I : Inv X pins σ H s) : ∀ b ∈ frs X.stack, b ∈ X.env.locals :: X.fs := fun b hb => by
  rcases I.ok.stk with e | ⟨e, hf⟩
  · rw [e] at hb; exact List.mem_cons_of_mem _ hb
  · rw [e] at hb
    unfold frs at hb
    rw [List.filterMap_cons, hf] at hb
    exact hb
theorem Inv.stkFree (I : Inv X pins σ H s) : ∀ b ∈ frs X.stack, H b = none := fun b hb => by
  rcases List.mem_cons.mp (I.stkSub b hb) with e | hb
  · rw [e]; exact I.free
  · obtain ⟨_, o, ho, _⟩ := I.ok.funs.mem hb
    exact I.base.free b o ho (I.ok.frf b hb) fun z => I.ok.exfs b z hb
theorem Inv.step {g' : Array GenState} {t' : Nat} {d' : Drawn} {ch : List Addr} (I : Inv X pins σ H s)
    (hch : ∀ b ∈ ch, (b ∈ X.ex \/ X.s₀.heap.objs.size <= b) /\ b ≠ X.env.locals /\ (∀ x c, X.env.cells.lookup x = some c -> c ≠ b) /\ ∀ p ∈ X.pn ++ pins, p.1 ≠ b)
    (keep : ∀ b o, b ≠ X.env.locals -> b ∉ X.fs -> b ∉ ch -> s.heap.get? b = some o -> H b = none -> h'.get? b = some o)
    (slot : ∀ b o, b ≠ X.env.locals -> b ∈ X.fs -> b ∉ ch -> s.heap.get? b = some o -> H b = none -> ∃ sl, h'.get? b = some { o with slots := sl }) (free : ∀ b o, b ∉ ch -> s.heap.get? b = some o -> H b = none -> H' b = none)
    (there : ∀ b o, b ∉ ch -> s.heap.get? b = some o -> ∃ o', h'.get? b = some o')
    (tups : ∀ b xs, H b = some (.tup xs) -> H' b = some (.tup xs)) (frzs : ∀ b o u, H b = some (.frz o u) -> H' b = some (.frz o u)) (tbls : ∀ b ps, H b = some (.tbl ps) -> ∃ more, H' b = some (.tbl (ps ++ more)))
    (ns : ∀ m, s.heap.Ns X.env.locals m -> h'.Ns X.env.locals m) (hok : HOk X.prog X.w H' h') (hg : AllBare g') :
    Inv X pins σ H' { s with heap := h', gens := g', drawn := d', toks := t' } := by
  have neL : ∀ b o, X.s₀.heap.get? b = some o -> b ≠ X.env.locals := fun b o e => Nat.ne_of_lt (Nat.lt_of_lt_of_le (Heap.lt_size e) I.ok.above)
  have neC : ∀ b o, X.s₀.heap.get? b = some o -> b ∉ X.ex -> b ∉ ch := fun b o e hx hb => by
    rcases (hch b hb).1 with z | z
    · exact hx z
    · exact absurd (Nat.lt_of_lt_of_le (Heap.lt_size e) z) (Nat.lt_irrefl _)
  have cellK : ∀ x c, X.env.cells.lookup x = some c -> ∀ v, s.heap.IsCell c v -> h'.IsCell c v := fun x c e v hh0 => by
    obtain ⟨o, ho, hd⟩ := hh0
    have nch : c ∉ ch := fun z => (hch c z).2.2.1 x c e rfl
    by_cases hc : c ∈ X.fs
    · obtain ⟨sl, q⟩ := slot c o (I.cne x c e) hc nch ho (I.freeC x c e)
      exact ⟨_, q, hd⟩
    · exact ⟨o, keep c o (I.cne x c e) hc nch ho (I.freeC x c e), hd⟩
  refine ⟨I.ok, I.os, hg, ⟨fun b o e n hb hx => ?_, fun b o e n hb hx => ?_, fun b o e n hx => ?_, fun b o e hx => ?_, fun b xs e => tups b xs (I.base.tups b xs e), fun b o xs e => frzs b o xs (I.base.frzs b o xs e), fun b ps e => ?_⟩, ?_, fun x c e => ?_, ?_, fun x c e => ?_, fun p hp => ?_, hok, I.len⟩
  · exact keep b o (neL b o e) hb (neC b o e hx) (I.base.keep b o e n hb hx) (I.base.free b o e n hx)
  · obtain ⟨sl, e1⟩ := I.base.slot b o e n hb hx
    obtain ⟨sl', e2⟩ := slot b _ (neL b o e) hb (neC b o e hx) e1 (I.base.free b o e n hx)
    exact ⟨sl', e2⟩
  · obtain ⟨o', e1⟩ := I.base.there b o e hx
    exact free b o' (neC b o e hx) e1 (I.base.free b o e n hx)
  · obtain ⟨o', e1⟩ := I.base.there b o e hx
    exact there b o' (neC b o e hx) e1
  · obtain ⟨m1, e1⟩ := I.base.tbls b ps e
    obtain ⟨m2, e2⟩ := tbls b _ e1
    exact ⟨m1 ++ m2, by rw [e2, Array.append_assoc]⟩
  · obtain ⟨m, hn, hl⟩ := I.loc
    refine ⟨m, ns m hn, fun i x v e1 e2 e3 => ?_⟩
    obtain ⟨u, r, l⟩ := hl i x v e1 e2 e3
    refine ⟨u, r, ?_⟩
    rcases l with l | ⟨k, c, e, z⟩
    · exact .inl l
    · exact .inr ⟨k, c, e, cellK x c e _ z⟩
  · obtain ⟨v, z⟩ := I.cell x c e
    exact ⟨v, cellK x c e v z⟩
  · obtain ⟨m, ⟨o, _, _, ho, _⟩, _⟩ := I.loc
    exact free _ o (fun z => (hch _ z).2.1 rfl) ho I.free
  · obtain ⟨v, o, ho, hd⟩ := I.cell x c e
    exact free c o (fun z => (hch c z).2.2.1 x c e rfl) ho (I.freeC x c e)
  · obtain ⟨e, n, ne, nf, d⟩ := I.pin p hp
    have nch : p.1 ∉ ch := fun z => (hch p.1 z).2.2.2 p hp rfl
    exact ⟨keep p.1 p.2 ne nf nch e n, free p.1 p.2 nch e n, ne, nf, d⟩
theorem Inv.un {t' : Nat} (I : Inv X pins σ H s) (u : Un X.fs [] H H' s.heap h') (hok : HOk X.prog X.w H' h') : Inv X pins σ H' { s with heap := h', toks := t' } := by
  obtain ⟨m, ⟨o, es, ep, ho, r⟩, _⟩ := id I.loc
  obtain ⟨sl, hL⟩ := u.any ho I.free (by simp)
  exact I.step (g' := s.gens) (d' := s.drawn) (ch := []) (fun _ z => nomatch z) (fun b o _ hb _ e n => u.keep b o e n hb (by simp)) (fun b o _ hb _ e n => u.slot b o e n hb (by simp)) (fun b o _ e n => u.free b o e n (by simp)) (fun b o _ e => u.there b o e (by simp)) u.tups u.frzs u.tbls (fun m' hm => by
    obtain ⟨o', es', ep', ho', r'⟩ := hm
    rw [ho] at ho'; cases ho'
    exact ⟨_, es', ep', hL, r'⟩) hok I.bare
theorem Inv.call {g' : Array GenState} {t' : Nat} {d' : Drawn} {ch : List Addr} (I : Inv X pins σ H s) (u : Un (frs X.stack) ch H H' s.heap h') (hok : HOk X.prog X.w H' h') (hg : AllBare g')
    (hch : ∀ b ∈ ch, (b ∈ X.ex \/ X.s₀.heap.objs.size <= b) /\ b ≠ X.env.locals /\ (∀ x c, X.env.cells.lookup x = some c -> c ≠ b) /\ ∀ p ∈ X.pn ++ pins, p.1 ≠ b) :
    Inv X pins σ H' { s with heap := h', gens := g', drawn := d', toks := t' } := by
  obtain ⟨m, ⟨o, es, ep, ho, r⟩, _⟩ := id I.loc
  obtain ⟨sl, hL⟩ := u.any ho I.free fun z => (hch _ z).2.1 rfl
  exact I.step (ch := ch) hch (fun b o hL hb hc e n => u.keep b o e n (fun z => (List.mem_cons.mp (I.stkSub b z)).elim hL hb) hc) (fun b o _ _ hc e n => u.any e n hc) (fun b o hc e n => u.free b o e n hc) (fun b o hc e => u.there b o e hc) u.tups u.frzs u.tbls (fun m' hm => by
    obtain ⟨o', es', ep', ho', r'⟩ := hm
    rw [ho] at ho'; cases ho'
    exact ⟨_, es', ep', hL, r'⟩) hok hg
theorem Inv.turned {t' : Nat} {it : Addr} (I : Inv X pins σ H s) (k : ∀ b o, b ≠ it -> s.heap.get? b = some o -> h'.get? b = some o) (hn : H it = none) (hL : it ≠ X.env.locals)
    (h1 : it ∈ X.ex \/ X.s₀.heap.objs.size <= it) (h2 : ∀ x c, X.env.cells.lookup x = some c -> c ≠ it) (h3 : ∀ p ∈ X.pn ++ pins, p.1 ≠ it) : Inv X pins σ H { s with heap := h', toks := t' } := by
  have nit : ∀ b u, H b = some u -> b ≠ it := fun b u e z => by rw [z, hn] at e; cases e
  refine I.step (g' := s.gens) (d' := s.drawn) (ch := [it]) (fun b hb => ?_) (fun b o _ _ hc e _ => k b o (fun z => hc (by simp [z])) e) (fun b o _ _ hc e _ => ⟨o.slots, k b o (fun z => hc (by simp [z])) e⟩) (fun _ _ _ _ n => n)
    (fun b o hc e => ⟨o, k b o (fun z => hc (by simp [z])) e⟩) (fun _ _ e => e) (fun _ _ _ e => e) (fun b ps e => ⟨#[], by rw [e]; simp⟩) (fun m hm => ?_) (fun b u e => ?_) I.bare
  · have e : b = it := by simpa using hb
    subst e
    exact ⟨h1, hL, h2, h3⟩
  · obtain ⟨o, es, ep, ho, r⟩ := hm
    exact ⟨o, es, ep, k _ o (Ne.symm hL) ho, r⟩
  · refine (I.hok b u e).stay (fun c v hc q => k c v ?_ q) (fun _ q => q) fun _ _ q => q
    rcases hc with z | z
    · rw [z]; exact nit b u e
    · exact nit c _ z
theorem Inv.tok (I : Inv X pins σ H s) (t : Nat) : Inv X pins σ H { s with toks := t } := I.un (h' := s.heap) (t' := t) Un.refl I.hok
theorem Inv.kept {t' : Nat} (I : Inv X pins σ H s) (k : ∀ b u, s.heap.get? b = some u -> h'.get? b = some u) : Inv X pins σ H { s with heap := h', toks := t' } := I.un (Un.kept k) (I.hok.kept k)
theorem Inv.laid {a : Addr} {o : HO} {t' : Nat} (I : Inv X pins σ H s) (k : ∀ b u, s.heap.get? b = some u -> h'.get? b = some u) (hp : s.heap.objs.size <= a) (new : x2d X.prog X.w (upd H a o) h' a o) :
    Inv X pins σ (upd H a o) { s with heap := h', toks := t' } := I.un (Un.laid k hp (I.hok.fresh hp)) (I.hok.laid k hp new)
theorem Inv.write {x e : Addr} {o : HO} {t' : Nat} (I : Inv X pins σ H s) (mu : Mut (H x)) (he : e = x \/ H e = some (.own x)) (k : ∀ b u, b ≠ e -> s.heap.get? b = some u -> h'.get? b = some u) (heo : ∃ u, h'.get? e = some u)
    (new : x2d X.prog X.w (upd H x o) h' x o) : Inv X pins σ (upd H x o) { s with heap := h', toks := t' } := I.un (Un.write mu he k heo) (I.hok.write mu he k heo new)
theorem Inv.weak {σ' : List (Option V)} (I : Inv X pins σ H s) (hl : σ'.length = σ.length) (w : ∀ (i : Nat) v, σ'[i]? = some (some v) -> σ[i]? = some (some v)) : Inv X pins σ' H s :=
  ⟨I.ok, I.os, I.bare, I.base, let ⟨m, hn, hl'⟩ := I.loc; ⟨m, hn, fun i x v e1 e2 e3 => hl' i x v e1 (w i v e2) e3⟩, I.cell, I.free, I.freeC, I.pin, I.hok, hl.trans I.len⟩
theorem Inv.pins_of {pins' : List (Addr × Obj)} (I : Inv X pins σ H s) (h : ∀ p ∈ pins', s.heap.get? p.1 = some p.2 /\ H p.1 = none /\ p.1 ≠ X.env.locals /\ p.1 ∉ X.fs /\ ∀ v, p.2.data ≠ .cell v) : Inv X pins' σ H s :=
  ⟨I.ok, I.os, I.bare, I.base, I.loc, I.cell, I.free, I.freeC, fun p hp => (List.mem_append.mp hp).elim (fun z => I.pin p (List.mem_append_left _ z)) (h p), I.hok, I.len⟩
theorem y10 {N : List Str} (hN : N.Nodup) {i j : Nat} {x : Str} (a : N[i]? = some x) (b : N[j]? = some x) : i = j := by
  obtain ⟨h1, e1⟩ := List.getElem?_eq_some_iff.mp a
  obtain ⟨h2, e2⟩ := List.getElem?_eq_some_iff.mp b
  exact (List.getElem_inj hN).mp (e1.trans e2.symm)
theorem y1g {M : Model} {A : Around} {E : Value -> Shared -> Prop} {i : Nat} {x : Str} {v : V} {u : Value} {Q : Unit -> Shared -> Prop} (I : Inv X pins σ H s) (hN : X.N.Nodup) (hi : X.N[i]? = some x) (hx : Loc X.env.scope x) (r : x36 v u)
    (h : ∀ s', Inv X pins (σ.set i (some v)) H s' -> (∃ a, Heap.SameBut a s.heap s'.heap /\ (a = X.env.locals \/ X.env.cells.lookup x = some a)) -> Q () s') (hf : X.fn x = true \/ X.env.scope.names.lookup x = some .local := by first | exact .inl rfl | exact .inr rfl | assumption) : wpAny M A (storeName X.env x u) Q E s := by
  obtain ⟨m, hn, hl⟩ := id I.loc
  have hcls : (X.env.scope.kind == .class || (X.env.scope.kind == .module && X.env.locals != X.env.globals)) = false := by rw [I.ok.kind]; rfl
  have hiσ : i < σ.length := by rw [I.len]; exact (List.getElem?_eq_some_iff.mp hi).1
  have cne := I.cne
  have tracked : ∀ {a : Addr} {h' : Heap}, (∃ o, s.heap.get? a = some o /\ H a = none) -> Heap.SameBut a s.heap h' -> HOk X.prog X.w H h' := fun {a h'} ha hs b ob e => by
    obtain ⟨_, _, hfree⟩ := ha
    refine (I.hok b ob e).stay (fun c w' hc q => (hs.2 c ?_).trans q) (fun _ q => q) fun _ _ q => q
    rintro rfl
    rcases hc with rfl | hc
    · rw [hfree] at e; cases e
    · rw [hfree] at hc; cases hc
  rcases hx with hk | hk
  · refine wpAny_storeName_local hk hn (fun h' hn' hs => ?_) hcls
    obtain ⟨oL, _, _, hoL, _⟩ := id hn
    refine h _ ⟨I.ok, I.os, I.bare, ⟨fun b o e n hb hx => ?_, fun b o e n hb hx => ?_, I.base.free, fun b o e hx => ?_, I.base.tups, I.base.frzs, I.base.tbls⟩, ⟨_, hn', fun j y v' e1 e2 e3 => ?_⟩, fun y c e => ?_, I.free, I.freeC, fun p hp => ?_, tracked ⟨oL, hoL, I.free⟩ hs, by simpa using I.len⟩ ⟨_, hs, .inl rfl⟩
    · exact (hs.2 b (Nat.ne_of_lt (Nat.lt_of_lt_of_le (Heap.lt_size e) I.ok.above))).trans (I.base.keep b o e n hb hx)
    · obtain ⟨sl, e1⟩ := I.base.slot b o e n hb hx
      exact ⟨sl, (hs.2 b (Nat.ne_of_lt (Nat.lt_of_lt_of_le (Heap.lt_size e) I.ok.above))).trans e1⟩
    · obtain ⟨o', e1⟩ := I.base.there b o e hx
      exact ⟨o', (hs.2 b (Nat.ne_of_lt (Nat.lt_of_lt_of_le (Heap.lt_size e) I.ok.above))).trans e1⟩
    · by_cases hj : j = i
      · subst hj
        rw [hi] at e1; cases e1
        rw [List.getElem?_set_self hiσ] at e2
        cases e2
        exact ⟨u, r, .inl ⟨hk, by simp⟩⟩
      · rw [List.getElem?_set_ne (Ne.symm hj)] at e2
        obtain ⟨u', r', q⟩ := hl j y v' e1 e2 e3
        refine ⟨u', r', ?_⟩
        rcases q with ⟨k, e⟩ | ⟨k, c, e, z⟩
        · refine .inl ⟨k, ?_⟩
          have : y ≠ x := fun e => hj (y10 hN e1 (e ▸ hi))
          simp [this, e]
        · exact .inr ⟨k, c, e, z.sameBut hs (cne y c e)⟩
    · obtain ⟨w', z⟩ := I.cell y c e
      exact ⟨w', z.sameBut hs (cne y c e)⟩
    · obtain ⟨e, n, ne, nf, d⟩ := I.pin p hp
      exact ⟨(hs.2 p.1 ne).trans e, n, ne, nf, d⟩
  · have hfn : X.fn x = true := by
      rcases hf with z | z
      · exact z
      · rw [z] at hk; cases hk
    obtain ⟨c, hc⟩ := I.ok.has x (.inl hk)
    obtain ⟨w', z⟩ := I.cell x c hc
    refine wpAny_storeName_cell I.ok.kind hk hc z (fun h' hc' hs => ?_)
    obtain ⟨oc, hoc, hocd⟩ := id z
    refine h { s with heap := h' } ⟨I.ok, I.os, I.bare, ⟨fun b o e n hb hx => ?_, fun b o e n hb hx => ?_, I.base.free, fun b o e hx => ?_, I.base.tups, I.base.frzs, I.base.tbls⟩, ⟨m, hn.sameBut hs (Ne.symm (cne x c hc)), fun j y v' e1 e2 e3 => ?_⟩, fun y c' e => ?_, I.free, I.freeC, fun p hp => ?_, tracked ⟨oc, hoc, I.freeC x c hc⟩ hs, by simpa using I.len⟩ ⟨c, hs, .inr hc⟩
    · exact (hs.2 b (Nat.ne_of_lt (Nat.lt_of_lt_of_le (Heap.lt_size e) (I.ok.cab x c hfn hc)))).trans (I.base.keep b o e n hb hx)
    · obtain ⟨sl, e1⟩ := I.base.slot b o e n hb hx
      exact ⟨sl, (hs.2 b (Nat.ne_of_lt (Nat.lt_of_lt_of_le (Heap.lt_size e) (I.ok.cab x c hfn hc)))).trans e1⟩
    · obtain ⟨o', e1⟩ := I.base.there b o e hx
      exact ⟨o', (hs.2 b (Nat.ne_of_lt (Nat.lt_of_lt_of_le (Heap.lt_size e) (I.ok.cab x c hfn hc)))).trans e1⟩
    · by_cases hj : j = i
      · subst hj
        rw [hi] at e1; cases e1
        rw [List.getElem?_set_self hiσ] at e2
        cases e2
        exact ⟨u, r, .inr ⟨.inl hk, c, hc, hc'⟩⟩
      · rw [List.getElem?_set_ne (Ne.symm hj)] at e2
        obtain ⟨u', r', q⟩ := hl j y v' e1 e2 e3
        refine ⟨u', r', ?_⟩
        rcases q with q | ⟨k, c', e, z'⟩
        · exact .inl q
        · refine .inr ⟨k, c', e, z'.sameBut hs ?_⟩
          rintro rfl
          exact hj (y10 hN e1 (I.ok.inj _ _ _ e hc ▸ hi))
    · by_cases hcc : c' = c
      · subst hcc; exact ⟨_, hc'⟩
      · obtain ⟨w2, z2⟩ := I.cell y c' e
        exact ⟨w2, z2.sameBut hs hcc⟩
    · obtain ⟨e, n, ne, nf, d⟩ := I.pin p hp
      refine ⟨(hs.2 p.1 ?_).trans e, n, ne, nf, d⟩
      intro q
      rw [q, hoc] at e
      have q' : oc = p.2 := Option.some.inj e
      exact d w' (by rw [<- q']; exact hocd)
theorem y0m {M : Model} {A : Around} {E : Value -> Shared -> Prop} {i : Nat} {x : Str} {v : V} {u : Value} {Q : Unit -> Shared -> Prop} (I : Inv X pins σ H s) (hN : X.N.Nodup) (hi : X.N[i]? = some x) (hx : Loc X.env.scope x) (r : x36 v u)
    (h : ∀ s', Inv X pins (σ.set i (some v)) H s' -> Q () s') (hf : X.fn x = true \/ X.env.scope.names.lookup x = some .local := by first | exact .inl rfl | exact .inr rfl | assumption) : wpAny M A (storeName X.env x u) Q E s :=
  y1g I hN hi hx r (fun s' I' _ => h s' I') hf
theorem Inv.call' {s' : Shared} {ch : List Addr} (I : Inv X pins σ H s) (ho : s'.os = s.os) (u : Un (frs X.stack) ch H H' s.heap s'.heap) (hok : HOk X.prog X.w H' s'.heap) (hg : AllBare s'.gens)
    (hch : ∀ b ∈ ch, (b ∈ X.ex \/ X.s₀.heap.objs.size <= b) /\ b ≠ X.env.locals /\ (∀ x c, X.env.cells.lookup x = some c -> c ≠ b) /\ ∀ p ∈ X.pn ++ pins, p.1 ≠ b) : Inv X pins σ H' s' := by
  obtain ⟨h', g', d', t', o'⟩ := s'
  have e : o' = s.os := ho
  subst e
  exact I.call (g' := g') (t' := t') (d' := d') u hok hg hch
end
noncomputable abbrev XK := Value -> Option Addr -> Hp -> Prop
noncomputable abbrev St := List (Option V)
noncomputable abbrev VK := V -> Hp -> Prop
noncomputable abbrev TE := St -> Hp -> VK -> Prop
noncomputable abbrev TT := St -> Hp -> (Bool -> Hp -> Prop) -> Prop
noncomputable abbrev TA := St -> Hp -> (List V -> Hp -> Prop) -> Prop
structure Ends where
  nx : St -> Hp -> Prop
  rt : VK
  bk : St -> Hp -> Prop := fun _ _ => False
  ct : St -> Hp -> Prop := fun _ _ => False
noncomputable abbrev TS := Ends -> St -> Hp -> Prop
noncomputable def EP (X : Cx) (pins : List (Addr × Obj)) (σ : St) (Q : VK) (u : Value) (s' : Shared) : Prop := ∃ v H', Inv X pins σ H' s' /\ x36 v u /\ Q v H'
noncomputable def TP (X : Cx) (pins : List (Addr × Obj)) (σ : St) (Q : Bool -> Hp -> Prop) (b : Bool) (s' : Shared) : Prop := ∃ H', Inv X pins σ H' s' /\ Q b H'
noncomputable def AP (X : Cx) (pins : List (Addr × Obj)) (σ : St) (Q : List V -> Hp -> Prop) (us : List Value) (s' : Shared) : Prop := ∃ vs H', Inv X pins σ H' s' /\ x2a vs us /\ Q vs H'
noncomputable def SP (X : Cx) (pins : List (Addr × Obj)) (D : Ends) (f : Flow) (s' : Shared) : Prop :=
  match f with
  | .next => ∃ σ' H', Inv X pins σ' H' s' /\ D.nx σ' H'
  | .brk => ∃ σ' H', Inv X pins σ' H' s' /\ D.bk σ' H'
  | .cont => ∃ σ' H', Inv X pins σ' H' s' /\ D.ct σ' H'
  | .ret u => ∃ v σ' H', Inv X pins σ' H' s' /\ x36 v u /\ D.rt v H'
noncomputable def PE (X : Cx) (e : Expr) (t : TE) : Prop :=
  ∀ (pins : List (Addr × Obj)) (s : Shared) (σ : St) (H : Hp) (Q : VK), Inv X pins σ H s -> t σ H Q -> wpAny (model X.prog X.w) X.A (eval e X.env) (EP X pins σ Q) X.xe s
noncomputable def PT (X : Cx) (e : Expr) (t : TT) : Prop :=
  ∀ (pins : List (Addr × Obj)) (s : Shared) (σ : St) (H : Hp) (Q : Bool -> Hp -> Prop), Inv X pins σ H s -> t σ H Q -> wpAny (model X.prog X.w) X.A (isTrue e X.env (eval e X.env)) (TP X pins σ Q) X.xe s
noncomputable def PW (X : Cx) (e : Expr) (t : TT) : Prop :=
  ∀ (whole : Sem Value) (pins : List (Addr × Obj)) (s : Shared) (σ : St) (H : Hp) (Q : Bool -> Hp -> Prop), Inv X pins σ H s -> t σ H Q -> wpAny (model X.prog X.w) X.A (isTrue e X.env whole) (TP X pins σ Q) X.xe s
theorem PW.pt {X : Cx} {e : Expr} {t : TT} (h : PW X e t) : PT X e t := h _
noncomputable def PA (X : Cx) (es : List Expr) (t : TA) : Prop :=
  ∀ (pos : Pos) (pins : List (Addr × Obj)) (s : Shared) (σ : St) (H : Hp) (Q : List V -> Hp -> Prop), Inv X pins σ H s -> t σ H Q -> wpAny (model X.prog X.w) X.A (spliced (backTo pos (starEach es X.env))) (AP X pins σ Q) X.xe s
noncomputable def PS (X : Cx) (st : Stmt) (t : TS) : Prop :=
  ∀ (pins : List (Addr × Obj)) (s : Shared) (σ : St) (H : Hp) (D : Ends), Inv X pins σ H s -> t D σ H -> wpAny (model X.prog X.w) X.A (exec st X.env) (SP X pins D) X.xe s
noncomputable def PSs (X : Cx) (st : List Stmt) (t : TS) : Prop :=
  ∀ (pins : List (Addr × Obj)) (s : Shared) (σ : St) (H : Hp) (D : Ends), Inv X pins σ H s -> t D σ H -> wpAny (model X.prog X.w) X.A (execs st X.env) (SP X pins D) X.xe s
theorem thn {α : Type} {t : Sem α} {Q Q' : α -> Shared -> Prop} {M : Model} {A : Around} {E : Value -> Shared -> Prop} {s : Shared} (h : wpAny M A t Q E s) (hQ : ∀ a s, Q a s -> Q' a s) : wpAny M A t Q' E s := wpAny_mono h hQ fun _ _ x => x
section
variable {X : Cx}
noncomputable def x8p (i : Nat) : TE := fun σ H Q => ∃ v, σ[i]? = some (some v) /\ Q v H
noncomputable def tC (v : V) : TE := fun _ H Q => Q v H
theorem z6p {i : Nat} {x : Str} {pos : Pos} (hN : X.N[i]? = some x) (hv : Vis X.env.scope x) (hd : (x == ("__debug__" : Str)) = false := by decide) (hcd : (x == ("__classdict__" : Str)) = false := by decide) : PE X (.Name x pos) (x8p i) := by
  intro pins s σ H Q I h
  obtain ⟨v, e, h⟩ := h
  obtain ⟨m, hn, hl⟩ := I.loc
  obtain ⟨u, r, l⟩ := hl i x v hN e hv
  have fin : EP X pins σ Q u s := ⟨v, H, I, r, h⟩
  rcases l with ⟨hk, hm⟩ | ⟨hk, c, hc, hcell⟩
  · exact wpAny_Name (wpAny_loadName_local I.ok.kind hk hn hm fin) hd
  · rcases hk with hk | hk
    · exact wpAny_Name (wpAny_loadName_cell I.ok.kind hk hc hcell fin) hd
    · exact wpAny_Name (wpAny_loadName_free I.ok.kind hk hc hcell fin hcd) hd
theorem z0a {i j pos} : PE X (.Constant (.int i) j pos) (tC (.int i)) := fun _ _ _ H _ I h => wpAny_Constant_int ⟨.int i, H, I.tok _, ⟨_, rfl⟩, h⟩
theorem z8q {b j pos} : PE X (.Constant (.bool b) j pos) (tC (.bl b)) := fun _ _ _ H _ I h => Constant_bool ⟨.bl b, H, I, rfl, h⟩
theorem z52 {j pos} : PE X (.Constant .none j pos) (tC .non) := fun _ _ _ H _ I h => Constant_none ⟨.non, H, I, rfl, h⟩
theorem y49 {x j pos} : PE X (.Constant (.str x) j pos) (tC (.str x)) := fun _ _ _ H _ I h => Calls.Constant_str ⟨.str x, H, I.tok _, ⟨_, rfl⟩, h⟩
noncomputable def Gl (X : Cx) (x : Str) : Prop := X.env.kindOf x = some .globalImplicit
theorem x8l {E : Value -> Shared -> Prop} {pins : List (Addr × Obj)} {s : Shared} {σ : St} {H : Hp} {x : Str} {u : Value} {pos : Pos} {Q : Value -> Shared -> Prop} (I : Inv X pins σ H s) (hg : Gl X x) (hm : X.mg x = some u) (h : Q u s)
    (hd : (x == ("__debug__" : Str)) = false := by decide) : wpAny (model X.prog X.w) X.A (eval (.Name x pos) X.env) Q E s :=
  Calls.Name_function_global I.ok.kind hg (Calls.loadGlobal_global (by rw [I.ok.glob]; exact I.mod.glob.keeps I.bk) hm h) hd
theorem y17 {E : Value -> Shared -> Prop} {pins : List (Addr × Obj)} {s : Shared} {σ : St} {H : Hp} {x : Str} {u : Value} {pos : Pos} {Q : Value -> Shared -> Prop} (I : Inv X pins σ H s) (hg : Gl X x) (hm : X.mg x = none) (hv : bootBuiltins x = some u) (h : Q u s)
    (hn : x ≠ "__name__" := by decide) (hd : (x == ("__debug__" : Str)) = false := by decide) : wpAny (model X.prog X.w) X.A (eval (.Name x pos) X.env) Q E s := by
  obtain ⟨mb, h1, h2⟩ := I.mod.blt
  exact Calls.Name_function_global I.ok.kind hg (Calls.loadGlobal_builtin (by rw [I.ok.glob]; exact I.mod.glob.keeps I.bk) hm (by rw [I.ok.blt]; exact h1.keeps I.bk) ((h2 x hn).trans hv) h) hd
theorem z0v {x : Str} {v : V} {u : Value} {pos : Pos} (hg : Gl X x) (hm : X.mg x = some u) (r : x36 v u) (hd : (x == ("__debug__" : Str)) = false := by decide) : PE X (.Name x pos) (tC v) :=
  fun _ _ _ H _ I h => x8l I hg hm ⟨v, H, I, r, h⟩ hd
theorem y5i {x : Str} {v : V} {u : Value} {pos : Pos} (hg : Gl X x) (hm : X.mg x = none) (hv : bootBuiltins x = some u) (r : x36 v u) (hn : x ≠ "__name__" := by decide) (hd : (x == ("__debug__" : Str)) = false := by decide) : PE X (.Name x pos) (tC v) :=
  fun _ _ _ H _ I h => y17 I hg hm hv ⟨v, H, I, r, h⟩ hn hd
variable {a b : Expr} {ta tb : TE} {pos : Pos}
variable {tA tB' : TT} {x25 : List Expr}
noncomputable def tOr (t u : TT) : TT := fun σ H Q => t σ H fun c H1 => if c = true then Q true H1 else u σ H1 Q
noncomputable def z9d (t : TT) : TT := fun σ H Q => t σ H fun c H1 => Q (!c) H1
theorem z4s (ha : PT X a tA) : PW X (.BoolOp .Or [a] pos) tA := by
  intro wh pins s σ H Q I h
  refine isTrue_or (thn (ha pins s σ H Q I h) fun c s1 e => ?_)
  cases c with
  | false => exact isTrue_or_nil e
  | true => exact e
theorem z8t (ha : PT X a tA) (hb : PW X (.BoolOp .Or (b :: x25) pos) tB') : PW X (.BoolOp .Or (a :: b :: x25) pos) (tOr tA tB') := by
  intro wh pins s σ H Q I h
  refine isTrue_or (thn (ha pins s σ H _ I h) fun c s1 hh0 => ?_)
  obtain ⟨H1, I1, q1⟩ := hh0
  cases c with
  | true => exact ⟨H1, I1, q1⟩
  | false => exact hb wh pins s1 σ H1 Q I1 q1
theorem z5b (ha : PT X a tA) : PT X (.UnaryOp .Not a pos) (z9d tA) := by
  intro pins s σ H Q I h
  exact isTrue_not (ha pins s σ H (fun c H1 => Q (!c) H1) I h)
noncomputable def z84 (ta tb : TE) : TE := fun σ H Q => ta σ H fun x H1 => ∃ c, x = .bl c /\ if c = true then tb σ H1 Q else Q (.bl false) H1
noncomputable def z7p (ta : TE) : TE := fun σ H Q => ta σ H fun x H1 => ∃ c, x = .bl c /\ Q (.bl (!c)) H1
theorem z5t {op} {t : TE} (h : PE X a t) : PE X (.BoolOp op [a] pos) t := fun pins s σ H Q I hw => BoolOp_one (h pins s σ H Q I hw)
theorem z6y (ha : PE X a ta) (hb : PE X (.BoolOp .And (b :: x25) pos) tb) : PE X (.BoolOp .And (a :: b :: x25) pos) (z84 ta tb) := by
  intro pins s σ H Q I h
  refine BoolOp_and (thn (ha pins s σ H _ I h) fun v s1 hh0 => ?_)
  obtain ⟨x, H1, I1, r1, q1⟩ := hh0
  obtain ⟨c, rfl, q1⟩ := q1
  cases r1
  refine wpAny_truthy_bool ?_
  cases c with
  | true => exact hb pins s1 σ H1 Q I1 q1
  | false => exact ⟨.bl false, H1, I1, rfl, q1⟩
theorem z6u (ha : PE X a ta) : PE X (.UnaryOp .Not a pos) (z7p ta) := by
  intro pins s σ H Q I h
  refine UnaryOp_ (thn (ha pins s σ H _ I h) fun v s1 hh0 => ?_)
  obtain ⟨x, H1, I1, r1, q1⟩ := hh0
  obtain ⟨c, rfl, q1⟩ := q1
  cases r1
  exact not_of (wpAny_truthy_bool ⟨.bl (!c), H1, I1, rfl, q1⟩)
noncomputable def tIf (t : TT) (ta tb : TE) : TE := fun σ H Q => t σ H fun c H1 => if c = true then ta σ H1 Q else tb σ H1 Q
theorem y9f {c : Expr} (hc : PT X c tA) (ha : PE X a ta) (hb : PE X b tb) : PE X (.IfExp c a b pos) (tIf tA ta tb) := by
  intro pins s σ H Q I h
  refine wpAny_IfExp (thn (hc pins s σ H _ I h) fun d s1 hh0 => ?_)
  obtain ⟨H1, I1, q1⟩ := hh0
  cases d with
  | true => exact ha pins s1 σ H1 Q I1 q1
  | false => exact hb pins s1 σ H1 Q I1 q1
end
noncomputable def SqL (K : PySem.W.Frag) (H : Hp) (a : Addr) (xs : List V) : Prop :=
  Rd H a (.lst xs) \/
    ∃ (o : Obj) (its : Array Value) (n : Nat), K.lookup a = some o /\ o.cls = .type "list" /\ o.dict = none /\ o.data = .seq its n /\ its.size <= sizeLine /\ x2a xs its.toList
noncomputable def SqT (K : PySem.W.Frag) (H : Hp) (a : Addr) (xs : List V) : Prop :=
  Rd H a (.tup xs) \/
    ∃ (o : Obj) (its : Array Value) (n : Nat), K.lookup a = some o /\ o.cls = .type "tuple" /\ o.data = .seq its n /\ its.size <= sizeLine /\ x2a xs its.toList
noncomputable def z9x : Value -> Option V
  | .none => some .non
  | .bool b => some (.bl b)
  | .int i _ => some (.int i)
  | .str x _ => some (.str x)
  | .bytes b _ => some (.byt b)
  | .float b _ => some (.flt b)
  | .ref a => some (.ref a)
  | .type n => some (.ty n)
  | _ => none
theorem x36.abs {x : V} {u : Value} (r : x36 x u) : z9x u = some x := by
  cases x with
  | non => cases r; rfl
  | bl _ => cases r; rfl
  | int _ => obtain ⟨t, rfl⟩ := r; rfl
  | str _ => obtain ⟨t, rfl⟩ := r; rfl
  | byt _ => obtain ⟨t, rfl⟩ := r; rfl
  | flt _ => obtain ⟨t, rfl⟩ := r; rfl
  | ref _ => cases r; rfl
  | ty _ => cases r; rfl
theorem x36.inj {x y : V} {u : Value} (r : x36 x u) (q : x36 y u) : x = y := Option.some.inj (r.abs.symm.trans q.abs)
theorem x2a.inj : ∀ {xs ys : List V} {us : List Value}, x2a xs us -> x2a ys us -> xs = ys
  | _, _, _, .nil, .nil => rfl
  | _, _, _, .cons r t, .cons r' t' => by rw [r.inj r', x2a.inj t t']
section
variable {X : Cx} {pins : List (Addr × Obj)} {σ : St} {H : Hp} {s : Shared} {a : Addr} {xs ys : List V}
theorem SqL.of {K : PySem.W.Frag} (h : H a = some (.lst xs)) : SqL K H a xs := .inl (.inl h)
theorem SqT.of {K : PySem.W.Frag} (h : H a = some (.tup xs)) : SqT K H a xs := .inl (.inl h)
theorem Inv.list (I : Inv X pins σ H s) (h : SqL X.K H a xs) : ∃ its : List Value, x2a xs its /\ PlainL s.heap a its.toArray /\ xs.length <= sizeLine := by
  rcases h with h | ⟨o, its, n, hk, hc, hd, hs, hz, r⟩
  · obtain ⟨z, its, n, r, e⟩ := h.ok I.hok
    exact ⟨its, r, ⟨_, n, e, rfl, rfl, rfl⟩, z⟩
  · refine ⟨its.toList, r, ⟨o, n, I.kIn a o hk, hc, hd, by simpa using hs⟩, ?_⟩
    have e := r.length
    simp only [Array.length_toList] at e
    omega
theorem Inv.tuple (I : Inv X pins σ H s) (h : SqT X.K H a xs) : ∃ its : List Value, x2a xs its /\ IsTup s.heap a its.toArray /\ xs.length <= sizeLine := by
  rcases h with h | ⟨o, its, n, hk, hc, hs, hz, r⟩
  · obtain ⟨z, its, r, p⟩ := h.ok I.hok
    exact ⟨its, r, p.tup, z⟩
  · refine ⟨its.toList, r, ⟨o, I.kIn a o hk, hc, n, by simpa using hs⟩, ?_⟩
    have e := r.length
    simp only [Array.length_toList] at e
    omega
theorem Inv.list_inj (I : Inv X pins σ H s) (h : SqL X.K H a xs) (h' : SqL X.K H a ys) : xs = ys := by
  obtain ⟨its, r, ⟨o, n, e, _, _, d⟩, _⟩ := I.list h
  obtain ⟨its', r', ⟨o', n', e', _, _, d'⟩, _⟩ := I.list h'
  rw [e] at e'; cases e'
  rw [d] at d'
  injection d' with d1 _
  have : its = its' := by simpa using congrArg Array.toList d1
  subst this
  exact r.inj r'
theorem Inv.tuple_inj (I : Inv X pins σ H s) (h : SqT X.K H a xs) (h' : SqT X.K H a ys) : xs = ys := by
  obtain ⟨its, r, ⟨o, e, _, n, d⟩, _⟩ := I.tuple h
  obtain ⟨its', r', ⟨o', e', _, n', d'⟩, _⟩ := I.tuple h'
  rw [e] at e'; cases e'
  rw [d] at d'
  injection d' with d1 _
  have : its = its' := by simpa using congrArg Array.toList d1
  subst this
  exact r.inj r'
end
noncomputable abbrev Cx.wish (X : Cx) (E : Value -> Shared -> Prop) : Cx := { X with xe := E }
noncomputable abbrev Cx.nox (X : Cx) : Cx := X.wish fun _ _ => False
theorem Cx.Ok.wish {X : Cx} (ok : X.Ok) (E : Value -> Shared -> Prop) : (X.wish E).Ok :=
  ⟨ok.mod, ok.kind, ok.glob, ok.blt, ok.above, ok.inj, ok.has, ok.cab, ok.hd, ok.frames, ok.stk, ok.exf, ok.bs, ok.bsz, ok.noex, ok.exfs, ok.funs, ok.frf⟩
theorem Cx.Ok.unwish {X : Cx} {E : Value -> Shared -> Prop} (ok : (X.wish E).Ok) : X.Ok :=
  ⟨ok.mod, ok.kind, ok.glob, ok.blt, ok.above, ok.inj, ok.has, ok.cab, ok.hd, ok.frames, ok.stk, ok.exf, ok.bs, ok.bsz, ok.noex, ok.exfs, ok.funs, ok.frf⟩
section
variable {X : Cx} {pins : List (Addr × Obj)} {σ : St} {H : Hp} {s : Shared} {E : Value -> Shared -> Prop}
theorem Inv.wish (I : Inv X pins σ H s) (E : Value -> Shared -> Prop) : Inv (X.wish E) pins σ H s := ⟨I.ok.wish E, I.os, I.bare, I.base, I.loc, I.cell, I.free, I.freeC, I.pin, I.hok, I.len⟩
theorem Inv.unwish (I : Inv (X.wish E) pins σ H s) : Inv X pins σ H s := ⟨I.ok.unwish, I.os, I.bare, I.base, I.loc, I.cell, I.free, I.freeC, I.pin, I.hok, I.len⟩
theorem SP.unwish {D : Ends} {f : Flow} {s' : Shared} (h : SP (X.wish E) pins D f s') : SP X pins D f s' := by
  cases f with
  | next => obtain ⟨σ', H', I, q⟩ := h; exact ⟨σ', H', I.unwish, q⟩
  | brk => obtain ⟨σ', H', I, q⟩ := h; exact ⟨σ', H', I.unwish, q⟩
  | cont => obtain ⟨σ', H', I, q⟩ := h; exact ⟨σ', H', I.unwish, q⟩
  | ret u => obtain ⟨v, σ', H', I, r, q⟩ := h; exact ⟨v, σ', H', I.unwish, r, q⟩
theorem PT.nox {e : Expr} {t : TT} (h : PT X.nox e t) : PT X e t := fun pins s σ H Q I hw =>
  wpAny_mono (h pins s σ H Q (I.wish _) hw) (fun _ _ ⟨H', I', q⟩ => ⟨H', I'.unwish, q⟩) fun _ _ z => False.elim z
theorem PSs.nox {st : List Stmt} {t : TS} (h : PSs X.nox st t) : PSs X st t := fun pins s σ H D I hw =>
  wpAny_mono (h pins s σ H D (I.wish _) hw) (fun _ _ q => q.unwish) fun _ _ z => False.elim z
end
section
variable {X : Cx} {st : Stmt} {x25 : List Stmt} {t u : TS} {e : Expr} {te : TE} {pos : Pos}
noncomputable def z88 : TS := fun D σ H => D.nx σ H
noncomputable def z9b (t u : TS) : TS := fun D σ H => t { D with nx := u D } σ H
theorem z24 : PSs X [] z88 := fun _ _ σ H _ I h => wpAny_execs_nil ⟨σ, H, I, h⟩
theorem y9l (h1 : PS X st t) (h2 : PSs X x25 u) : PSs X (st :: x25) (z9b t u) := by
  intro pins s σ H D I h
  refine wpAny_execs_cons (thn (h1 pins s σ H { D with nx := u D } I h) fun f s1 q => ?_)
  cases f with
  | next =>
    obtain ⟨σ', H', I', q⟩ := q
    exact h2 pins s1 σ' H' D I' q
  | ret v => exact q
  | brk => exact q
  | cont => exact q
theorem y2e (h1 : PS X st t) : PSs X [st] t := by
  intro pins s σ H D I h
  refine wpAny_execs_cons (thn (h1 pins s σ H D I h) fun f s1 q => ?_)
  cases f with
  | next => exact wpAny_execs_nil q
  | ret v => exact q
  | brk => exact q
  | cont => exact q
theorem Inv.quiet {pins : List (Addr × Obj)} {σ : St} {H : Hp} {s : Shared} (I : Inv X pins σ H s) : interactive X.env = false := by simp [interactive, I.ok.kind]
noncomputable def z7w (te : TE) : TS := fun D σ H => te σ H fun _ H1 => D.nx σ H1
theorem y5y (he : PE X e te) (hs : swapsWith e none pos.line X.env = pure false := by rfl) : PS X (.Expr e pos) (z7w te) := by
  intro pins s σ H D I h
  exact wpAny_Expr_any (thn (he pins s σ H _ I h) fun v s1 ⟨x, H1, I1, r1, q1⟩ => ⟨σ, H1, I1, q1⟩) I.quiet hs
noncomputable def z9n (te : TE) : TS := fun D σ H => te σ H D.rt
theorem z6t (he : PE X e te) : PS X (.Return (some e) pos) (z9n te) := by
  intro pins s σ H D I h
  exact wpAny_Return_some (thn (he pins s σ H _ I h) fun v s1 ⟨x, H1, I1, r1, q1⟩ => ⟨x, σ, H1, I1, r1, q1⟩)
noncomputable def z9y (c : TT) (t u : TS) : TS := fun D σ H => c σ H fun b H1 => if b = true then t D σ H1 else u D σ H1
theorem z5d {c : Expr} {a b : List Stmt} {tc : TT} (hc : PT X c tc) (ha : PSs X a t) (hb : PSs X b u) : PS X (.If c a b pos) (z9y tc t u) := by
  intro pins s σ H D I h
  refine wpAny_If (thn (hc pins s σ H _ I h) fun d s1 hh0 => ?_)
  obtain ⟨H1, I1, q1⟩ := hh0
  cases d with
  | true => exact ha pins s1 σ H1 D I1 q1
  | false => exact hb pins s1 σ H1 D I1 q1
noncomputable def z6m : TS := fun _ _ _ => False
theorem y9e : PS X st z6m := fun _ _ _ _ _ _ h => h.elim
end
noncomputable abbrev TG := V -> St -> Hp -> (St -> Hp -> Prop) -> Prop
noncomputable abbrev TGs := List V -> St -> Hp -> (St -> Hp -> Prop) -> Prop
noncomputable def PG (X : Cx) (target : Expr) (t : TG) : Prop :=
  ∀ (pins : List (Addr × Obj)) (s : Shared) (σ : St) (H : Hp) (v : V) (u : Value) (Q : St -> Hp -> Prop), Inv X pins σ H s -> x36 v u -> t v σ H Q ->
    wpAny (model X.prog X.w) X.A (assign target X.env u) (fun _ s' => ∃ σ' H', Inv X pins σ' H' s' /\ Q σ' H') X.xe s
noncomputable def PGs (X : Cx) (ts : List Expr) (t : TGs) : Prop :=
  ∀ (pins : List (Addr × Obj)) (s : Shared) (σ : St) (H : Hp) (vs : List V) (us : List Value) (Q : St -> Hp -> Prop), Inv X pins σ H s -> x2a vs us -> t vs σ H Q ->
    wpAny (model X.prog X.w) X.A (assignInOrder ((assignEach ts X.env).map (·.2)) us) (fun _ s' => ∃ σ' H', Inv X pins σ' H' s' /\ Q σ' H') X.xe s
noncomputable abbrev z8d := V -> V -> V -> Hp -> (Hp -> Prop) -> Prop
noncomputable def z90 (X : Cx) (t : z8d) : Prop :=
  ∀ (pins : List (Addr × Obj)) (s : Shared) (σ : St) (H : Hp) (o i v : V) (ov iv u : Value) (Q : Hp -> Prop), Inv X pins σ H s -> x36 o ov -> x36 i iv -> x36 v u -> t o i v H Q ->
    wpAny (model X.prog X.w) X.A (setItem ov iv u) (fun _ s' => ∃ H', Inv X pins σ H' s' /\ Q H') X.xe s
section
variable {X : Cx} {pos : Pos}
noncomputable def z28 (i : Nat) : TG := fun v σ H Q => Q (σ.set i (some v)) H
theorem z3q {i : Nat} {x : Str} (hN : X.N.Nodup) (hi : X.N[i]? = some x) (hx : Loc X.env.scope x) (hf : X.fn x = true \/ X.env.scope.names.lookup x = some .local := by first | exact .inl rfl | exact .inr rfl | assumption) : PG X (.Name x pos) (z28 i) := by
  intro pins s σ H v u Q I r h
  exact wpAny_assign_Name (y0m I hN hi hx r (fun s' I' => ⟨_, H, I', h⟩) hf)
noncomputable def z9z : TGs := fun vs σ H Q => vs = [] /\ Q σ H
noncomputable def z8c (t : TG) (u : TGs) : TGs := fun vs σ H Q => ∃ v r, vs = v :: r /\ t v σ H fun σ' H' => u r σ' H' Q
theorem z35 : PGs X [] z9z := by
  intro pins s σ H vs us Q I r h
  obtain ⟨e, h⟩ := h
  subst e
  cases r
  exact assignInOrder_nil ⟨σ, H, I, h⟩
theorem y7y {e : Expr} {es : List Expr} {t : TG} {u : TGs} (h1 : PG X e t) (h2 : PGs X es u)
    (hs : (assignEach (e :: es) X.env).map (·.2) = assign e X.env :: (assignEach es X.env).map (·.2) := by rfl) : PGs X (e :: es) (z8c t u) := by
  intro pins s σ H vs us Q I r h
  obtain ⟨v, vr, e1, h⟩ := h
  subst e1
  cases r with
  | cons r rr =>
    rw [hs]
    refine assignInOrder_cons (thn (h1 pins s σ H _ _ _ I r h) fun _ s1 hh0 => ?_)
    obtain ⟨σ1, H1, I1, q1⟩ := hh0
    exact h2 pins s1 σ1 H1 _ _ Q I1 rr q1
noncomputable def z9g (K : PySem.W.Frag) (n : Nat) (t : TGs) : TG := fun v σ H Q => ∃ a xs, v = .ref a /\ SqT K H a xs /\ xs.length = n /\ t xs σ H Q
theorem z4f {es : List Expr} {k : Nat} {t : TGs} {n : Nat} (hc : X.calm = true) (h : PGs X es t)
    (hn : (assignEach es X.env).length = n := by rfl) (hst : (assignEach es X.env).findIdx? (·.1) = none := by rfl) : PG X (.Tuple es k pos) (z9g X.K n t) := by
  intro pins s σ H v u Q I r hw
  obtain ⟨a, xs, e1, hq, hl, hw⟩ := hw
  subst e1
  cases r
  obtain ⟨its, rv, ht, hz⟩ := I.tuple hq
  refine assign_Tuple_tuple (I.ok.hd hc) ht (by simp [hn, <- hl, rv.length]) hst fun h' hx => ?_
  have I1 : Inv X pins σ H { s with heap := h' } := I.kept (t' := s.toks) fun b o e => hx b o (Nat.ne_of_lt (Heap.lt_size e)) e
  exact h pins _ σ H xs _ Q I1 (by simpa using rv) hw
noncomputable def j04 (to ti : TE) (t : z8d) : TG := fun v σ H Q => to σ H fun o H1 => ti σ H1 fun i H2 => t o i v H2 fun H3 => Q σ H3
theorem z6f {o i : Expr} {to ti : TE} {t : z8d} (ho : PE X o to) (hi : PE X i ti) (hs : z90 X t)
    (ha : ∀ v, assign (.Subscript o i pos) X.env v = (do
      let ov <- holding [v] (eval o X.env)
      let iv <- holding [v, ov] (eval i X.env)
      standAt pos
      holding [v, ov, iv] (setItem ov iv v)
      release [v, ov, iv] []) := by intro _; rfl) : PG X (.Subscript o i pos) (j04 to ti t) := by
  intro pins s σ H v u Q I r h
  rw [ha]
  refine wpAny_bind (wpAny_holding (thn (ho pins s σ H _ I h) fun ov s1 hh0 => ?_))
  obtain ⟨x, H1, I1, r1, q1⟩ := hh0
  refine wpAny_bind (wpAny_holding (thn (hi pins s1 σ H1 _ I1 q1) fun iv s2 hh0 => ?_))
  obtain ⟨y, H2, I2, r2, q2⟩ := hh0
  refine wpAny_bind (wpAny_standAt (wpAny_bind (wpAny_holding (thn (hs pins s2 σ H2 x y v ov iv u _ I2 r1 r2 r q2) fun _ s3 hh0 => ?_))))
  obtain ⟨H3, I3, q3⟩ := hh0
  exact wpAny_release ⟨σ, H3, I3, q3⟩
noncomputable def z7j (te : TE) (g : TG) : TS := fun D σ H => te σ H fun x H1 => g x σ H1 D.nx
theorem z0f {tg e : Expr} {te : TE} {g : TG} (he : PE X e te) (hg : PG X tg g) (hs : swapsWithSole [tg] e pos.line X.env = pure false := by rfl) (hw : swappedStores [tg] e X.env = pure none := by rfl)
    (h1 : (assignEach [tg] X.env).map (·.2) = [assign tg X.env] := by rfl) : PS X (.Assign [tg] e pos) (z7j te g) := by
  intro pins s σ H D I h
  refine wpAny_Assign_stores (thn (he pins s σ H _ I h) fun v s1 ⟨x, H1, I1, r1, q1⟩ => ?_) hs hw
  rw [h1]
  exact thn (hg pins s1 σ H1 x v _ I1 r1 q1) fun _ s2 q => q
theorem z0b {i : Nat} {x : Str} {e : Expr} {te : TE} {pos' : Pos} (hN : X.N.Nodup) (hi : X.N[i]? = some x) (hx : Loc X.env.scope x) (he : PE X e te) (hs : swapsWith e (some (.Name x pos')) pos.line X.env = pure false := by rfl) (hf : X.fn x = true \/ X.env.scope.names.lookup x = some .local := by first | exact .inl rfl | exact .inr rfl | assumption) :
    PS X (.Assign [.Name x pos'] e pos) (z7j te (z28 i)) := by
  intro pins s σ H D I h
  refine wpAny_Assign_Name (thn (he pins s σ H _ I h) fun v s1 ⟨y, H1, I1, r1, q1⟩ => ?_) hs
  exact y0m I1 hN hi hx r1 (fun s2 I2 => ⟨_, H1, I2, q1⟩) hf
end
section
variable {X : Cx} {pos : Pos}
noncomputable def z6z (c : TT) (tb : TS) : TS := fun D σ H => ∃ W : Nat -> St -> Hp -> Prop, (∃ m, W m σ H) /\ ∀ m σ H, W m σ H ->
  c σ H fun b H1 => if b = true then ∃ N : St -> Hp -> Prop, (∀ σ' H', N σ' H' -> ∃ m', m' < m /\ W m' σ' H') /\ tb { D with nx := N, ct := N, bk := D.nx } σ H1 else D.nx σ H1
theorem y89 {c : Expr} {body : List Stmt} {tc : TT} {tb : TS} (hp : PassesOwn (model X.prog X.w) X.A X.env X.xe) (hc : PT X c tc) (hb : PSs X body tb) : PS X (.While c body [] pos) (z6z tc tb) := by
  intro pins s σ H D I h
  obtain ⟨W, ⟨m0, w0⟩, turn⟩ := h
  refine wpAny_While (codeAny_whileLoop (fun n s' => ∃ σ' H', Inv X pins σ' H' s' /\ W n σ' H') ?_ m0 ⟨σ, H, I, w0⟩)
  rintro n s1 ⟨σ1, H1, I1, w1⟩
  refine wpAny_passesOwn hp (thn (hc pins s1 σ1 H1 _ I1 (turn n σ1 H1 w1)) fun b s2 hh0 => ?_)
  obtain ⟨H2, I2, q2⟩ := hh0
  cases b with
  | true =>
    obtain ⟨N, hN, q2⟩ := q2
    rw [if_pos rfl]
    refine wpAny_passesOwn hp (thn (hb pins s2 σ1 H2 _ I2 q2) fun f s3 q3 => ?_)
    cases f with
    | next =>
      obtain ⟨σ3, H3, I3, n3⟩ := q3
      obtain ⟨m', hm, w3⟩ := hN σ3 H3 n3
      exact ⟨m', hm, σ3, H3, I3, w3⟩
    | cont =>
      obtain ⟨σ3, H3, I3, n3⟩ := q3
      obtain ⟨m', hm, w3⟩ := hN σ3 H3 n3
      exact ⟨m', hm, σ3, H3, I3, w3⟩
    | brk => exact q3
    | ret v => exact q3
  | false =>
    rw [if_neg Bool.false_ne_true]
    exact wpAny_execs_nil ⟨σ1, H2, I2, q2⟩
end
structure It where
  go : Nat -> Hp -> Prop
  yld : Nat -> Hp -> V -> Hp -> Prop
  stop : Nat -> Hp -> Prop
noncomputable def y7f (X : Cx) (pins : List (Addr × Obj)) (H : Hp) (b : Addr) : Prop :=
  H b = none /\ b ≠ X.env.locals /\ b ∉ X.fs /\ (b ∈ X.ex \/ X.s₀.heap.objs.size <= b) /\ (∀ x c, X.env.cells.lookup x = some c -> c ≠ b) /\ ∀ p ∈ X.pn ++ pins, p.1 ≠ b
theorem Inv.fpOk {X : Cx} {pins : List (Addr × Obj)} {σ : St} {H H' : Hp} {s : Shared} {b : Addr} (I : Inv X pins σ H s) (hb : s.heap.objs.size <= b) (hn : H' b = none) : y7f X pins H' b := by
  refine ⟨hn, Nat.ne_of_gt (Nat.lt_of_lt_of_le I.lt hb), I.nofs hb, .inr (Nat.le_trans I.sz hb), fun x c e z => ?_, fun p hp z => ?_⟩
  · obtain ⟨v, q⟩ := I.cell x c e
    exact absurd (Nat.lt_of_lt_of_le q.lt (by rw [z]; exact hb)) (Nat.lt_irrefl _)
  · exact absurd (Nat.lt_of_lt_of_le (Heap.lt_size (I.pin p hp).1) (by rw [z]; exact hb)) (Nat.lt_irrefl _)
structure Turn (P : Program) (w : World) (K : PySem.W.Frag) (tg : Expr) (J : It) (fp : List Addr) (it : Addr) (tn : Nat -> Heap -> Prop) : Prop where
  mem : it ∈ fp
  obj : ∀ i h, tn i h -> ∀ b ∈ fp, ∃ o, h.get? b = some o /\ ∀ v, o.data ≠ .cell v
  keep : ∀ i h h', tn i h -> (∀ b ∈ fp, ∀ o, h.get? b = some o -> h'.get? b = some o) -> tn i h'
  item : ∀ (X : Cx), X.prog = P -> X.w = w -> X.K = K -> X.calm = true -> ∀ (i : Nat) (pins : List (Addr × Obj)) (s : Shared) (σ : St) (H : Hp) (E : Value -> Shared -> Prop), Inv X pins σ H s -> (∀ b ∈ fp, y7f X pins H b) -> tn i s.heap -> J.go i H ->
    wpAny (model P w) X.A (pyNext (.ref it)) (fun r s1 => ∃ u, r = some u /\
      wpAny (model P w) X.A (letOwnedTupleGo tg (.ref it) u) (fun _ s2 => ∃ x H', Inv X pins σ H' s2 /\ x36 x u /\ J.yld i H x H' /\ tn (i + 1) s2.heap /\ ∀ b ∈ fp, H' b = none) E s1) E s
  done : ∀ (X : Cx), X.prog = P -> X.w = w -> X.K = K -> X.calm = true -> ∀ (i : Nat) (pins : List (Addr × Obj)) (s : Shared) (σ : St) (H : Hp) (E : Value -> Shared -> Prop), Inv X pins σ H s -> (∀ b ∈ fp, y7f X pins H b) -> tn i s.heap -> J.stop i H ->
    wpAny (model P w) X.A (pyNext (.ref it)) (fun r s1 => r = none /\ Inv X pins σ H s1) E s
  self : ∀ (A : Around) (i : Nat) (s : Shared) (Q : Value -> Shared -> Prop) (E : Value -> Shared -> Prop), tn i s.heap -> Q (.ref it) s -> wpAny (model P w) A (pyIter (.ref it)) Q E s
noncomputable abbrev TI := St -> Hp -> (It -> Hp -> Prop) -> Prop
noncomputable def PIE (X : Cx) (pins : List (Addr × Obj)) (σ : St) (tg : Expr) (R : It -> Hp -> Prop) (itv : Value) (s2 : Shared) : Prop :=
  ∃ (it : Addr) (fp : List Addr) (tn : Nat -> Heap -> Prop) (J : It) (H' : Hp), itv = .ref it /\ Inv X pins σ H' s2 /\ Turn X.prog X.w X.K tg J fp it tn /\ tn 0 s2.heap /\ (∀ b ∈ fp, y7f X pins H' b) /\ R J H'
noncomputable def PI (X : Cx) (tg iter : Expr) (wi : TI) : Prop :=
  ∀ (pins : List (Addr × Obj)) (s : Shared) (σ : St) (H : Hp) (R : It -> Hp -> Prop), Inv X pins σ H s -> wi σ H R ->
    wpAny (model X.prog X.w) X.A (eval iter X.env) (fun v s1 => wpAny (model X.prog X.w) X.A (pyIter v) (PIE X pins σ tg R) X.xe s1) X.xe s
theorem z16 {M : Model} {A : Around} {E : Value -> Shared -> Prop} {s : Shared} {tg : Expr} {it : Addr} {u : Value} {o : Obj} {n : String} {vs : Array Value} {Q : Unit -> Shared -> Prop} (ho : s.heap.get? it = some o) (hc : o.cls = .type n) (hd : o.data = .fields vs)
    (hn : ["enumerate", "zip", "dict_itemiterator", "dict_reverseitemiterator", "odict_iterator", "itertools.zip_longest", "itertools.pairwise"].contains n = false) (hQ : Q () s) : wpAny M A (letOwnedTupleGo tg (.ref it) u) Q E s := by
  unfold letOwnedTupleGo
  cases tg <;> first
    | exact wpAny_pure hQ
    | (cases u <;> first
        | exact wpAny_pure hQ
        | (refine wpAny_bind (wpAny_load ho ?_)
           rw [hc, hd]
           show wpAny M A (if (["enumerate", "zip", "dict_itemiterator", "dict_reverseitemiterator", "odict_iterator", "itertools.zip_longest", "itertools.pairwise"].contains n && vs[0]? == some (rawInt _)) = true then _ else _) Q E s
           rw [if_neg (by intro h; rw [hn, Bool.false_and] at h; cases h)]
           exact wpAny_pure hQ))
noncomputable def Itl (K : PySem.W.Frag) (a : Addr) : It :=
  ⟨fun i H => ∃ xs x, SqL K H a xs /\ xs[i]? = some x, fun i H x H' => H' = H /\ ∀ xs, SqL K H a xs -> xs[i]? = some x, fun i H => ∃ xs, SqL K H a xs /\ xs.length <= i⟩
noncomputable def Itt (K : PySem.W.Frag) (a : Addr) : It :=
  ⟨fun i H => ∃ xs x, SqT K H a xs /\ xs[i]? = some x, fun i H x H' => H' = H /\ ∀ xs, SqT K H a xs -> xs[i]? = some x, fun i H => ∃ xs, SqT K H a xs /\ xs.length <= i⟩
noncomputable def Itr (lo : Int) (n : Nat) : It := ⟨fun i _ => i < n, fun i H x H' => H' = H /\ x = .int (lo + i), fun i _ => n <= i⟩
theorem y5j {P : Program} {w : World} {K : PySem.W.Frag} {tg : Expr} (a it : Addr) : Turn P w K tg (Itl K a) [it] it (fun i h => h.IsListIter it a i) where
  mem := by simp
  obj := fun i h st b hb => by
    have e : b = it := by simpa using hb
    subst e
    obtain ⟨o, e, c, d⟩ := st
    exact ⟨o, e, fun v z => by rw [d] at z; cases z⟩
  keep := fun i h h' st k => st.at fun o e => k it (by simp) o e
  item := by
    intro X hP hw hK hc i pins s σ H E I hf st hg
    subst hP hw hK
    obtain ⟨xs, x, hq, hx⟩ := hg
    obtain ⟨its, rv, p, hz⟩ := I.list hq
    obtain ⟨u, hu, ru⟩ := rv.get hx
    obtain ⟨f0, f1, f2, f3, f4, f5⟩ := hf it (by simp)
    refine wpAny_pyNext_list_item st p.isList (x := u) (by simpa using hu) fun h' st' sb => ?_
    have I1 : Inv X pins σ H { s with heap := h' } := I.turned (t' := s.toks) (fun b o hb e => (sb.2 b hb).trans e) f0 f1 f3 f4 f5
    obtain ⟨o, e, c, d⟩ := id st'
    exact ⟨u, rfl, z16 (s := { s with heap := h' }) e c d (by decide) ⟨x, H, I1, ru, ⟨rfl, fun ys hy => by rw [I.list_inj hy hq]; exact hx⟩, st', fun b hb => (hf b hb).1⟩⟩
  done := by
    intro X hP hw hK hc i pins s σ H E I hf st hg
    subst hP hw hK
    obtain ⟨xs, hq, hx⟩ := hg
    obtain ⟨its, rv, p, hz⟩ := I.list hq
    obtain ⟨f0, f1, f2, f3, f4, f5⟩ := hf it (by simp)
    have hl := rv.length
    exact wpAny_pyNext_list_end (I.ok.hd hc) st p.isList (by simp; omega) fun h' eb => ⟨rfl, I.turned (t' := s.toks) (fun b o hb e => eb b o hb e) f0 f1 f3 f4 f5⟩
  self := fun _ _ _ _ _ st h => wpAny_pyIter_listiter st h
theorem y53 {P : Program} {w : World} {K : PySem.W.Frag} {tg : Expr} (a it : Addr) : Turn P w K tg (Itt K a) [it] it (fun i h => h.IsTupleIter it a i) where
  mem := by simp
  obj := fun i h st b hb => by
    have e : b = it := by simpa using hb
    subst e
    obtain ⟨o, e, c, d⟩ := st
    exact ⟨o, e, fun v z => by rw [d] at z; cases z⟩
  keep := fun i h h' st k => st.at fun o e => k it (by simp) o e
  item := by
    intro X hP hw hK hc i pins s σ H E I hf st hg
    subst hP hw hK
    obtain ⟨xs, x, hq, hx⟩ := hg
    obtain ⟨its, rv, p, hz⟩ := I.tuple hq
    obtain ⟨u, hu, ru⟩ := rv.get hx
    obtain ⟨f0, f1, f2, f3, f4, f5⟩ := hf it (by simp)
    refine wpAny_pyNext_tuple_item st (show s.heap.IsTuple a its.toArray from p) (x := u) (by simpa using hu) fun h' st' sb => ?_
    have I1 : Inv X pins σ H { s with heap := h' } := I.turned (t' := s.toks) (fun b o hb e => (sb.2 b hb).trans e) f0 f1 f3 f4 f5
    obtain ⟨o, e, c, d⟩ := id st'
    exact ⟨u, rfl, z16 (s := { s with heap := h' }) e c d (by decide) ⟨x, H, I1, ru, ⟨rfl, fun ys hy => by rw [I.tuple_inj hy hq]; exact hx⟩, st', fun b hb => (hf b hb).1⟩⟩
  done := by
    intro X hP hw hK hc i pins s σ H E I hf st hg
    subst hP hw hK
    obtain ⟨xs, hq, hx⟩ := hg
    obtain ⟨its, rv, p, hz⟩ := I.tuple hq
    obtain ⟨f0, f1, f2, f3, f4, f5⟩ := hf it (by simp)
    have hl := rv.length
    exact wpAny_pyNext_tuple_end (I.ok.hd hc) st (show s.heap.IsTuple a its.toArray from p) (by simp; omega) fun h' eb => ⟨rfl, I.turned (t' := s.toks) (fun b o hb e => eb b o hb e) f0 f1 f3 f4 f5⟩
  self := fun _ _ _ _ _ st h => wpAny_pyIter_tupleiter st h
theorem y4u {P : Program} {w : World} {K : PySem.W.Frag} {tg : Expr} (it : Addr) (lo : Int) (n : Nat) : Turn P w K tg (Itr lo n) [it] it (fun i h => IsRangeIter h it (lo + (i : Nat) * 1) ((n : Int) - (i : Nat)) 1) where
  mem := by simp
  obj := fun i h st b hb => by
    have e : b = it := by simpa using hb
    subst e
    exact ⟨_, st, fun v z => by
      have z' : Data.fields _ = Data.cell v := z
      cases z'⟩
  keep := fun i h h' st k => k it (by simp) _ st
  item := by
    intro X hP hw hK hc i pins s σ H E I hf st hg
    subst hP hw hK
    obtain ⟨f0, f1, f2, f3, f4, f5⟩ := hf it (by simp)
    have W := Walks.range (prog := X.prog) (w := X.w) (I.ok.hd hc) it lo 1 n
    refine W.item i s _ _ hg st fun v h' tk hv st' kk => ?_
    obtain ⟨t, rfl⟩ := hv
    have I1 : Inv X pins σ H { s with heap := h', toks := tk } := I.turned (fun b o hb e => kk b o (by simpa using hb) e) f0 f1 f3 f4 f5
    refine ⟨_, rfl, z16 (s := { s with heap := h', toks := tk }) (n := "range_iterator") st' rfl rfl (by decide) ⟨.int (lo + i), H, I1, ⟨t, ?_⟩, ⟨rfl, rfl⟩, st', fun b hb => (hf b hb).1⟩⟩
    rw [Int.mul_one]
  done := by
    intro X hP hw hK hc i pins s σ H E I hf st hg
    subst hP hw hK
    obtain ⟨f0, f1, f2, f3, f4, f5⟩ := hf it (by simp)
    exact wpAny_pyNext_range_end (I.ok.hd hc) st (by have : n <= i := hg; omega) fun h' eb => ⟨rfl, I.turned (t' := s.toks) (fun b o hb e => eb b o hb e) f0 f1 f3 f4 f5⟩
  self := fun _ _ _ _ _ st h => wpAny_pyIter_rangeiter st h
section
variable {X : Cx} {tg : Expr}
theorem y9s {pins : List (Addr × Obj)} {σ : St} {H : Hp} {s : Shared} {R : It -> Hp -> Prop} {E : Value -> Shared -> Prop} {lo hi : Int} {t u v : Tok} {tk : Nat} (I : Inv X pins σ H s) (h1 : -(2 ^ 62) <= lo) (h2 : lo < 2 ^ 62) (h3 : -(2 ^ 62) <= hi) (h4 : hi < 2 ^ 62)
    (q : R (Itr lo (hi - lo).toNat) H) : wpAny (model X.prog X.w) X.A (pyIter (.ref s.heap.objs.size)) (PIE X pins σ tg R) E { s with heap := s.heap.push { cls := .type "range", data := .fields #[.int lo t, .int hi u, .int 1 v] }, toks := tk } := by
  refine wpAny_pyIter_range (IsRange.new ..) (small_one h1 h2 h3 h4) ?_
  have I1 : Inv X pins σ H { s with heap := s.heap.push { cls := .type "range", data := .fields #[.int lo t, .int hi u, .int 1 v] }, toks := tk } := I.kept fun b o e => Heap.get?_push_of_some _ e
  refine ⟨(s.heap.push { cls := .type "range", data := .fields #[.int lo t, .int hi u, .int 1 v] }).objs.size, [(s.heap.push { cls := .type "range", data := .fields #[.int lo t, .int hi u, .int 1 v] }).objs.size], _, _, H, rfl,
    I1.kept (t' := tk) fun b o e => Heap.get?_push_of_some _ e, y4u _ lo (hi - lo).toNat, ?_, fun b hb => ?_, q⟩
  · have e1 : lo + ((0 : Nat) : Int) * 1 = lo := by simp
    have e2 : (((hi - lo).toNat : Nat) : Int) - ((0 : Nat) : Int) = Builtin.Range.rangeSize lo hi 1 := by rw [rangeSize_one]; split <;> omega
    show IsRangeIter _ _ (lo + ((0 : Nat) : Int) * 1) ((((hi - lo).toNat : Nat) : Int) - ((0 : Nat) : Int)) 1
    rw [e1, e2]
    exact Heap.get?_push_size _ rfl
  · have e : b = (s.heap.push { cls := .type "range", data := .fields #[.int lo t, .int hi u, .int 1 v] }).objs.size := by simpa using hb
    subst e
    exact I1.fpOk (Nat.le_refl _) (I1.hok.fresh (Nat.le_refl _))
noncomputable def z8k (ta : TA) : TI := fun σ H R => ta σ H fun vs H1 => ∃ j : Int, vs = [.int j] /\ -(2 ^ 62) <= j /\ j < 2 ^ 62 /\ R (Itr 0 j.toNat) H1
theorem y6k {a : Expr} {ta : TA} {p pos : Pos} (hg : Gl X "range") (hm : X.mg "range" = none) (ha : PA X [a] ta) (hs : starEach [a] X.env = [(false, eval a X.env)] := by rfl) : PI X tg (.Call (.Name "range" p) [a] [] pos) (z8k ta) := by
  intro pins s σ H R I h
  refine Call_ (y17 I hg hm boot_range (PyProof.Rows.callWith_type1 (thn (ha pos pins s σ H _ I h) fun us s1 ⟨vs, H1, I1, r1, q1⟩ => ?_) hs rfl))
  obtain ⟨j, e, q1, q2, q⟩ := q1
  subst e
  cases r1 with
  | cons r rr =>
    cases rr
    obtain ⟨t, rfl⟩ := r
    exact call_range_1 (y9s I1 (by omega) (by omega) q1 q2 (by simpa using q))
noncomputable def z9r (wi : TI) (g : TG) (tb : TS) : TS := fun D σ H => wi σ H fun J H1 => ∃ W : Nat -> Nat -> St -> Hp -> Prop, (∃ m, W 0 m σ H1) /\ ∀ i m σ H, W i m σ H ->
  (J.stop i H /\ D.nx σ H) \/ (J.go i H /\ ∃ N : St -> Hp -> Prop, (∀ σ' H', N σ' H' -> ∃ m', m' < m /\ W (i + 1) m' σ' H') /\ ∀ x H', J.yld i H x H' -> g x σ H' fun σ2 H2 => tb { D with nx := N, ct := N, bk := D.nx } σ2 H2)
noncomputable def x7l (fp : List Addr) (h : Heap) : List (Addr × Obj) := fp.filterMap fun b => (h.get? b).map fun o => (b, o)
theorem x5r {fp : List Addr} {h : Heap} {b : Addr} {o : Obj} (hb : b ∈ fp) (e : h.get? b = some o) : (b, o) ∈ x7l fp h := List.mem_filterMap.mpr ⟨b, hb, by rw [e]; rfl⟩
theorem y1o {fp : List Addr} {h : Heap} {p : Addr × Obj} (hp : p ∈ x7l fp h) : p.1 ∈ fp /\ h.get? p.1 = some p.2 := by
  obtain ⟨b, hb, e⟩ := List.mem_filterMap.mp hp
  cases q : h.get? b with
  | none => rw [q] at e; cases e
  | some o =>
    rw [q] at e
    have e' : (b, o) = p := Option.some.inj e
    subst e'
    exact ⟨hb, q⟩
theorem Inv.pinned {pins : List (Addr × Obj)} {σ : St} {H : Hp} {s : Shared} {fp : List Addr} (I : Inv X pins σ H s) (hf : ∀ b ∈ fp, y7f X pins H b) (ho : ∀ b ∈ fp, ∃ o, s.heap.get? b = some o /\ ∀ v, o.data ≠ .cell v) : Inv X (pins ++ x7l fp s.heap) σ H s :=
  I.pins_of fun p hp => (List.mem_append.mp hp).elim (fun z => I.pin p (List.mem_append_right _ z)) fun z => by
    obtain ⟨hb, e⟩ := y1o z
    obtain ⟨f0, f1, f2, _⟩ := hf p.1 hb
    obtain ⟨o, e', d⟩ := ho p.1 hb
    rw [e] at e'; cases e'
    exact ⟨e, f0, f1, f2, d⟩
theorem Inv.unpinned {pins pl : List (Addr × Obj)} {σ : St} {H : Hp} {s : Shared} (I : Inv X (pins ++ pl) σ H s) : Inv X pins σ H s := I.pins_of fun p hp => I.pin p (List.mem_append_right _ (List.mem_append_left _ hp))
theorem z6c {iter : Expr} {body : List Stmt} {wi : TI} {g : TG} {tb : TS} {pos : Pos} (hp : PassesOwn (model X.prog X.w) X.A X.env X.xe) (hc : X.calm = true) (hi : PI X tg iter wi) (hg : PG X tg g) (hb : PSs X body tb)
    (hs : ∀ x, foldedSetIterable iter X.env x = pure x := by intro _; rfl) : PS X (.For tg iter body [] pos) (z9r wi g tb) := by
  intro pins s σ H D I h
  refine wpAny_For (thn (hi pins s σ H _ I h) fun v s1 h1 => thn h1 fun itv s2 h2 => ?_) hs
  obtain ⟨it, fp, tn, J, H2, e, I2, T, st2, f2, W, ⟨m0, w0⟩, turn⟩ := h2
  subst e
  -- what stays true of the iterator's objects through the loop
  have stat : ∀ {H' : Hp}, (∀ b ∈ fp, H' b = none) -> ∀ b ∈ fp, y7f X pins H' b := fun hn b hb => ⟨hn b hb, (f2 b hb).2⟩
  refine codeAny_forLoop_any (fun n s' => ∃ i σ' H', Inv X pins σ' H' s' /\ tn i s'.heap /\ (∀ b ∈ fp, H' b = none) /\ W i n σ' H') ?_ m0 ⟨0, σ, H2, I2, st2, fun b hb => (f2 b hb).1, w0⟩
  rintro n s3 ⟨i, σ3, H3, I3, st3, fr3, w3⟩
  rcases turn i n σ3 H3 w3 with ⟨stop, qn⟩ | ⟨go, N, hN, step⟩
  · refine wpAny_passesOwn hp (thn (T.done X rfl rfl rfl hc i pins s3 σ3 H3 X.xe I3 (stat fr3) st3 stop) fun r s4 ⟨hr, I4⟩ => ?_)
    subst hr
    exact wpAny_execs_nil ⟨σ3, H3, I4, qn⟩
  · refine wpAny_passesOwn hp (thn (T.item X rfl rfl rfl hc i pins s3 σ3 H3 X.xe I3 (stat fr3) st3 go) fun r s4 ⟨u, hr, h4⟩ => ?_)
    subst hr
    refine wpAny_passesOwn hp (thn h4 fun _ s5 hh0 => ?_)
    obtain ⟨x, H5, I5, r5, y5, st5, fr5⟩ := hh0
    have I5' := I5.pinned (stat fr5) (T.obj _ _ st5)
    refine wpAny_passesOwn hp (thn (hg _ s5 σ3 H5 x u _ I5' r5 (step x H5 y5)) fun _ s6 hh0 => ?_)
    obtain ⟨σ6, H6, I6, q6⟩ := hh0
    refine wpAny_passesOwn hp (thn (hb _ s6 σ6 H6 _ I6 q6) fun f s7 q7 => ?_)
    have again : ∀ {σ7 : St} {H7 : Hp}, Inv X (pins ++ x7l fp s5.heap) σ7 H7 s7 -> N σ7 H7 -> ∃ m, m < n /\ ∃ i σ' H', Inv X pins σ' H' s7 /\ tn i s7.heap /\ (∀ b ∈ fp, H' b = none) /\ W i m σ' H' := fun {σ7 H7} I7 n7 => by
      obtain ⟨m', hm, w7⟩ := hN σ7 H7 n7
      refine ⟨m', hm, i + 1, σ7, H7, I7.unpinned, T.keep _ _ _ st5 fun b hb o e => (I7.pin (b, o) (List.mem_append_right _ (List.mem_append_right _ (x5r hb e)))).1, fun b hb => ?_, w7⟩
      obtain ⟨o, e, d⟩ := T.obj _ _ st5 b hb
      exact (I7.pin (b, o) (List.mem_append_right _ (List.mem_append_right _ (x5r hb e)))).2.1
    cases f with
    | next => obtain ⟨σ7, H7, I7, n7⟩ := q7; exact again I7 n7
    | cont => obtain ⟨σ7, H7, I7, n7⟩ := q7; exact again I7 n7
    | brk => obtain ⟨σ7, H7, I7, q7⟩ := q7; exact ⟨σ7, H7, I7.unpinned, q7⟩
    | ret v => obtain ⟨x7, σ7, H7, I7, r7, q7⟩ := q7; exact ⟨x7, σ7, H7, I7.unpinned, r7, q7⟩
end
noncomputable abbrev R2 := V -> V -> Hp -> VK -> Prop
noncomputable def OpR (X : Cx) (f : Value -> Value -> Sem Value) (r : R2) : Prop :=
  ∀ (pins : List (Addr × Obj)) (s : Shared) (σ : St) (H : Hp) (x y : V) (v u : Value) (Q : VK), Inv X pins σ H s -> x36 x v -> x36 y u -> r x y H Q ->
    wpAny (model X.prog X.w) X.A (f v u) (EP X pins σ Q) X.xe s
noncomputable def UnR (X : Cx) (f : Value -> Sem Value) (r : V -> Hp -> VK -> Prop) : Prop :=
  ∀ (pins : List (Addr × Obj)) (s : Shared) (σ : St) (H : Hp) (x : V) (v : Value) (Q : VK), Inv X pins σ H s -> x36 x v -> r x H Q ->
    wpAny (model X.prog X.w) X.A (f v) (EP X pins σ Q) X.xe s
noncomputable def x7z (X : Cx) (f : Value) (r : List V -> Hp -> VK -> Prop) : Prop :=
  ∀ (pins : List (Addr × Obj)) (s : Shared) (σ : St) (H : Hp) (xs : List V) (us : List Value) (Q : VK), Inv X pins σ H s -> x2a xs us -> r xs H Q ->
    wpAny (model X.prog X.w) X.A (call f us) (EP X pins σ Q) X.xe s
noncomputable def z9i (X : Cx) (r : V -> Hp -> (Bool -> Hp -> Prop) -> Prop) : Prop :=
  ∀ (pins : List (Addr × Obj)) (s : Shared) (σ : St) (H : Hp) (x : V) (v : Value) (Q : Bool -> Hp -> Prop), Inv X pins σ H s -> x36 x v -> r x H Q ->
    wpAny (model X.prog X.w) X.A (truthy v) (TP X pins σ Q) X.xe s
noncomputable def tOp (r : R2) (ta tb : TE) : TE := fun σ H Q => ta σ H fun x H1 => tb σ H1 fun y H2 => r x y H2 Q
noncomputable def tUn (r : V -> Hp -> VK -> Prop) (ta : TE) : TE := fun σ H Q => ta σ H fun x H1 => r x H1 Q
noncomputable def rI (C : Int -> Int -> Prop) (g : Int -> Int -> V) : R2 := fun x y H Q => ∃ i j, x = .int i /\ y = .int j /\ C i j /\ Q (g i j) H
noncomputable def rI0 (g : Int -> Int -> V) : R2 := fun x y H Q => ∃ i j, x = .int i /\ y = .int j /\ Q (g i j) H
noncomputable def rU (g : Int -> V) : V -> Hp -> VK -> Prop := fun x H Q => ∃ i, x = .int i /\ Q (g i) H
section
variable {X : Cx} {a b c : Expr} {ta tb tc : TE} {pos : Pos}
theorem z8v (ha : PE X a ta) (hb : PE X b tb) {pins : List (Addr × Obj)} {s : Shared} {σ : St} {H : Hp} {R : V -> V -> Hp -> Prop} (I : Inv X pins σ H s)
    (h : ta σ H fun x H1 => tb σ H1 fun y H2 => R x y H2) {Q : Value -> Shared -> Prop} {f : Value -> Value -> Sem Value}
    (hf : ∀ v u s2 x y H2, Inv X pins σ H2 s2 -> x36 x v -> x36 y u -> R x y H2 -> wpAny (model X.prog X.w) X.A (f v u) Q X.xe s2) :
    wpAny (model X.prog X.w) X.A (eval a X.env) (fun v s₁ => wpAny (model X.prog X.w) X.A (eval b X.env) (fun u s₂ => wpAny (model X.prog X.w) X.A (f v u) Q X.xe s₂) X.xe s₁) X.xe s := by
  refine thn (ha pins s σ H _ I h) fun v s1 hh0 => ?_
  obtain ⟨x, H1, I1, r1, q1⟩ := hh0
  refine thn (hb pins s1 σ H1 _ I1 q1) fun u s2 hh0 => ?_
  obtain ⟨y, H2, I2, r2, q2⟩ := hh0
  exact hf v u s2 x y H2 I2 r1 r2 q2
theorem y15 {op : Operator} {r : R2} (ho : OpR X (binaryOp op) r) (ha : PE X a ta) (hb : PE X b tb) : PE X (.BinOp a op b pos) (tOp r ta tb) := by
  intro pins s σ H Q I h
  exact wpAny_BinOp (z8v ha hb I h fun v u s2 x y H2 I2 rx ry q => ho pins s2 σ H2 x y v u Q I2 rx ry q)
theorem z7k {op : UnaryOp} {r : V -> Hp -> VK -> Prop} (ho : UnR X (unaryOp op) r) (ha : PE X a ta) : PE X (.UnaryOp op a pos) (tUn r ta) := by
  intro pins s σ H Q I h
  exact UnaryOp_ (thn (ha pins s σ H _ I h) fun v s1 ⟨x, H1, I1, r1, q1⟩ => ho pins s1 σ H1 x v Q I1 r1 q1)
theorem opI {f : Value -> Value -> Sem Value} {C : Int -> Int -> Prop} {g : Int -> Int -> Int}
    (rule : ∀ (i j : Int) (t u : Tok) (s : Shared) (Q : Value -> Shared -> Prop) (E : Value -> Shared -> Prop), C i j -> Q (.int (g i j) s.toks) { s with toks := s.toks + 1 } -> wpAny (model X.prog X.w) X.A (f (.int i t) (.int j u)) Q E s) :
    OpR X f (rI C fun i j => .int (g i j)) := by
  intro pins s σ H x y v u Q I rx ry h
  obtain ⟨i, j, rfl, rfl, hc, q⟩ := h
  obtain ⟨t, rfl⟩ := rx
  obtain ⟨t', rfl⟩ := ry
  exact rule i j t t' s _ _ hc ⟨.int (g i j), H, I.tok _, ⟨_, rfl⟩, q⟩
theorem z9v {f : Value -> Value -> Sem Value} {g : Int -> Int -> Int}
    (rule : ∀ (i j : Int) (t u : Tok) (s : Shared) (Q : Value -> Shared -> Prop) (E : Value -> Shared -> Prop), Q (.int (g i j) s.toks) { s with toks := s.toks + 1 } -> wpAny (model X.prog X.w) X.A (f (.int i t) (.int j u)) Q E s) :
    OpR X f (rI0 fun i j => .int (g i j)) := by
  intro pins s σ H x y v u Q I rx ry h
  obtain ⟨i, j, rfl, rfl, q⟩ := h
  obtain ⟨t, rfl⟩ := rx
  obtain ⟨t', rfl⟩ := ry
  exact rule i j t t' s _ _ ⟨.int (g i j), H, I.tok _, ⟨_, rfl⟩, q⟩
theorem z91 {f : Value -> Value -> Sem Value} {g : Int -> Int -> Bool}
    (rule : ∀ (i j : Int) (t u : Tok) (s : Shared) (Q : Value -> Shared -> Prop) (E : Value -> Shared -> Prop), Q (.bool (g i j)) s -> wpAny (model X.prog X.w) X.A (f (.int i t) (.int j u)) Q E s) :
    OpR X f (rI0 fun i j => .bl (g i j)) := by
  intro pins s σ H x y v u Q I rx ry h
  obtain ⟨i, j, rfl, rfl, q⟩ := h
  obtain ⟨t, rfl⟩ := rx
  obtain ⟨t', rfl⟩ := ry
  exact rule i j t t' s _ _ ⟨.bl (g i j), H, I, rfl, q⟩
noncomputable def z9f (i j : Int) : Prop := 0 < j /\ j < 1073741824
noncomputable def z85 (i j : Int) : Prop := (-(2 ^ 64) < i /\ i < 2 ^ 64) \/ (-(2 ^ 64) < j /\ j < 2 ^ 64)
theorem z85.ok {i j : Int} (h : z85 i j) : IntMulOk i j := by
  rcases h with ⟨h1, h2⟩ | ⟨h1, h2⟩
  · exact .of_left (intBits_le_64 h1 h2)
  · exact .of_right (intBits_le_64 h1 h2)
theorem z4q : OpR X (binaryOp .Add) (rI0 fun i j => .int (i + j)) := z9v fun _ _ _ _ _ _ _ q => add_int q
theorem z5r : OpR X (binaryOp .Mult) (rI z85 fun i j => .int (i * j)) := opI fun _ _ _ _ _ _ _ hc q => mul_int q hc.ok
theorem z2t : OpR X (binaryOp .FloorDiv) (rI z9f fun i j => .int (i / j)) := opI fun i j _ _ _ _ _ hc q => by
  have h1 : (0 : Int) < j := hc.1
  have h2 : j < 1073741824 := hc.2
  exact floordiv_int (by omega) (by rw [Int.fdiv_eq_ediv_of_nonneg i (by omega)]; exact q) (.inl (PyProof.noPylong_small (by omega)))
theorem z6i : OpR X (binaryOp .Mod) (rI (fun _ j => 0 < j) fun i j => .int (i % j)) := opI fun i j _ _ _ _ _ hc q => by
  have h1 : (0 : Int) < j := hc
  exact mod_int' (by omega) (by rw [Int.fmod_eq_emod_of_nonneg i (by omega)]; exact q)
theorem unI {f : Value -> Sem Value} {g : Int -> Int}
    (rule : ∀ (i : Int) (t : Tok) (s : Shared) (Q : Value -> Shared -> Prop) (E : Value -> Shared -> Prop), Q (.int (g i) s.toks) { s with toks := s.toks + 1 } -> wpAny (model X.prog X.w) X.A (f (.int i t)) Q E s) :
    UnR X f (rU fun i => .int (g i)) := by
  intro pins s σ H x v Q I rx h
  obtain ⟨i, rfl, q⟩ := h
  obtain ⟨t, rfl⟩ := rx
  exact rule i t s _ _ ⟨.int (g i), H, I.tok _, ⟨_, rfl⟩, q⟩
theorem z74 : UnR X (unaryOp .USub) (rU fun i => .int (-i)) := unI fun _ _ _ _ _ q => neg_int q
end
section
variable {X : Cx} {a b c : Expr} {ta tb tc : TE} {pos : Pos}
theorem z4r {pins : List (Addr × Obj)} {σ : St} {H : Hp} {s : Shared} {Q : VK} {k k' : Bool} (I : Inv X pins σ H s) (q : Q (.bl k) H) (e : k = k') : EP X pins σ Q (.bool k') s := by
  subst e
  exact ⟨.bl k, H, I, rfl, q⟩
theorem z5c : OpR X (compareOp .Lt) (rI0 fun i j => .bl (decide (i < j))) := z91 fun _ _ _ _ _ _ _ q => lt_int q
theorem z8r : OpR X (compareOp .LtE) (rI0 fun i j => .bl (decide (i <= j))) := z91 fun _ _ _ _ _ _ _ q => le_int q
theorem z04 : OpR X (compareOp .Is) (fun x y H Q => y = .non /\ Q (.bl (decide (x = .non))) H) := by
  intro pins s σ H x y v u Q I rx ry h
  obtain ⟨rfl, q⟩ := h
  cases ry
  refine is_none_gen (z4r I q ?_)
  cases x <;> first
    | (cases rx; rfl)
    | (obtain ⟨t, rfl⟩ := rx; rfl)
theorem OpR.or {f : Value -> Value -> Sem Value} {r r' : R2} (h : OpR X f r) (h' : OpR X f r') : OpR X f (fun x y H Q => r x y H Q \/ r' x y H Q) := by
  intro pins s σ H x y v u Q I rx ry q
  rcases q with q | q
  · exact h pins s σ H x y v u Q I rx ry q
  · exact h' pins s σ H x y v u Q I rx ry q
theorem y12 (b : Expr) {op : CmpOp} (h : op ≠ .In := by decide) (h2 : op ≠ .NotIn := by decide) : behindInMarks op b = false := by
  have e1 : (op == CmpOp.In) = false := by cases op <;> first | rfl | exact absurd rfl h
  have e2 : (op == CmpOp.NotIn) = false := by cases op <;> first | rfl | exact absurd rfl h2
  cases b <;> simp [behindInMarks, e1, e2]
theorem z3k {op : CmpOp} {r : R2} (ho : OpR X (compareOp op) r) (ha : PE X a ta) (hb : PE X b tb) (hm : behindInMarks op b = false) : PE X (.Compare a [op] [b] pos) (tOp r ta tb) := by
  intro pins s σ H Q I h
  exact wpAny_Compare1 (z8v ha hb I h fun v u s2 x y H2 I2 rx ry q => ho pins s2 σ H2 x y v u Q I2 rx ry q) hm
noncomputable def z5f (t : TE) : TT := fun σ H Q => t σ H fun x H' => ∃ k, x = .bl k /\ Q k H'
theorem z2g {op : CmpOp} {r : R2} (ho : OpR X (compareOp op) r) (ha : PE X a ta) (hb : PE X b tb) (hm : behindInMarks op b = false) : PT X (.Compare a [op] [b] pos) (z5f (tOp r ta tb)) := by
  intro pins s σ H Q I h
  refine wpAny_isTrue_Compare1 (thn (ha pins s σ H _ I h) fun v s1 ⟨x, H1, I1, r1, q1⟩ => thn (hb pins s1 σ H1 _ I1 q1) fun u s2 ⟨y, H2, I2, r2, q2⟩ =>
    thn (ho pins s2 σ H2 x y v u _ I2 r1 r2 q2) fun c s3 ⟨z, H3, I3, r3, k, e, q3⟩ => ?_) hm
  subst e
  cases r3
  exact wpAny_truthy_bool ⟨H3, I3, q3⟩
noncomputable def z5s (r r' : R2) (ta tb tc : TE) : TE := fun σ H Q => ta σ H fun x H1 => tb σ H1 fun y H2 => r x y H2 fun z H3 => ∃ k, z = .bl k /\
  (if k = true then tc σ H3 fun w' H4 => r' y w' H4 Q else Q (.bl false) H3)
theorem y8s {op op' : CmpOp} {r r' : R2} (ho : OpR X (compareOp op) r) (ho' : OpR X (compareOp op') r') (ha : PE X a ta) (hb : PE X b tb) (hc : PE X c tc)
    (hm : lastMarks [op, op'] [b, c] = false := by with_unfolding_all rfl) : PE X (.Compare a [op, op'] [b, c] pos) (z5s r r' ta tb tc) := by
  intro pins s σ H Q I h
  refine Compare_chain (thn (ha pins s σ H _ I h) fun v s1 ⟨x, H1, I1, r1, q1⟩ => chain_link (thn (hb pins s1 σ H1 _ I1 q1) fun u s2 ⟨y, H2, I2, r2, q2⟩ =>
    thn (ho pins s2 σ H2 x y v u _ I2 r1 r2 q2) fun d s3 ⟨z, H3, I3, r3, k, e, q3⟩ => ?_)) hm
  subst e
  cases r3
  refine wpAny_truthy_bool ?_
  cases k with
  | false => exact ite_ff ⟨.bl false, H3, I3, rfl, q3⟩
  | true => exact ite_tt (chain_last (thn (hc pins s3 σ H3 _ I3 q3) fun w' s4 ⟨z', H4, I4, r4, q4⟩ => ho' pins s4 σ H4 y z' u w' Q I4 r2 r4 q4))
noncomputable def z94 (K : PySem.W.Frag) (x : V) (H : Hp) (k : Bool) : Prop :=
  match x with
  | .non => k = false
  | .bl b => k = b
  | .int i => k = (i != 0)
  | .str y => y.length <= sizeLine /\ k = ((y.length : Int) != 0)
  | .byt y => y.size <= sizeLine /\ k = ((y.size : Int) != 0)
  | .ref p => (∃ xs, SqL K H p xs /\ k = !xs.isEmpty) \/ (∃ xs, SqT K H p xs /\ k = !xs.isEmpty) \/ ∃ kvs, H p = some (.dK kvs) /\ k = !kvs.isEmpty
  | _ => False
theorem y55 {κ : Type} {kvs : List (κ × V)} {vs : List (κ × Value)} (r : KV kvs vs) : (!vs.isEmpty) = !kvs.isEmpty := by
  cases r <;> rfl
theorem x9u {xs : List V} {its : List Value} (r : x2a xs its) : (!its.toArray.isEmpty) = !xs.isEmpty := by
  cases r <;> simp
theorem y02 : (sizeLine : Nat) < 2 ^ 63 := by rw [sizeLine_eq]; decide
theorem z3w : z9i X (fun x H Q => ∃ k, z94 X.K x H k /\ Q k H) := by
  intro pins s σ H x v Q I rx h
  obtain ⟨k, e, q⟩ := h
  have hl := y02
  have hs : sizeLine = 16777216 := sizeLine_eq
  cases x with
  | non =>
    cases rx
    have e' : k = false := e
    subst e'
    exact truthy_none ⟨H, I, q⟩
  | bl b =>
    cases rx
    have e' : k = b := e
    subst e'
    exact wpAny_truthy_bool ⟨H, I, q⟩
  | int i =>
    obtain ⟨t, rfl⟩ := rx
    have e' : k = (i != 0) := e
    subst e'
    exact PySem.P.truthy_int ⟨H, I, q⟩
  | str y =>
    obtain ⟨t, rfl⟩ := rx
    obtain ⟨hy, e'⟩ : y.length <= sizeLine /\ k = ((y.length : Int) != 0) := e
    subst e'
    exact PySem.P.truthy_str (by omega) ⟨H, I.tok _, q⟩
  | byt y =>
    obtain ⟨t, rfl⟩ := rx
    obtain ⟨hy, e'⟩ : y.size <= sizeLine /\ k = ((y.size : Int) != 0) := e
    subst e'
    exact PySem.W.truthy_bytes (by omega) ⟨H, I.tok _, q⟩
  | ref p =>
    cases rx
    have e' : (∃ xs, SqL X.K H p xs /\ k = !xs.isEmpty) \/ (∃ xs, SqT X.K H p xs /\ k = !xs.isEmpty) \/ ∃ kvs, H p = some (.dK kvs) /\ k = !kvs.isEmpty := e
    rcases e' with ⟨xs, hx, e'⟩ | ⟨xs, hx, e'⟩ | ⟨kvs, hx, e'⟩
    · subst e'
      obtain ⟨its, r, pl, hz⟩ := I.list hx
      have hlen := r.length
      exact wpAny_truthy_list pl.isList (by simp only [List.size_toArray]; omega) ⟨H, I.tok _, by rw [x9u r]; exact q⟩
    · subst e'
      obtain ⟨its, r, pl, hz⟩ := I.tuple hx
      have hlen := r.length
      exact truthy_tuple pl (by simp only [List.size_toArray]; omega) ⟨H, I.tok _, by rw [x9u r]; exact q⟩
    · subst e'
      obtain ⟨hz, hS, vs, r, m⟩ : kvs.length <= sizeLine /\ (p == sysModules) = false /\ ∃ vs, KV kvs vs /\ s.heap.DictOf (x2j X.prog X.w) p vs := I.hok p _ hx
      have hlen : kvs.length = vs.length := Paired.length r
      exact wpAny_truthy_dict hS m (by omega) ⟨H, I.tok _, by rw [y55 r]; exact q⟩
  | _ => exact (show False from e).elim
theorem y8a (ha : PE X a ta) (he : ∀ whole, isTrue a X.env whole = (do let v <- whole; standAt a.pos; holding [v] (truthy v))) :
    PT X a (fun σ H Q => ta σ H fun x H' => ∃ k, z94 X.K x H' k /\ Q k H') := by
  intro pins s σ H Q I h
  exact isTrue_plain (thn (ha pins s σ H _ I h) fun v s1 ⟨x, H1, I1, r1, q1⟩ => z3w pins s1 σ H1 x v Q I1 r1 q1) (he _)
theorem y0t {x : V} {us : List Value} (r : x2a [x] us) : ∃ u, us = [u] /\ x36 x u := by
  cases r with
  | cons r1 r2 => cases r2; exact ⟨_, rfl, r1⟩
theorem y8x {x y : V} {us : List Value} (r : x2a [x, y] us) : ∃ u w', us = [u, w'] /\ x36 x u /\ x36 y w' := by
  cases r with
  | cons r1 r2 =>
    cases r2 with
    | cons r3 r4 => cases r4; exact ⟨_, _, rfl, r1, r3⟩
theorem y6e (hc : X.calm = true) : x7z X (.builtin "max") (fun xs H Q => ∃ i j, xs = [.int i, .int j] /\ Q (.int (if j > i then j else i)) H) := by
  intro pins s σ H xs us Q I r h
  obtain ⟨i, j, rfl, q⟩ := h
  obtain ⟨u, w', rfl, ⟨t, rfl⟩, ⟨t', rfl⟩⟩ := y8x r
  refine max_two_ints (I.ok.hd hc) fun h' tk k => ⟨_, H, I.kept k, ?_, q⟩
  by_cases hj : j > i
  · rw [if_pos hj, if_pos hj]; exact ⟨_, rfl⟩
  · rw [if_neg hj, if_neg hj]; exact ⟨_, rfl⟩
end
structure ObjM (h : Heap) (x dx C : Addr) (mA : Str -> Option Value) : Prop where
  obj : h.get? x = some (PySem.W.instObj C dx)
  ns : h.Ns1 dx mA
  ne : dx ≠ x
theorem y76 {h : Heap} {dx : Addr} {mA : Str -> Option Value} (n : h.Ns1 dx mA) : ∃ od, h.get? dx = some od /\ ∀ name, PySem.W.lookIn name od = some (mA name) := by
  obtain ⟨o, es, ep, ho, hd, hk, _, hm⟩ := n
  refine ⟨o, ho, fun name => ?_⟩
  have e := hm name
  unfold nsFind findBy at e
  rw [<- Array.find?_toList] at e
  unfold PySem.W.lookIn
  rw [hd]
  dsimp only
  split
  · rename_i y q
    rw [q] at e
    exact congrArg some e
  · rename_i q
    rw [q] at e
    have a : es.toList.any (·.refKey) = false := by
      rw [List.any_eq_false]
      intro y hy
      obtain ⟨z, t, hkey⟩ := hk y (Array.mem_toList_iff.mp hy)
      simp [DictEntry.refKey, hkey]
    have a' : ¬ es.toList.any (·.refKey) = true := by rw [a]; exact Bool.false_ne_true
    rw [if_neg a']
    exact congrArg some e
theorem ObjM.look {h : Heap} {x dx C : Addr} {mA : Str -> Option Value} (I : ObjM h x dx C mA) : ∃ od, PySem.W.InstAt h x (PySem.W.instObj C dx) C (some od) /\ ∀ name, PySem.W.lookIn name od = some (mA name) :=
  let ⟨od, ho, hl⟩ := y76 I.ns
  ⟨od, ⟨I.obj, rfl, rfl, ho⟩, hl⟩
section
variable {prog : Program} {w : World} {A : Around} {E : Value -> Shared -> Prop} {s : Shared} {K : PySem.W.Frag} {x dx C f : Addr} {mA : Str -> Option Value} {name : Str} {v : Value}
end
section
variable {P : Program} {w : World} {H H' : Hp} {h h' : Heap} {a C dx : Addr} {fs fs' : List (Str × V)}
theorem z0w (hok : HOk P w H h) (e : H a = some (.ins C dx fs)) : ∃ mA, ObjM h a dx C mA /\ (∀ f, z38 (fs.lookup f) (mA f)) /\ PySem.Within mA (fs.map (·.1)) /\ fs.length <= 1000 /\ H dx = some (.own a) := by
  obtain ⟨d, z, ne, ob, mA, n, r, q⟩ := (show x2d P w H h a (.ins C dx fs) from hok a _ e)
  exact ⟨mA, ⟨ob, n, ne⟩, r, q, z, d⟩
end
structure Cls (K : PySem.W.Frag) (C : Addr) : Prop where
  pg : PySem.W.plainGet K C Str.empty = true
  hd : PySem.W.hasDictIn K C = true
  po : PySem.W.plainOver K C = true
  sa : PySem.W.findIn K (.ref C) "__setattr__" = some (some (.builtin "object.__setattr__"))
theorem Cls.get {K : PySem.W.Frag} {C : Addr} (c : Cls K C) (f : Str) : PySem.W.plainGet K C f = true := c.pg
section
variable {X : Cx} {pins : List (Addr × Obj)} {σ : St} {H : Hp} {s : Shared} {a C dx : Addr} {fs : List (Str × V)} {f : Str} {v : V} {A : Around} {E : Value -> Shared -> Prop}
end
section
variable {X : Cx} {pins : List (Addr × Obj)} {σ : St} {H : Hp} {s : Shared} {A : Around} {E : Value -> Shared -> Prop} {Q : Value -> Shared -> Prop} {c : Value} {b : Bool}
inductive TyOf (K : PySem.W.Frag) (H : Hp) : V -> Value -> Prop where
  | non : TyOf K H .non (.type "NoneType")
  | bl (x : Bool) : TyOf K H (.bl x) (.type "bool")
  | int (i : Int) : TyOf K H (.int i) (.type "int")
  | str (x : Str) : TyOf K H (.str x) (.type "str")
  | flt (x : UInt64) : TyOf K H (.flt x) (.type "float")
  | lst {a : Addr} {xs : List V} (e : H a = some (.lst xs)) : TyOf K H (.ref a) (.type "list")
  | frz {a : Addr} {o : Obj} {xs : List V} (e : H a = some (.frz o (.lst xs))) : TyOf K H (.ref a) (.type "list")
  | tup {a : Addr} {xs : List V} (e : H a = some (.tup xs)) : TyOf K H (.ref a) (.type "tuple")
  | dK {a : Addr} {kvs : List (Key × V)} (e : H a = some (.dK kvs)) : TyOf K H (.ref a) (.type "dict")
  | dT {a : Addr} {kvs : List (List Key × V)} (e : H a = some (.dT kvs)) : TyOf K H (.ref a) (.type "dict")
  | ins {a C dx : Addr} {fs : List (Str × V)} (e : H a = some (.ins C dx fs)) (cl : Cls K C) (ha : PySem.W.findIn K (.ref C) "__class__" = some (some (.builtin "object.__class__")))
      (hn : PySem.W.specialIn K (.builtin "object.__class__") "__get__" = some (some (.builtin "getset_descriptor.__get__"))) (htk : PySem.W.takesIn K (.builtin "object.__class__") = some true)
      (hm : PySem.W.mroIn K C (.type "object") = some true) : TyOf K H (.ref a) (.ref C)
theorem x2z {x : V} {u t : Value} (I : Inv X pins σ H s) (rx : x36 x u) (ty : TyOf X.K H x t) (e : PySem.W.kitOne X.K t c = some b) (h : ∀ tk, Q (.bool b) { s with toks := tk }) :
    wpAny (model X.prog X.w) A (call (.builtin "isinstance") [u, c]) Q E s := by
  cases ty with
  | non => cases (show u = Value.none from rx); exact PySem.W.kia_one PySem.W.kitx_none I.kIn True.intro e (fun z => nomatch z) h
  | bl y => cases (show u = Value.bool y from rx); exact PySem.W.kia_one PySem.W.kitx_bool I.kIn True.intro e (fun z => nomatch z) h
  | int i => obtain ⟨t, q⟩ := (show ∃ t, u = Value.int i t from rx); cases q; exact PySem.W.kia_one PySem.W.kitx_int I.kIn True.intro e (fun z => nomatch z) h
  | str y => obtain ⟨t, q⟩ := (show ∃ t, u = Value.str y t from rx); cases q; exact PySem.W.kia_one PySem.W.kitx_str I.kIn True.intro e (fun z => nomatch z) h
  | flt y => obtain ⟨t, q⟩ := (show ∃ t, u = Value.float y t from rx); cases q; exact PySem.W.kia_one PySem.W.kitx_float I.kIn True.intro e (fun z => nomatch z) h
  | @lst a xs ea =>
    cases (show u = Value.ref a from rx)
    obtain ⟨_, _, n, _, h1⟩ := (show x2d X.prog X.w H s.heap a (.lst xs) from I.hok a _ ea)
    exact PySem.W.kia_one PySem.W.kitx_list I.kIn ⟨_, h1, rfl⟩ e (fun z => nomatch z) h
  | @frz a ob xs ea =>
    cases (show u = Value.ref a from rx)
    obtain ⟨_, _, _, n, _, h1⟩ := (show x2d X.prog X.w H s.heap a (.frz ob (.lst xs)) from I.hok a _ ea)
    exact PySem.W.kia_one PySem.W.kitx_list I.kIn ⟨_, h1, rfl⟩ e (fun z => nomatch z) h
  | @tup a xs ea =>
    cases (show u = Value.ref a from rx)
    obtain ⟨_, _, _, p⟩ := (show x2d X.prog X.w H s.heap a (.tup xs) from I.hok a _ ea)
    obtain ⟨o, h1, h2, _⟩ := p
    exact PySem.W.kia_one PySem.W.kitx_tuple I.kIn ⟨o, h1, h2⟩ e (fun z => nomatch z) h
  | @dK a kvs ea =>
    cases (show u = Value.ref a from rx)
    obtain ⟨_, _, vs, _, p⟩ := (show x2d X.prog X.w H s.heap a (.dK kvs) from I.hok a _ ea)
    obtain ⟨o, es, ep, h1, h2, _⟩ := p
    exact PySem.W.kia_one PySem.W.kitx_dict I.kIn ⟨o, h1, h2.1⟩ e (fun z => nomatch z) h
  | @dT a kvs ea =>
    cases (show u = Value.ref a from rx)
    obtain ⟨_, _, xs, _, o, es, ep, h1, h2, _⟩ := (show x2d X.prog X.w H s.heap a (.dT kvs) from I.hok a _ ea)
    exact PySem.W.kia_one PySem.W.kitx_dict I.kIn ⟨o, h1, h2.1⟩ e (fun z => nomatch z) h
  | @ins a C dx fs ea cl ha hn htk hm =>
    cases (show u = Value.ref a from rx)
    obtain ⟨mA, O, _⟩ := z0w I.hok ea
    obtain ⟨od, J, _⟩ := O.look
    exact PySem.W.kia_one (PySem.W.kitx_own (cl.get _) cl.hd ha hn htk hm) I.kIn J e (fun z => nomatch z) h
end
structure Room (k : Nat) (A : Around) : Prop where
  hd : A.handled = none
  dp : A.depth + 3 * k + 5 < recursionLimit
  un : A.units + 16 * k + 200 < cLine
theorem Room.mono {j k : Nat} {A : Around} (r : Room k A) (h : j <= k) : Room j A := ⟨r.hd, by have := r.dp; omega, by have := r.un; omega⟩
theorem Room.deeper {k : Nat} {A : Around} (r : Room (k + 1) A) (env : Env) : Room k (A.deeper env) :=
  ⟨r.hd, by have := r.dp; show A.depth + 1 + 3 * k + 5 < _; omega, by have := r.un; show A.units + 3 + 16 * k + 200 < _; omega⟩
theorem Room.depth {k : Nat} {A : Around} (r : Room k A) : A.depth < recursionLimit := by have := r.dp; omega
theorem Room.units {k : Nat} {A : Around} (r : Room k A) : A.units + 64 < cLine := by have := r.un; omega
noncomputable def z98 : TA := fun _ H Q => Q [] H
noncomputable def z4g (ta : TE) (tr : TA) : TA := fun σ H Q => ta σ H fun x H1 => tr σ H1 fun xs H2 => Q (x :: xs) H2
section
variable {X : Cx} {e : Expr} {es : List Expr} {te : TE} {t : TA} {pos : Pos}
theorem x6f : PA X [] z98 := fun _ _ _ _ H Q I h => Calls.spliced_nil ⟨[], H, I, .nil, h⟩
theorem x3g (ha : PE X e te) (hr : PA X es t) (hs : starEach (e :: es) X.env = (false, eval e X.env) :: starEach es X.env := by rfl) : PA X (e :: es) (z4g te t) := by
  intro pos pins s σ H Q I h
  rw [hs]
  show wpAny _ _ (spliced ((false, eval e X.env) :: backTo pos (starEach es X.env))) _ _ s
  refine Calls.spliced_cons (thn (ha pins s σ H _ I h) fun u s1 hh0 => ?_)
  obtain ⟨x, H1, I1, r1, q1⟩ := hh0
  exact thn (hr pos pins s1 σ H1 _ I1 q1) fun us s2 ⟨xs, H2, I2, r2, q2⟩ => ⟨x :: xs, H2, I2, .cons r1 r2, q2⟩
noncomputable def z9m (t : TA) : TE := fun σ H Q => t σ H fun xs H1 => xs.length <= sizeLine /\ ∀ p, H1 p = none -> Q (.ref p) (upd H1 p (.tup xs))
noncomputable def z9s (t : TA) : TE := fun σ H Q => t σ H fun xs H1 => xs.length <= sizeLine /\ ∀ p, H1 p = none -> Q (.ref p) (upd H1 p (.lst xs))
theorem z4z {x1} (h : PA X es t) : PE X (.Tuple es x1 pos) (z9m t) := by
  intro pins s σ H Q I hq
  refine wpAny_Tuple_spliced (thn (h pos pins s σ H _ I hq) fun us s1 ⟨xs, H1, I1, r, z, q⟩ => ⟨by rw [<- r.length]; exact z, ?_⟩)
  have hf : H1 s1.heap.objs.size = none := I1.hok.fresh (Nat.le_refl _)
  refine ⟨.ref s1.heap.objs.size, upd H1 s1.heap.objs.size (.tup xs), I1.laid (t' := s1.toks) (fun b u e => Heap.get?_push_of_some _ e) (Nat.le_refl _) ?_, rfl, q _ hf⟩
  exact ⟨z, us, r, ⟨_, Heap.get?_push_size _ rfl, rfl, ⟨_, rfl⟩, rfl⟩⟩
theorem z6a (h : PA X es t) : PE X (.List es pos) (z9s t) := by
  intro pins s σ H Q I hq
  refine wpAny_List_spliced (thn (h pos pins s σ H _ I hq) fun us s1 ⟨xs, H1, I1, r, z, q⟩ => ⟨by rw [<- r.length]; exact z, ?_⟩)
  have hf : H1 s1.heap.objs.size = none := I1.hok.fresh (Nat.le_refl _)
  refine ⟨.ref s1.heap.objs.size, upd H1 s1.heap.objs.size (.lst xs), I1.laid (t' := s1.toks) (fun b u e => Heap.get?_push_of_some _ e) (Nat.le_refl _) ?_, rfl, q _ hf⟩
  exact ⟨z, us, 0, r, Heap.get?_push_size _ rfl⟩
end
noncomputable abbrev Sp := List V -> Hp -> VK -> XK -> Prop
noncomputable abbrev CXT := List Env -> Hp -> Shared -> XK -> Value -> Shared -> Prop
structure Env0 (P : Program) (w : World) (K : PySem.W.Frag) (mg : Str -> Option Value) (base : Heap) (A : Around) (outer : List Env) (s : Shared) (H : Hp) : Prop where
  frames : A.frames = some outer
  mod : Mod K mg base
  bs : ∀ b o, base.get? b = some o -> s.heap.get? b = some o /\ H b = none
  bsz : base.objs.size <= s.heap.objs.size
  funs : s.heap.FunFrames base outer
  frf : ∀ b ∈ frs outer, H b = none
  hok : HOk P w H s.heap
  bare : AllBare s.gens
noncomputable def CE (outer : List Env) (P : Program) (w : World) (H : Hp) (s : Shared) (Q : VK) (u : Value) (s' : Shared) : Prop :=
  ∃ v H', s'.os = s.os /\ AllBare s'.gens /\ Un (frs outer) [] H H' s.heap s'.heap /\ HOk P w H' s'.heap /\ x36 v u /\ Q v H'
noncomputable def CR (CX : CXT) (outer : List Env) (P : Program) (w : World) (H : Hp) (s : Shared) (Q : VK) (E : XK) (r : Result) (s' : Shared) : Prop :=
  match r with
  | .ok (.ret u) => CE outer P w H s Q u s'
  | .ok _ => False
  | .error e => CX outer H s E e s'
structure FnOk (P : Program) (w : World) (K : PySem.W.Frag) (mg : Str -> Option Value) (base : Heap) (CX : CXT) (k : Nat) (f : Addr) (fd : FuncData) (ps : List Str) (sp : Sp) : Prop where
  len : ∀ vs H Q E, sp vs H Q E -> vs.length = ps.length
  run : ∀ (A : Around) (outer : List Env) (s : Shared) (H : Hp) (args : Args) (us : List Value) (vs : List V) (Q : VK) (E : XK), Room k A -> Env0 P w K mg base A outer s H -> BindsTo s fd args (ps.zip us) -> x2a vs us -> sp vs H Q E ->
    codeAny (model P w) A (.call (.ref f) args) (CR CX outer P w H s Q E) s
section
variable {X : Cx} {pins : List (Addr × Obj)} {σ : St} {H : Hp} {s s' : Shared}
theorem Inv.env0 (I : Inv X pins σ H s) : Env0 X.prog X.w X.K X.mg X.base X.A X.stack s H :=
  ⟨I.ok.frames, I.ok.mod, I.bs, Nat.le_trans I.ok.bsz I.sz, I.stack, I.stkFree, I.hok, I.bare⟩
theorem Inv.after {Q : VK} {u : Value} (I : Inv X pins σ H s) (h : CE X.stack X.prog X.w H s Q u s') : EP X pins σ Q u s' := by
  obtain ⟨v, H', os, bare, un, hok, r, q⟩ := h
  obtain ⟨hh, g, d, t, os'⟩ := s'
  obtain rfl : os' = s.os := os
  exact ⟨v, H', I.call (h' := hh) (g' := g) (d' := d) (t' := t) (ch := []) un hok bare (fun b z => absurd z (by simp)), r, q⟩
end
noncomputable def z8g (sp : Sp) (dvs : List V) (E : XK) (t : TA) : TE := fun σ H Q => t σ H fun vs H1 => sp (vs ++ dvs) H1 Q E
noncomputable def y0d (K : PySem.W.Frag) (fd : FuncData) (ps : List Str) (ds : List Value) : Prop :=
  ∀ (s : Shared) (us : List Value), K.In s.heap -> (us ++ ds).length = ps.length -> BindsTo s fd ⟨us, []⟩ (ps.zip (us ++ ds))
theorem y0d.all {K : PySem.W.Frag} {fd : FuncData} {ps : List Str} (h : ∀ us : List Value, us.length = ps.length -> bindArgs fd ⟨us, []⟩ = pure (ps.zip us)) : y0d K fd ps [] := fun s us _ hl => by
  rw [List.append_nil] at hl ⊢
  exact .of_eq (h us hl)
noncomputable def y45 (CX : CXT) (X : Cx) (E : XK) : Prop := ∀ (pins : List (Addr × Obj)) (σ : St) (H : Hp) (s : Shared) (e : Value) (s' : Shared), Inv X pins σ H s -> CX X.stack H s E e s' -> X.xe e s'
section
variable {X : Cx} {CX : CXT} {k : Nat} {f C : Addr} {fd : FuncData} {ps : List Str} {sp : Sp} {dvs : List V} {ds : List Value} {E : XK} {x m : Str} {p pos apos : Pos} {e o : Expr} {es : List Expr} {ta : TE} {t : TA}
theorem z5i {pins : List (Addr × Obj)} {σ : St} {H : Hp} {s : Shared} {Q : VK} {us : List Value} {vs : List V} (F : FnOk X.prog X.w X.K X.mg X.base CX k f fd ps sp) (hr : Room k X.A) (hb : y0d X.K fd ps ds) (hd : x2a dvs ds) (hx : y45 CX X E)
    (I : Inv X pins σ H s) (r : x2a vs us) (h : sp (vs ++ dvs) H Q E) : wpAny (model X.prog X.w) X.A (call (.ref f) us) (EP X pins σ Q) X.xe s := by
  have r2 : x2a (vs ++ dvs) (us ++ ds) := r.append hd
  have hl : (us ++ ds).length = ps.length := by rw [<- r2.length]; exact F.len _ _ _ _ h
  refine wpAny_call (codeAny_mono (F.run X.A X.stack s H ⟨us, []⟩ (us ++ ds) (vs ++ dvs) Q E hr I.env0 (hb s us I.kIn hl) r2 h) fun r s' hq => ?_)
  cases r with
  | error e => exact hx pins σ H s e s' I hq
  | ok fl =>
    cases fl with
    | ret u => exact I.after hq
    | next => exact False.elim hq
    | brk => exact False.elim hq
    | cont => exact False.elim hq
theorem y6z (F : FnOk X.prog X.w X.K X.mg X.base CX k f fd ps sp) (hr : Room k X.A) (hg : Gl X x) (hm : X.mg x = some (.ref f)) (hk : PySem.W.keepIn X.K (.ref f) = true) (hb : y0d X.K fd ps ds) (hd : x2a dvs ds) (hx : y45 CX X E)
    (ha : PA X (e :: es) t) (hdb : (x == ("__debug__" : Str)) = false := by decide) (he : starEach (e :: es) X.env = (false, eval e X.env) :: starEach es X.env := by rfl) (hpl : (backTo pos (starEach es X.env)).any (·.1) = false := by rfl) :
    PE X (.Call (.Name x p) (e :: es) [] pos) (z8g sp dvs E t) := by
  intro pins s σ H Q I h
  refine wpAny_Call_Name_kw (x8l I hg hm ?_ hdb)
  refine PySem.W.callWith_K (h₀ := X.base) I.ok.mod.kin hk (thn (ha pos pins s σ H _ I h) fun us s1 ⟨vs, H1, I1, r, q⟩ => ⟨I1.kIn, ?_⟩) he hpl
  exact z5i F hr hb hd hx I1 r q
end
structure FnScope (N P : List Str) (sc : Scope) : Prop where
  kind : sc.kind = .function
  co : sc.isCoroutine = false
  gen : sc.isGenerator = false
  nd : N.Nodup
  pre : N.take P.length = P
  par : ∀ x ∈ P, sc.names.lookup x = some .local \/ sc.names.lookup x = some .cell
  nofree : ∀ y ∈ sc.names, y.2 ≠ .free
theorem y2c {kindOf : Str -> Option NameKind} {x : Str} : ∀ {binds : List (Str × Value)} {m : Str -> Option Value}, (∀ v, (x, v) ∉ binds) -> bindL kindOf binds m x = m x
  | [], _, _ => rfl
  | (n, v) :: r, m, h => by
    unfold bindL
    rw [y2c fun w hw => h w (List.mem_cons_of_mem _ hw)]
    split
    · have : x ≠ n := by rintro rfl; exact h v List.mem_cons_self
      simp [this]
    · rfl
theorem y1q {kindOf : Str -> Option NameKind} {x : Str} : ∀ {binds : List (Str × Value)} {m : Str -> Option Value}, (∀ v, (x, v) ∉ binds) -> bindC kindOf binds m x = m x
  | [], _, _ => rfl
  | (n, v) :: r, m, h => by
    unfold bindC
    rw [y1q fun w hw => h w (List.mem_cons_of_mem _ hw)]
    split
    · rfl
    · have : x ≠ n := by rintro rfl; exact h v List.mem_cons_self
      simp [this]
theorem y1j {kindOf : Str -> Option NameKind} {x : Str} {v : Value} : ∀ {P : List Str} {vs : List Value} {i : Nat} {m : Str -> Option Value}, P.Nodup -> P[i]? = some x -> vs[i]? = some v -> kindOf x = some .local ->
    bindL kindOf (P.zip vs) m x = some v
  | [], _, _, _, _, h, _, _ => by simp at h
  | _ :: _, [], _, _, _, _, h, _ => by simp at h
  | p :: P, w :: vs, 0, m, nd, h1, h2, hk => by
    simp at h1 h2; subst h1; subst h2
    show bindL kindOf ((p, w) :: P.zip vs) m p = _
    unfold bindL
    rw [y2c fun v hv => (List.nodup_cons.mp nd).1 (List.of_mem_zip hv).1, if_pos hk]
    simp
  | p :: P, w :: vs, i + 1, m, nd, h1, h2, hk => by
    show bindL kindOf ((p, w) :: P.zip vs) m x = _
    unfold bindL
    exact y1j (i := i) (List.nodup_cons.mp nd).2 (by simpa using h1) (by simpa using h2) hk
theorem y26 {kindOf : Str -> Option NameKind} {x : Str} {v : Value} : ∀ {P : List Str} {vs : List Value} {i : Nat} {m : Str -> Option Value}, P.Nodup -> P[i]? = some x -> vs[i]? = some v -> kindOf x ≠ some .local ->
    bindC kindOf (P.zip vs) m x = some v
  | [], _, _, _, _, h, _, _ => by simp at h
  | _ :: _, [], _, _, _, _, h, _ => by simp at h
  | p :: P, w :: vs, 0, m, nd, h1, h2, hk => by
    simp at h1 h2; subst h1; subst h2
    show bindC kindOf ((p, w) :: P.zip vs) m p = _
    unfold bindC
    rw [y1q fun v hv => (List.nodup_cons.mp nd).1 (List.of_mem_zip hv).1, if_neg hk]
    simp
  | p :: P, w :: vs, i + 1, m, nd, h1, h2, hk => by
    show bindC kindOf ((p, w) :: P.zip vs) m x = _
    unfold bindC
    exact y26 (i := i) (List.nodup_cons.mp nd).2 (by simpa using h1) (by simpa using h2) hk
noncomputable def x9b (N : List Str) (vs : List V) : St := vs.map some ++ List.replicate (N.length - vs.length) none
noncomputable def y5e (CX : CXT) (P : Program) (w : World) (K : PySem.W.Frag) (mg : Str -> Option Value) (base : Heap) (N : List Str) (qual : Str) (scope : Scope) (f : Addr) (cd : Value) (A : Around) (outer : List Env) (s : Shared) (H : Hp) (E : XK) : Cx where
  prog := P
  w := w
  K := K
  mg := mg
  base := base
  A := A.deeper (envOfC qual scope s.heap.objs.size f cd)
  N := N
  s₀ := s
  H₀ := H
  env := envOfC qual scope s.heap.objs.size f cd
  outer := outer
  stack := envOfC qual scope s.heap.objs.size f cd :: outer
  ex := []
  calm := true
  fn := fun _ => true
  pn := []
  xe := fun e s' => wpAny (model P w) (A.deeper (envOfC qual scope s.heap.objs.size f cd)) (leaving (envOfC qual scope s.heap.objs.size f cd) e) (fun _ s'' => CX outer H s E e s'') (fun e' s'' => CX outer H s E e' s'') s'
theorem y4i {sc : Scope} {n : Nat} {x : Str} (h : sc.names.lookup x = some .cell) : ∃ c, (cellsFrom n sc.names []).lookup x = some c := by
  have q := PySem.W.cellsFrom_some sc.names n [] (.inl h)
  exact Option.isSome_iff_exists.mp q
theorem y5z {CX : CXT} {P : Program} {w : World} {K : PySem.W.Frag} {mg : Str -> Option Value} {base : Heap} {N ps : List Str} {qual : Str} {scope : Scope} {f : Addr} {cd : Value} {A : Around} {outer : List Env} {s s1 : Shared} {H : Hp} {E : XK} {us : List Value} {vs : List V}
    (S : FnScope N ps scope) (hd : A.handled = none) (e0 : Env0 P w K mg base A outer s H) (hl : vs.length = ps.length) (r : x2a vs us)
    (x : InCallC s s.heap.objs.size (bindL (envOfC qual scope s.heap.objs.size f cd).kindOf (ps.zip us) fun _ => none) (cellsFrom (s.heap.objs.size + 1) scope.names []) (bindC (envOfC qual scope s.heap.objs.size f cd).kindOf (ps.zip us) fun _ => none) s1) :
    Inv (y5e CX P w K mg base N qual scope f cd A outer s H E) [] (x9b N vs) H s1 := by
  have hpl : ps.length <= N.length := by have := congrArg List.length S.pre; rw [List.length_take] at this; omega
  obtain ⟨h1, tk, rfl, hk⟩ := x.done
  have noA : ∀ b : Addr, b ∉ (y5e CX P w K mg base N qual scope f cd A outer s H E).ex := fun b z => absurd (show b ∈ ([] : List Addr) from z) (by simp)
  refine ⟨⟨e0.mod, S.kind, rfl, rfl, Nat.le_refl _, fun y z c h1 h2 => ?_, fun y hy => ?_, fun y c _ h => ?_, fun _ => hd, Around.frames_deeper e0.frames, .inr ⟨rfl, rfl⟩, fun b z => absurd z (noA b), e0.bs, e0.bsz, fun b _ _ => noA b, fun b z => absurd z (noA b), e0.funs, e0.frf⟩,
    rfl, e0.bare, Un.kept hk, ⟨_, x.toInCall.ns, fun i y v h1 h2 h3 => ?_⟩, fun y c h => ⟨_, x.cell y c h⟩, e0.hok.fresh (Nat.le_refl _), fun y c h => ?_, fun p hp => absurd (show p ∈ ([] : List (Addr × Obj)) from hp) (by simp), e0.hok.kept hk, ?_⟩
  · exact name_of_addr x.apart (PySem.mem_of_lookup h1) (PySem.mem_of_lookup h2)
  · have hy : scope.names.lookup y = some .cell \/ scope.names.lookup y = some .free := hy
    rcases hy with hy | hy
    · exact y4i hy
    · exact absurd rfl (S.nofree _ (PySem.mem_of_lookup hy))
  · exact Nat.le_of_lt (x.above y c (PySem.mem_of_lookup h))
  · have hi : i < vs.length := by
      unfold x9b at h2
      by_cases hi : i < vs.length
      · exact hi
      · rw [List.getElem?_append_right (by simpa using hi)] at h2
        rw [List.getElem?_replicate] at h2
        split at h2 <;> cases h2
    have ha : vs[i]? = some v := by
      unfold x9b at h2
      rw [List.getElem?_append_left (by simpa using hi), List.getElem?_map] at h2
      cases e : vs[i]? with
      | none => rw [e] at h2; cases h2
      | some a => rw [e] at h2; cases h2; rfl
    obtain ⟨u, hu, rv⟩ := r.get ha
    have hp : ps[i]? = some y := by
      rw [<- S.pre, List.getElem?_take_of_lt (by omega)]; exact h1
    have ndP : ps.Nodup := by rw [<- S.pre]; exact S.nd.sublist (List.take_sublist _ _)
    refine ⟨u, rv, ?_⟩
    rcases S.par y (List.mem_of_getElem? hp) with k | k
    · exact .inl ⟨k, y1j ndP hp hu k⟩
    · obtain ⟨c, e⟩ := y4i (n := s.heap.objs.size + 1) k
      refine .inr ⟨.inl k, c, e, ?_⟩
      have q := x.cell y c e
      rw [y26 ndP hp hu (by show scope.names.lookup y ≠ _; rw [k]; decide)] at q
      exact q
  · exact e0.hok.fresh (Nat.le_of_lt (x.above y c (PySem.mem_of_lookup h)))
  · unfold x9b
    show _ = N.length
    rw [List.length_append, List.length_map, List.length_replicate]
    omega
theorem z4y {CX : CXT} {P : Program} {w : World} {K : PySem.W.Frag} {mg : Str -> Option Value} {base : Heap} {k : Nat} {f : Addr} {name qual : Str} {params : Arguments} {body : List Stmt} {scope : Scope} {dV kV doc pm cdv ct oc : Value} {an od : Option Addr}
    {osl : Array (Option Value)} {N ps : List Str} {sp : Sp} (lk : K.lookup f = some ⟨oc, od, .func (PySem.W.fnOf name qual params body scope dV kV doc pm an cdv ct), osl⟩) (hcd : PySem.W.codeIn K cdv qual = true) (S : FnScope N ps scope)
    (len : ∀ vs H Q E, sp vs H Q E -> vs.length = ps.length)
    (hbody : ∀ (A : Around) (outer : List Env) (s : Shared) (H : Hp) (vs : List V) (Q : VK) (E : XK), Room k (A.deeper (envOfC qual scope s.heap.objs.size f cdv)) -> sp vs H Q E ->
      ∃ t, PSs (y5e CX P w K mg base N qual scope f cdv A outer s H E) body t /\ t { nx := fun _ H' => Q .non H', rt := Q } (x9b N vs) H) :
    FnOk P w K mg base CX (k + 1) f (PySem.W.fnOf name qual params body scope dV kV doc pm an cdv ct) ps sp := by
  refine ⟨len, fun A outer s H args us vs Q E hr e0 hb r hsp => ?_⟩
  have hl := len _ _ _ _ hsp
  have KX : K.In s.heap := e0.mod.kin.keeps fun b o e => (e0.bs b o e).1
  have lim : s.heap.NoLimit := e0.mod.nolimit.keeps fun b o e => (e0.bs b o e).1
  have hkind : ∀ y ∈ ps.zip us, scope.names.lookup y.1 = some .local \/ (scope.names.lookup y.1 = some .cell /\ ((cellsFrom (s.heap.objs.size + 1) scope.names []).lookup y.1).isSome = true) := fun ⟨n, v⟩ hy => by
    rcases S.par n (List.of_mem_zip hy).1 with q | q
    · exact .inl q
    · exact .inr ⟨q, PySem.W.cellsFrom_some _ _ _ (.inl q)⟩
  refine codeAny_call_function hr.depth (KX _ _ lk) rfl S.co S.gen rfl (PySem.W.codeRec_of KX hcd) (hb _ _ _ _ ?_)
  refine wpAny_newFunctionEnv_cells S.kind hkind fun env he s1 x => ?_
  subst he
  refine ⟨lim.keeps x.toInCall.keep, codeAny_func ?_⟩
  obtain ⟨t, ht, hq⟩ := hbody A outer s H vs Q E (hr.deeper _) hsp
  have I : Inv (y5e CX P w K mg base N qual scope f cdv A outer s H E) [] (x9b N vs) H s1 := y5z S hr.hd e0 hl r x
  refine wpAny_mono (ht [] s1 (x9b N vs) H _ I hq) (fun fl s' hs => ?_) fun e s' hs => hs
  have fin : ∀ {σ' : St} {H' : Hp} {v : V} {u : Value}, Inv (y5e CX P w K mg base N qual scope f cdv A outer s H E) [] σ' H' s' -> x36 v u -> Q v H' -> CE outer P w H s Q u s' :=
    fun {σ' H' v u} J rv q => ⟨v, H', J.os, J.bare, J.base, J.hok, rv, q⟩
  cases fl with
  | ret u =>
    obtain ⟨v, σ', H', J, rv, q⟩ := hs
    exact fin J rv q
  | next =>
    obtain ⟨σ', H', J, q⟩ := hs
    exact fin (v := V.non) (u := Value.none) J rfl q
  | brk =>
    obtain ⟨_, _, _, q⟩ := hs
    exact False.elim q
  | cont =>
    obtain ⟨_, _, _, q⟩ := hs
    exact False.elim q
section
variable {X : Cx} {x : Str} {p pos : Pos} {e : Expr} {es : List Expr} {t : TA} {id T : String} {r : List V -> Hp -> VK -> Prop}
noncomputable def tCB (r : List V -> Hp -> VK -> Prop) (t : TA) : TE := fun σ H Q => t σ H fun vs H1 => r vs H1 Q
theorem x3y (hc : x7z X (.builtin id) r) (hg : Gl X x) (hm : X.mg x = none) (hv : bootBuiltins x = some (.builtin id)) (ha : PA X (e :: es) t) (hn : x ≠ "__name__" := by decide) (hdb : (x == ("__debug__" : Str)) = false := by decide)
    (he : starEach (e :: es) X.env = (false, eval e X.env) :: starEach es X.env := by rfl) (hpl : (backTo pos (starEach es X.env)).any (·.1) = false := by rfl) : PE X (.Call (.Name x p) (e :: es) [] pos) (tCB r t) := by
  intro pins s σ H Q I h
  refine wpAny_Call_Name_kw (y17 I hg hm hv ?_ hn hdb)
  exact PyProof.Rows.callWith_builtin1 (thn (ha pos pins s σ H _ I h) fun us s1 ⟨vs, H1, I1, r1, q1⟩ => hc pins s1 σ H1 vs us Q I1 r1 q1) he hpl
theorem x6k (hc : x7z X (.type T) r) (hg : Gl X x) (hm : X.mg x = none) (hv : bootBuiltins x = some (.type T)) (ha : PA X (e :: es) t) (hn : x ≠ "__name__" := by decide) (hdb : (x == ("__debug__" : Str)) = false := by decide)
    (he : starEach (e :: es) X.env = (false, eval e X.env) :: starEach es X.env := by rfl) (hpl : (backTo pos (starEach es X.env)).any (·.1) = false := by rfl) : PE X (.Call (.Name x p) (e :: es) [] pos) (tCB r t) := by
  intro pins s σ H Q I h
  refine wpAny_Call_Name_kw (y17 I hg hm hv ?_ hn hdb)
  exact PyProof.Rows.callWith_type1 (thn (ha pos pins s σ H _ I h) fun us s1 ⟨vs, H1, I1, r1, q1⟩ => hc pins s1 σ H1 vs us Q I1 r1 q1) he hpl
end
end L2
namespace HT
open PySem PyProof.Rows
section
open PySem.SeqAt
open PySem.AutoSeq1 (wpAny_loadPart')
open PySem.MeetsSeq PySem.MeetsSeq2 PySem.MeetsSeq3
end
section
variable {prog : Program} {w : World} {A : Around} {E : Value -> Shared -> Prop} {s : Shared}
theorem z7n {t b : Addr} {vs ws : List Value} {Q : Value -> Shared -> Prop} (ht : IsTup s.heap t vs.toArray) (hb : IsTup s.heap b ws.toArray) (hv : vs ≠ [])
    (h1 : ws = [] -> Q (.ref t) s) (h2 : ws ≠ [] -> Q (.ref s.heap.objs.size) { s with heap := s.heap.push { cls := .type "tuple", data := .seq (vs ++ ws).toArray } })
    (hsz : vs.length + ws.length <= sizeLine) : wpAny (model prog w) A (binaryOp .Add (.ref t) (.ref b)) Q E s := by
  obtain ⟨⟨cls, dd, data, sl⟩, ho, hc, n, hd⟩ := id ht
  obtain ⟨⟨cls2, dd2, data2, sl2⟩, ho2, hc2, n2, hd2⟩ := id hb
  simp only at hc hd hc2 hd2
  subst hc hd hc2 hd2
  have e : vs.toArray ++ ws.toArray = (vs ++ ws).toArray := by simp
  by_cases hw : ws = []
  · exact concat_meets ⟨_, ho, rfl⟩ ⟨_, ho2, rfl⟩ noFill_tuple_add seq_tuple_add PySem.F.slot_tuple_add PySem.F.entry_tuple_add (PySem.F.args_tuple_add_2 _ _)
      (tuple_addW1 t b vs.toArray ws.toArray n n2 dd dd2 sl sl2 (by simpa using hv) (by simp [hw])) ⟨ho, ho2, h1 hw⟩
  · refine concat_meets ⟨_, ho, rfl⟩ ⟨_, ho2, rfl⟩ noFill_tuple_add seq_tuple_add PySem.F.slot_tuple_add PySem.F.entry_tuple_add (PySem.F.args_tuple_add_2 _ _)
      (tuple_addW2 t b vs.toArray ws.toArray n n2 dd dd2 sl sl2 (by simpa using hv) (by simpa using hw) (by rw [List.size_toArray, List.size_toArray]; exact hsz)) ⟨ho, ho2, ?_⟩
    rw [e]
    exact h2 hw
noncomputable def sIx (n d : Nat) : Option Int -> Nat
  | none => d
  | some v => if v < 0 then (v + (n : Int)).toNat else min v.toNat n
theorem z6k (n d : Nat) (hd : d <= n) (o : Option Int) : sIx n d o <= n := by
  cases o with
  | none => exact hd
  | some v =>
    show (if v < 0 then (v + (n : Int)).toNat else min v.toNat n) <= n
    by_cases hv : v < 0
    · rw [if_pos hv]; omega
    · rw [if_neg hv]; exact Nat.min_le_right _ _
theorem y61 (v : Int) (n d : Nat) : (if v < 0 then max (v + (n : Int)) 0 else min v (n : Int)) = ((sIx n d (some v) : Nat) : Int) := by
  show (if v < 0 then max (v + (n : Int)) 0 else min v (n : Int)) = (((if v < 0 then (v + (n : Int)).toNat else min v.toNat n) : Nat) : Int)
  by_cases hv : v < 0
  · simp only [if_pos hv]; omega
  · simp only [if_neg hv]; omega
theorem y59 (lo hi : Option Int) (n : Nat) : Builtin.Slice.sliceAdjust lo hi 1 (n : Int) = (((sIx n 0 lo : Nat) : Int), ((sIx n n hi : Nat) : Int)) := by
  have h1 : ¬ ((1 : Int) < 0) := by omega
  unfold Builtin.Slice.sliceAdjust
  simp only [h1, if_false]
  refine Prod.ext ?_ ?_
  · cases lo with
    | none => rfl
    | some v => exact y61 v n 0
  · cases hi with
    | none => rfl
    | some v => exact y61 v n n
theorem y4n (i j : Nat) : Builtin.Slice.slicePlaces (i : Int) (j : Int) 1 = j - i := by
  unfold Builtin.Slice.slicePlaces
  have h1 : (1 : Int) > 0 := by omega
  simp only [h1, if_true, Int.ediv_one]
  split <;> omega
theorem y05 {v : Value} {o : Option Int} {Q : Option Int -> Shared -> Prop} (p : IsPart v o) (h : Q o s) : wpAny (model prog w) A (Builtin.Slice.slicePartIndex v) Q E s := by
  cases p with
  | none => exact slicePart_none h
  | int i t => exact slicePart_int h
theorem x86 {sl : Addr} {vl vu : Value} {lo hi : Option Int} {n : Nat} {Q : Int × Int × Nat -> Shared -> Prop} (hs : s.heap.IsSliceOf sl vl vu .none) (pl : IsPart vl lo) (pu : IsPart vu hi)
    (h : Q (((sIx n 0 lo : Nat) : Int), 1, sIx n n hi - sIx n 0 lo) s) : wpAny (model prog w) A (Builtin.Slice.sliceApplied (.ref sl) (pure (n : Int))) Q E s := by
  obtain ⟨os, hos, hcs, hds⟩ := id hs
  unfold Builtin.Slice.sliceApplied Builtin.Slice.sliceFields
  refine wpAny_bind (wpAny_bind (wpAny_field hos hds (x := vl) rfl (wpAny_bind (wpAny_field hos hds (x := vu) rfl (wpAny_bind (wpAny_field hos hds (x := .none) rfl (wpAny_pure ?_)))))))
  refine wpAny_bind (slicePart_none ?_)
  show wpAny _ _ (if ((1 : Int) == 0) = true then _ else _) _ _ s
  rw [if_neg (by decide)]
  refine wpAny_bind (y05 pl (wpAny_bind (y05 pu (wpAny_bind (wpAny_pure ?_)))))
  show wpAny _ _ (match Builtin.Slice.sliceAdjust lo hi 1 (n : Int) with | (lo, hi) => pure (lo, (1 : Int), Builtin.Slice.slicePlaces lo hi 1)) _ _ s
  rw [y59 lo hi n]
  show wpAny _ _ (pure (((sIx n 0 lo : Nat) : Int), (1 : Int), Builtin.Slice.slicePlaces ((sIx n 0 lo : Nat) : Int) ((sIx n n hi : Nat) : Int) 1)) _ _ s
  rw [y4n]
  exact wpAny_pure h
theorem y7p (xs : Array Value) (i k : Nat) : ((List.range k).filterMap fun (m : Nat) => xs[((i : Int) + (m : Int) * 1).toNat]?).toArray = ((xs.toList.drop i).take k).toArray := by
  have e : (fun (m : Nat) => xs[((i : Int) + (m : Int) * 1).toNat]?) = fun m => xs[i + m]? := by
    funext m
    have : ((i : Int) + (m : Int) * 1).toNat = i + m := by omega
    rw [this]
  rw [e]
  have := pick_run xs i k
  rw [List.filterMap_map] at this
  have e2 : ((fun x => xs[x]?) ∘ fun x => i + x) = fun m => xs[i + m]? := rfl
  rw [e2] at this
  rw [this]
theorem y4w {t sl : Addr} {items : Array Value} {vl vu : Value} {lo hi : Option Int} {Q : Value -> Shared -> Prop} (ht : IsTup s.heap t items) (hs : s.heap.IsSliceOf sl vl vu .none) (pl : IsPart vl lo) (pu : IsPart vu hi)
    (hw : ¬ (sIx items.size 0 lo = 0 /\ sIx items.size items.size hi = items.size))
    (h : Q (.ref s.heap.objs.size) { s with heap := s.heap.push { cls := .type "tuple", data := .seq ((items.toList.drop (sIx items.size 0 lo)).take (sIx items.size items.size hi - sIx items.size 0 lo)).toArray } })
    (hsz : items.size <= sizeLine) : wpAny (model prog w) A (getItem (.ref t) (.ref sl)) Q E s := by
  have htake : sizeOk (.seq ((items.toList.drop (sIx items.size 0 lo)).take (sIx items.size items.size hi - sIx items.size 0 lo)).toArray) := by
    show ((items.toList.drop (sIx items.size 0 lo)).take (sIx items.size items.size hi - sIx items.size 0 lo)).toArray.size <= sizeLine
    rw [List.size_toArray, List.length_take, List.length_drop, Array.length_toList]
    omega
  have hj : sIx items.size items.size hi <= items.size := z6k _ _ (Nat.le_refl _) hi
  obtain ⟨os, hos, hcs, hds⟩ := id hs
  have hTs : s.TypeIs (.ref sl) "slice" := ⟨os, hos, hcs⟩
  unfold getItem
  try with_reducible refine wpAny_holding ?_
  first | refine wpAny_bind (wpAny_pure ?_) | skip
  refine wpAny_bind (wpAny_sequenceKey ht.typeIs (by decide) ?_)
  refine wpAny_bind (wpAny_callSpecial?_slot (name := Str.ofString "__getitem__") ht.typeIs PyProof.Rows.slot_tuple_getitem
    (wpAny_call_entry PyProof.Rows.slot_tuple_getitem ht.typeIs entry_tuple_getitem ?_ (args_tuple_getitem _ _)))
  show wpAny _ _ (Builtin.Tuple.tupleItemsOf (.ref t) >>= _) _ _ s
  refine wpAny_bind (tupleItemsOf_ ht ?_)
  refine wpAny_bind (wpAny_typeOf hTs ?_)
  rw [if_pos (by decide)]
  refine wpAny_bind (x86 hs pl pu ?_)
  have hno : ¬ ((((sIx items.size 0 lo : Nat) : Int) == 0 && (1 : Int) == 1 && (sIx items.size items.size hi - sIx items.size 0 lo) == items.size) = true) := by
    intro q
    rw [Bool.and_eq_true, Bool.and_eq_true] at q
    have q1 : ((sIx items.size 0 lo : Nat) : Int) = 0 := eq_of_beq q.1.1
    have q2 : sIx items.size items.size hi - sIx items.size 0 lo = items.size := eq_of_beq q.2
    exact hw ⟨by omega, by omega⟩
  show wpAny _ _ (if (((sIx items.size 0 lo : Nat) : Int) == 0 && (1 : Int) == 1 && (sIx items.size items.size hi - sIx items.size 0 lo) == items.size) = true then _ else _) _ _ s
  rw [if_neg hno, y7p]
  first
    | exact wpAny_bind (m := Builtin.Tuple.tupleExact _) (wpAny_newObj_type (wpAny_pure ⟨_, rfl, wpAny_pure h⟩) htake)
    | exact wpAny_bind (m := Builtin.Tuple.tupleExact _) (wpAny_newObj_type (wpAny_bind (wpAny_pure (wpAny_pure ⟨_, rfl, wpAny_pure h⟩))) htake)
    | exact wpAny_bind (wpAny_bind (m := Builtin.Tuple.tupleExact _) (wpAny_newObj_type (wpAny_pure (wpAny_pure ⟨_, rfl, wpAny_pure h⟩)) htake))
    | exact wpAny_bind (wpAny_bind (m := Builtin.Tuple.tupleExact _) (wpAny_newObj_type (wpAny_pure ⟨_, rfl, wpAny_pure h⟩) htake))
end
end HT
namespace L2
open PySem PySem.Spec PyProof.Rows
noncomputable abbrev TO := St -> Hp -> (Option Int -> Hp -> Prop) -> Prop
noncomputable def PO (X : Cx) (e : Option Expr) (t : TO) : Prop :=
  ∀ (pins : List (Addr × Obj)) (s : Shared) (σ : St) (H : Hp) (Q : Option Int -> Hp -> Prop), Inv X pins σ H s -> t σ H Q ->
    wpAny (model X.prog X.w) X.A (evalPart e X.env) (fun u s' => ∃ o H', Inv X pins σ H' s' /\ IsPart u o /\ Q o H') X.xe s
noncomputable def z1e : TO := fun _ H Q => Q none H
noncomputable def z8u (t : TE) : TO := fun σ H Q => t σ H fun x H1 => ∃ i, x = .int i /\ Q (some i) H1
section
variable {X : Cx} {e : Expr} {te : TE} {lo hi : Option Expr} {tl th : TO} {pos p2 : Pos}
theorem z12 : PO X none z1e := by
  intro pins s σ H Q I h
  rw [evalPart_none]
  exact wpAny_pure ⟨none, H, I, .none, h⟩
theorem z19 (h : PE X e te) : PO X (some e) (z8u te) := by
  intro pins s σ H Q I hw
  rw [evalPart_some]
  refine thn (h pins s σ H _ I hw) fun u s1 hh0 => ?_
  obtain ⟨x, H1, I1, r1, q1⟩ := hh0
  obtain ⟨i, rfl, q⟩ := q1
  obtain ⟨t, rfl⟩ := r1
  exact ⟨some i, H1, I1, .int i t, q⟩
noncomputable def SlR (X : Cx) (r : V -> Option Int -> Option Int -> Hp -> VK -> Prop) : Prop :=
  ∀ (pins : List (Addr × Obj)) (s : Shared) (σ : St) (H : Hp) (x : V) (v vl vu : Value) (lo hi : Option Int) (sl : Addr) (Q : VK), Inv X pins σ H s -> x36 x v -> s.heap.IsSliceOf sl vl vu .none -> IsPart vl lo -> IsPart vu hi -> r x lo hi H Q ->
    ∃ T id, typeLookup (.type T) "__getitem__" = pure (some (.builtin id)) /\ s.TypeIs v T /\ wpAny (model X.prog X.w) X.A (getItem v (.ref sl)) (EP X pins σ Q) X.xe s
theorem SlR.or {r r' : V -> Option Int -> Option Int -> Hp -> VK -> Prop} (h : SlR X r) (h' : SlR X r') : SlR X (fun x lo hi H Q => r x lo hi H Q \/ r' x lo hi H Q) := by
  intro pins s σ H x v vl vu lo hi sl Q I rx hs pl pu q
  rcases q with q | q
  · exact h pins s σ H x v vl vu lo hi sl Q I rx hs pl pu q
  · exact h' pins s σ H x v vl vu lo hi sl Q I rx hs pl pu q
noncomputable def tSl (r : V -> Option Int -> Option Int -> Hp -> VK -> Prop) (te : TE) (tl th : TO) : TE := fun σ H Q => te σ H fun x H1 => tl σ H1 fun l H2 => th σ H2 fun u H3 => r x l u H3 Q
theorem y3z {r : V -> Option Int -> Option Int -> Hp -> VK -> Prop} (hr : SlR X r) (he : PE X e te) (hl : PO X lo tl) (hu : PO X hi th) : PE X (.Subscript e (.Slice lo hi none p2) pos) (tSl r te tl th) := by
  intro pins s σ H Q I h
  refine Subscript_ (thn (he pins s σ H _ I h) fun v s1 hh0 => ?_)
  obtain ⟨x, H1, I1, r1, q1⟩ := hh0
  refine wpAny_Slice (thn (hl pins s1 σ H1 _ I1 q1) fun vl s2 ⟨l, H2, I2, pl, q2⟩ => thn (hu pins s2 σ H2 _ I2 q2) fun vu s3 hh0 => ?_)
  obtain ⟨u, H3, I3, pu, q3⟩ := hh0
  rw [evalPart_none]
  refine wpAny_pure ?_
  have I4 : Inv X pins σ H3 { s3 with heap := s3.heap.push { cls := .type "slice", data := .fields #[vl, vu, .none] } } := I3.kept (t' := s3.toks) fun b ob q => Heap.get?_push_of_some _ q
  obtain ⟨T, id, hT, ht, hg⟩ := hr pins { s3 with heap := s3.heap.push { cls := .type "slice", data := .fields #[vl, vu, .none] } } σ H3 x v vl vu l u s3.heap.objs.size Q I4 r1 (Heap.IsSliceOf.new ..) pl pu q3
  show wpAny (model X.prog X.w) X.A (subscriptTail e (.Slice lo hi none p2) v (.ref s3.heap.objs.size)) (EP X pins σ Q) X.xe { s3 with heap := s3.heap.push { cls := .type "slice", data := .fields #[vl, vu, .none] } }
  exact tail_any (ops := [.ref s3.heap.objs.size, v]) ht hT hg (by with_unfolding_all rfl)
noncomputable def y7e (xs : List V) (lo hi : Option Int) : List V := (xs.drop (HT.sIx xs.length 0 lo)).take (HT.sIx xs.length xs.length hi - HT.sIx xs.length 0 lo)
theorem x8n (xs : List V) (lo hi : Option Int) : (y7e xs lo hi).length <= xs.length := by
  unfold y7e
  rw [List.length_take, List.length_drop]
  omega
noncomputable def z9h (K : PySem.W.Frag) : V -> Option Int -> Option Int -> Hp -> VK -> Prop := fun x lo hi H Q => ∃ a xs, x = .ref a /\ SqT K H a xs /\
  ¬ (HT.sIx xs.length 0 lo = 0 /\ HT.sIx xs.length xs.length hi = xs.length) /\ ∀ p, H p = none -> Q (.ref p) (upd H p (.tup (y7e xs lo hi)))
theorem z4h : SlR X (z9h X.K) := by
  intro pins s σ H x v vl vu lo hi sl Q I rx hs pl pu h
  obtain ⟨a, xs, rfl, hx, hw, q⟩ := h
  cases rx
  obtain ⟨its, r, ht, hz⟩ := I.tuple hx
  have hlen : its.toArray.size = xs.length := by rw [List.size_toArray]; exact r.length.symm
  refine ⟨"tuple", _, PyProof.Rows.slot_tuple_getitem.lookup, ht.typeIs, ?_⟩
  refine HT.y4w ht hs pl pu (by rw [hlen]; exact hw) ?_ (by rw [hlen]; exact hz)
  rw [hlen]
  refine ⟨.ref s.heap.objs.size, _, I.laid (t' := s.toks) (o := .tup (y7e xs lo hi)) (fun b ob q => Heap.get?_push_of_some _ q) (Nat.le_refl _) ?_, rfl, q _ (I.hok.fresh (Nat.le_refl _))⟩
  exact ⟨Nat.le_trans (x8n xs lo hi) hz, _, (r.drop (HT.sIx xs.length 0 lo)).take (HT.sIx xs.length xs.length hi - HT.sIx xs.length 0 lo), x52.new _ _⟩
noncomputable def z8b (K : PySem.W.Frag) : R2 := fun x y H Q => ∃ a b xs ys, x = .ref a /\ y = .ref b /\ SqT K H a xs /\ SqT K H b ys /\ xs ≠ [] /\ xs.length + ys.length <= sizeLine /\
  (ys = [] -> Q (.ref a) H) /\ (ys ≠ [] -> ∀ p, H p = none -> Q (.ref p) (upd H p (.tup (xs ++ ys))))
theorem x2a.nil_iff {xs : List V} {us : List Value} (r : x2a xs us) : us = [] ↔ xs = [] := by
  cases r with
  | nil => simp
  | cons _ _ => simp
theorem z14 : OpR X (binaryOp .Add) (z8b X.K) := by
  intro pins s σ H x y v u Q I rx ry h
  obtain ⟨a, b, xs, ys, rfl, rfl, ha, hb, hx, hz, q1, q2⟩ := h
  cases rx
  cases ry
  obtain ⟨its, r1, p1, _⟩ := I.tuple ha
  obtain ⟨its2, r2, p2, _⟩ := I.tuple hb
  refine HT.z7n p1 p2 (fun z => hx (r1.nil_iff.mp z)) (fun z => ⟨.ref a, H, I, rfl, q1 (r2.nil_iff.mp z)⟩) (fun z => ?_) (by rw [<- r1.length, <- r2.length]; exact hz)
  refine ⟨.ref s.heap.objs.size, _, I.laid (t' := s.toks) (o := .tup (xs ++ ys)) (fun b ob q => Heap.get?_push_of_some _ q) (Nat.le_refl _) ?_, rfl, q2 (fun w => z (r2.nil_iff.mpr w)) _ (I.hok.fresh (Nat.le_refl _))⟩
  exact ⟨by rw [List.length_append]; exact hz, _, r1.append r2, x52.new _ _⟩
end
noncomputable def ixN (n : Nat) (i : Int) : Option Nat := if 0 <= i then (if i < n then some i.toNat else none) else if -(n : Int) <= i then some (i + n).toNat else none
noncomputable def atI {α : Type} (xs : List α) (i : Int) : Option α := (ixN xs.length i).bind fun j => xs[j]?
theorem y0s {n : Nat} {i : Int} {j : Nat} (h : ixN n i = some j) : seqIndex? i n = some j /\ j < n /\ -(n : Int) <= i /\ i < n := by
  unfold ixN at h
  by_cases h0 : 0 <= i
  · rw [if_pos h0] at h
    by_cases h1 : i < n
    · rw [if_pos h1] at h
      have e : i.toNat = j := Option.some.inj h
      exact ⟨by rw [seqIndex_of h0 h1, e], by omega, by omega, h1⟩
    · rw [if_neg h1] at h; cases h
  · rw [if_neg h0] at h
    by_cases h1 : -(n : Int) <= i
    · rw [if_pos h1] at h
      have e : (i + n).toNat = j := Option.some.inj h
      exact ⟨by rw [seqIndex_neg (by omega) h1, e], by omega, h1, by omega⟩
    · rw [if_neg h1] at h; cases h
theorem y30 {α : Type} {xs : List α} {i : Int} {v : α} (h : atI xs i = some v) : ∃ j, seqIndex? i xs.length = some j /\ xs[j]? = some v /\ j < xs.length /\ -(xs.length : Int) <= i /\ i < xs.length := by
  unfold atI at h
  cases e : ixN xs.length i with
  | none => rw [e] at h; cases h
  | some j =>
    rw [e] at h
    obtain ⟨h1, h2, h3, h4⟩ := y0s e
    exact ⟨j, h1, h, h2, h3, h4⟩
theorem z18 {α : Type} {xs : List α} {j : Nat} {v : α} (h : xs[j]? = some v) : atI xs (j : Int) = some v := by
  have hj : j < xs.length := (List.getElem?_eq_some_iff.mp h).1
  have e : ixN xs.length (j : Int) = some j := by
    unfold ixN
    rw [if_pos (by omega), if_pos (by omega)]; simp
  unfold atI; rw [e]; exact h
noncomputable def x3u (b : Expr) : Prop := ∀ o i, subscripted b false o i = operate [o, i] (getItem o i)
noncomputable def IxR (X : Cx) (r : R2) : Prop :=
  ∀ (value slice : Expr) (pins : List (Addr × Obj)) (s : Shared) (σ : St) (H : Hp) (x y : V) (v u : Value) (Q : VK), Inv X pins σ H s -> x36 x v -> x36 y u -> r x y H Q ->
    subscripted slice false v u = operate [v, u] (getItem v u) -> wpAny (model X.prog X.w) X.A (subscriptTail value slice v u) (EP X pins σ Q) X.xe s
noncomputable def MtR (X : Cx) (id : String) (r : V -> List V -> Hp -> VK -> Prop) : Prop :=
  ∀ (pins : List (Addr × Obj)) (s : Shared) (σ : St) (H : Hp) (x : V) (xs : List V) (v : Value) (us : List Value) (Q : VK), Inv X pins σ H s -> x36 x v -> x2a xs us -> r x xs H Q ->
    wpAny (model X.prog X.w) X.A (call (.builtin id) (v :: us)) (EP X pins σ Q) X.xe s
section
variable {X : Cx} {a b : Expr} {ta tb : TE} {pos : Pos}
theorem IxR.or {r r' : R2} (h : IxR X r) (h' : IxR X r') : IxR X (fun x y H Q => r x y H Q \/ r' x y H Q) := by
  intro value slice pins s σ H x y v u Q I rx ry q hs
  rcases q with q | q
  · exact h value slice pins s σ H x y v u Q I rx ry q hs
  · exact h' value slice pins s σ H x y v u Q I rx ry q hs
theorem y77 {r : R2} (hr : IxR X r) (ha : PE X a ta) (hb : PE X b tb) (hs : x3u b) : PE X (.Subscript a b pos) (tOp r ta tb) := by
  intro pins s σ H Q I h
  exact Subscript_ (z8v ha hb I h fun v u s2 x y H2 I2 rx ry q => hr a b pins s2 σ H2 x y v u Q I2 rx ry q (hs _ _))
noncomputable def z92 (K : PySem.W.Frag) : R2 := fun x y H Q => ∃ p xs i v, x = .ref p /\ y = .int i /\ SqL K H p xs /\ atI xs i = some v /\ Q v H
noncomputable def z8z (K : PySem.W.Frag) : R2 := fun x y H Q => ∃ p xs i v, x = .ref p /\ y = .int i /\ SqT K H p xs /\ atI xs i = some v /\ Q v H
noncomputable def z97 : R2 := fun x y H Q => ∃ z i c, x = .str z /\ y = .int i /\ z.length <= sizeLine /\ atI z.cps.toList i = some c /\ Q (.str ⟨#[c]⟩) H
theorem z1t : IxR X (z92 X.K) := by
  intro value slice pins s σ H x y v u Q I rx ry h hs
  obtain ⟨p, xs, i, z, rfl, rfl, hq, he, q⟩ := h
  cases rx
  obtain ⟨t, rfl⟩ := ry
  obtain ⟨its, r, pl, hz⟩ := I.list hq
  obtain ⟨j, h1, h2, h3, h4, h5⟩ := y30 he
  obtain ⟨w, ew, rw'⟩ := r.get h2
  have hl := r.length
  have hn := y02
  have fin : EP X pins σ Q w s := ⟨z, H, I, rw', q⟩
  by_cases h0 : 0 <= i
  · have hj : i.toNat = j := by
      rw [seqIndex_of h0 h5] at h1
      exact Option.some.inj h1
    exact item_listR pl.isList h0 (by omega) (by rw [hj]; simpa using ew) fin hs
  · have hj : (i + (its.toArray.size : Int)).toNat = j := by
      rw [seqIndex_neg (by omega) h4] at h1
      rw [List.size_toArray, <- hl]
      exact Option.some.inj h1
    exact subscriptTail_builtinR (x := w) pl.isList.typeIs slot_list_getitem.lookup
      (wpAny_getItem_list_neg (Q := fun r s' => r = w /\ EP X pins σ Q r s') pl.isList (by omega) (by rw [List.size_toArray] <;> omega) (by omega) (by rw [hj]; simpa using ew) ⟨rfl, fin⟩) hs
theorem z4i : IxR X (z8z X.K) := by
  intro value slice pins s σ H x y v u Q I rx ry h hs
  obtain ⟨p, xs, i, z, rfl, rfl, hq, he, q⟩ := h
  cases rx
  obtain ⟨t, rfl⟩ := ry
  obtain ⟨its, r, pl, hz⟩ := I.tuple hq
  obtain ⟨j, h1, h2, h3, h4, h5⟩ := y30 he
  obtain ⟨w, ew, rw'⟩ := r.get h2
  have hl := r.length
  have hn := y02
  have fin : EP X pins σ Q w s := ⟨z, H, I, rw', q⟩
  exact subscriptTail_builtinR (x := w) pl.typeIs slot_tuple_getitem.lookup
    (getItem_tuple (j := j) (Q := fun r s' => r = w /\ EP X pins σ Q r s') pl (by omega) (by omega) (by rw [List.size_toArray, <- hl]; exact h1) (by simpa using ew) ⟨rfl, fin⟩) hs
theorem z4u : IxR X z97 := by
  intro value slice pins s σ H x y v u Q I rx ry h hs
  obtain ⟨z, i, c, rfl, rfl, hz, he, q⟩ := h
  obtain ⟨t, rfl⟩ := rx
  obtain ⟨t', rfl⟩ := ry
  obtain ⟨j, h1, h2, h3, h4, h5⟩ := y30 he
  have hl : z.cps.toList.length = z.length := by simp [Str.length]
  rw [hl] at h1 h4 h5
  have hn := y02
  exact tail_any (typeIs_str s z t) slot_str_getitem.lookup (getItem_str (c := c) (by
    have e1 : decide (i < -(2 ^ 63 : Int)) = false := decide_eq_false (by omega)
    have e2 : decide (i ≥ 2 ^ 63) = false := decide_eq_false (by omega)
    rw [e1, e2, Bool.or_false]) (by rw [h1]; simpa using h2) ⟨.str ⟨#[c]⟩, H, I.tok _, ⟨_, rfl⟩, q⟩) hs
noncomputable def rIx (K : PySem.W.Frag) : R2 := fun x y H Q => z92 K x y H Q \/ z8z K x y H Q \/ z97 x y H Q
theorem y25 : IxR X (rIx X.K) := z1t.or (z4i.or z4u)
theorem y50 (its : List Value) (n j : Nat) (u : Value) : Obj.mapSeq (·.setIfInBounds j u) { cls := .type "list", data := .seq its.toArray n } = { cls := .type "list", data := .seq (its.set j u).toArray n } := by
  simp [Obj.mapSeq]
theorem Inv.lst {pins : List (Addr × Obj)} {σ : St} {H : Hp} {s : Shared} {p : Addr} {xs : List V} (I : Inv X pins σ H s) (h : H p = some (.lst xs)) :
    ∃ (its : List Value) (n : Nat), x2a xs its /\ s.heap.get? p = some { cls := .type "list", data := .seq its.toArray n } /\ xs.length <= sizeLine := by
  obtain ⟨z, its, n, r, e⟩ := I.hok p _ h
  exact ⟨its, n, r, e, z⟩
theorem Inv.lstUpd {pins : List (Addr × Obj)} {σ : St} {H : Hp} {s : Shared} {p : Addr} {xs ys : List V} {its its' : List Value} {n n' : Nat} {f : Obj -> Obj} (I : Inv X pins σ H s) (h : H p = some (.lst xs))
    (ho : s.heap.get? p = some { cls := .type "list", data := .seq its.toArray n }) (hf : f { cls := .type "list", data := .seq its.toArray n } = { cls := .type "list", data := .seq its'.toArray n' }) (r : x2a ys its') (hz : ys.length <= sizeLine) (t : Nat) :
    Inv X pins σ (upd H p (.lst ys)) { s with heap := s.heap.update p f, toks := t } := by
  have e : (s.heap.update p f).get? p = some { cls := .type "list", data := .seq its'.toArray n' } := by
    rw [Heap.get?_update_self f ho (by rw [hf] <;> rfl), hf]
  refine I.write (x := p) (e := p) (by rw [h]; trivial) (.inl rfl) (fun b u hb q => (Heap.get?_update_other _ _ (Ne.symm hb)).trans q) ⟨_, e⟩ ?_
  exact ⟨hz, its', n', r, e⟩
noncomputable def z8j : V -> V -> V -> Hp -> (Hp -> Prop) -> Prop := fun o i v H Q => ∃ p xs k j, o = .ref p /\ i = .int k /\ H p = some (.lst xs) /\ ixN xs.length k = some j /\ Q (upd H p (.lst (xs.set j v)))
theorem y8m : z90 X z8j := by
  intro pins s σ H o i v ov iv u Q I ro ri rv h
  obtain ⟨p, xs, k, j, rfl, rfl, hp, hj, q⟩ := h
  cases ro
  obtain ⟨t, rfl⟩ := ri
  obtain ⟨its, n, r, ho, hz⟩ := I.lst hp
  obtain ⟨h1, h2, h3, h4⟩ := y0s hj
  have hl := r.length
  have hn := y02
  have I' : Inv X pins σ (upd H p (.lst (xs.set j v))) { s with heap := s.heap.update p (Obj.mapSeq (·.setIfInBounds j u)) } :=
    I.lstUpd hp ho (y50 its n j u) (r.set rv j) (by rw [List.length_set]; exact hz) s.toks
  by_cases h0 : 0 <= k
  · have hk : k.toNat = j := by
      rw [seqIndex_of h0 h4] at h1
      exact Option.some.inj h1
    exact PySem.W.ki_setAt ho h0 (by omega) (by rw [List.size_toArray, <- hl]; exact h4) (by rw [hk]; exact ⟨_, I', q⟩)
  · have hk : (k + (its.toArray.size : Int)).toNat = j := by
      rw [seqIndex_neg (by omega) h3] at h1
      rw [List.size_toArray, <- hl]
      exact Option.some.inj h1
    exact PySem.W.ki_setBack ho (by omega) (by rw [List.size_toArray, <- hl]; exact h3) (by omega) (by rw [hk]; exact ⟨_, I', q⟩)
theorem y1k (lo hi : Option Int) (n : Nat) : (sliceBounds lo hi none n).1 = ((HT.sIx n 0 lo : Nat) : Int) /\ (sliceBounds lo hi none n).2.1 = ((HT.sIx n n hi : Nat) : Int) /\ (sliceBounds lo hi none n).2.2 = 1 := by
  refine ⟨?_, ?_, rfl⟩
  · cases lo with
    | none => simp [sliceBounds, HT.sIx]
    | some i =>
      simp only [sliceBounds, HT.sIx, Option.getD_none, show (1 : Int) > 0 by decide, if_true]
      by_cases h : i < 0
      · simp only [h, if_true] <;> omega
      · simp only [h, if_false] <;> omega
  · cases hi with
    | none => simp [sliceBounds, HT.sIx]
    | some i =>
      simp only [sliceBounds, HT.sIx, Option.getD_none, show (1 : Int) > 0 by decide, if_true]
      by_cases h : i < 0
      · simp only [h, if_true] <;> omega
      · simp only [h, if_false] <;> omega
theorem y0z (its : List Value) (lo hi : Option Int) : slicePick its.toArray lo hi none = ((its.drop (HT.sIx its.length 0 lo)).take (HT.sIx its.length its.length hi - HT.sIx its.length 0 lo)).toArray := by
  obtain ⟨h1, h2, h3⟩ := y1k lo hi its.toArray.size
  unfold slicePick
  rw [h1, h2, h3]
  simp only [sliceRange_one, pick_run, List.size_toArray] <;> rfl
noncomputable def j06 (K : PySem.W.Frag) : V -> Option Int -> Option Int -> Hp -> VK -> Prop := fun x lo hi H Q => ∃ a xs, x = .ref a /\ SqL K H a xs /\ ∀ p, H p = none -> Q (.ref p) (upd H p (.lst (y7e xs lo hi)))
theorem z32 : SlR X (j06 X.K) := by
  intro pins s σ H x v vl vu lo hi sl Q I rx hs pl pu h
  obtain ⟨a, xs, rfl, hx, q⟩ := h
  cases rx
  obtain ⟨its, r, ht, hz⟩ := I.list hx
  have hlen := r.length
  refine ⟨"list", _, slot_list_getitem.lookup, ht.isList.typeIs, ?_⟩
  refine wpAny_getItem_list_slice ht.isList hs pl pu .none (by simp) ?_ (by rw [List.size_toArray] <;> omega)
  rw [y0z, <- hlen]
  refine ⟨.ref s.heap.objs.size, _, I.laid (t' := s.toks) (o := .lst (y7e xs lo hi)) (fun b ob q => Heap.get?_push_of_some _ q) (Nat.le_refl _) ?_, rfl, q _ (I.hok.fresh (Nat.le_refl _))⟩
  exact ⟨Nat.le_trans (x8n xs lo hi) hz, _, 0, (r.drop (HT.sIx xs.length 0 lo)).take (HT.sIx xs.length xs.length hi - HT.sIx xs.length 0 lo), Heap.get?_push_size _ rfl⟩
theorem x5l : x7z X (.builtin "len") (fun xs H Q => ∃ p ys, xs = [.ref p] /\ (SqL X.K H p ys \/ SqT X.K H p ys) /\ Q (.int ys.length) H) := by
  intro pins s σ H xs us Q I r h
  obtain ⟨p, ys, rfl, hq, q⟩ := h
  obtain ⟨u, rfl, rx⟩ := y0t r
  cases rx
  have hn := y02
  rcases hq with hq | hq
  · obtain ⟨its, r', pl, hz⟩ := I.list hq
    have hlen := r'.length
    exact Calls.call_len_list pl.isList (by simp only [List.size_toArray] <;> omega) ⟨.int ys.length, H, I.tok _, ⟨s.toks + 1, by rw [List.size_toArray, hlen]⟩, q⟩
  · obtain ⟨its, r', pl, hz⟩ := I.tuple hq
    have hlen := r'.length
    exact len_tuple pl (by simp only [List.size_toArray] <;> omega) ⟨.int ys.length, H, I.tok _, ⟨s.toks + 1, by rw [List.size_toArray, hlen]⟩, q⟩
theorem y22 : x7z X (.type "list") (fun xs H Q => ∃ p ys, xs = [.ref p] /\ (SqL X.K H p ys \/ SqT X.K H p ys) /\ ∀ l, H l = none -> Q (.ref l) (upd H l (.lst ys))) := by
  intro pins s σ H xs us Q I r h
  obtain ⟨p, ys, rfl, hq, q⟩ := h
  obtain ⟨u, rfl, rx⟩ := y0t r
  cases rx
  have fin : ∀ (its : List Value), x2a ys its -> ys.length <= sizeLine -> ∀ (h' : Heap) (c' : Nat), (∀ b o', s.heap.get? b = some o' -> h'.get? b = some o') ->
      h'.get? s.heap.objs.size = some { cls := .type "list", dict := none, data := .seq its.toArray c', slots := #[] } -> EP X pins σ Q (.ref s.heap.objs.size) { s with heap := h' } := fun its r' hz h' c' kp e =>
    ⟨.ref s.heap.objs.size, _, I.laid (t' := s.toks) kp (Nat.le_refl _) (show x2d X.prog X.w _ h' _ (.lst ys) from ⟨hz, its, c', r', e⟩), rfl, q _ (I.hok.fresh (Nat.le_refl _))⟩
  rcases hq with hq | hq
  · obtain ⟨its, r', pl, hz⟩ := I.list hq
    have hlen := r'.length
    obtain ⟨o, ho, hc, n, hd⟩ := pl.isList
    exact call_list_seq p (.inl rfl) ho hc hd (fun h' c' kp e => fin its r' hz h' c' kp e) (by simp only [List.size_toArray] <;> omega)
  · obtain ⟨its, r', pl, hz⟩ := I.tuple hq
    have hlen := r'.length
    obtain ⟨o, ho, hc, n, hd⟩ := pl
    exact call_list_seq p (.inr rfl) ho hc hd (fun h' c' kp e => fin its r' hz h' c' kp e) (by simp only [List.size_toArray] <;> omega)
theorem y0w : x7z X (.type "tuple") (fun xs H Q => ∃ p ys, xs = [.ref p] /\ ((SqL X.K H p ys /\ ∀ l, H l = none -> Q (.ref l) (upd H l (.tup ys))) \/ (SqT X.K H p ys /\ Q (.ref p) H))) := by
  intro pins s σ H xs us Q I r h
  obtain ⟨p, ys, rfl, h⟩ := h
  obtain ⟨u, rfl, rx⟩ := y0t r
  cases rx
  rcases h with ⟨hq, q⟩ | ⟨hq, q⟩
  · obtain ⟨its, r', pl, hz⟩ := I.list hq
    have hlen := r'.length
    refine call_tuple_list pl.isList (fun h' kp => ?_) (by simp only [List.size_toArray] <;> omega)
    have I1 : Inv X pins σ H { s with heap := h' } := I.kept (t' := s.toks) kp
    have I2 : Inv X pins σ (upd H h'.objs.size (.tup ys)) { s with heap := h'.push { cls := .type "tuple", data := .seq its.toArray } } :=
      I1.laid (t' := s.toks) (fun b o e => Heap.get?_push_of_some _ e) (Nat.le_refl _) (show x2d X.prog X.w _ _ _ (.tup ys) from ⟨hz, its, r', x52.new _ _⟩)
    exact ⟨.ref h'.objs.size, _, I2, rfl, q _ (I1.hok.fresh (Nat.le_refl _))⟩
  · obtain ⟨its, r', pl, hz⟩ := I.tuple hq
    exact call_tuple_same pl ⟨.ref p, H, I, rfl, q⟩
noncomputable def tyV (K : PySem.W.Frag) (T : String) (x : V) (H : Hp) : Prop := match x with
  | .str _ => T = "str"
  | .int _ => T = "int"
  | .ref p => (T = "list" /\ ∃ xs, SqL K H p xs) \/ (T = "tuple" /\ ((∃ o, K.lookup p = some o /\ o.cls = .type "tuple" /\ o.dict = none) \/ ∃ xs, H p = some (.tup xs))) \/
      (T = "dict" /\ ((∃ kvs, H p = some (.dK kvs)) \/ ∃ kvs, H p = some (.dT kvs))) \/ (T = "set" /\ ∃ S n, H p = some (.set S n))
  | _ => False
theorem z66 {pins : List (Addr × Obj)} {σ : St} {H : Hp} {s : Shared} {T : String} {x : V} {v : Value} (I : Inv X pins σ H s) (r : x36 x v) (ty : tyV X.K T x H) :
    s.TypeIs v T /\ ∀ a, v = .ref a -> ∃ ob, s.heap.get? a = some ob /\ ob.dict = none := by
  cases x with
  | str z =>
    obtain ⟨t, rfl⟩ := r
    cases (show T = "str" from ty)
    exact ⟨typeIs_str s z t, fun _ e => nomatch e⟩
  | int i =>
    obtain ⟨t, rfl⟩ := r
    cases (show T = "int" from ty)
    exact ⟨typeIs_int s i t, fun _ e => nomatch e⟩
  | ref p =>
    cases r
    rcases ty with ⟨rfl, xs, hq⟩ | ⟨rfl, ⟨o, hk, hc, hd⟩ | ⟨xs, hk⟩⟩ | ⟨rfl, hk⟩ | ⟨rfl, S, n, hk⟩
    · obtain ⟨its, _, pl, _⟩ := I.list hq
      refine ⟨pl.isList.typeIs, fun a e => ?_⟩
      cases e
      obtain ⟨o, n, e, c, hd, _⟩ := pl
      exact ⟨o, e, hd⟩
    · refine ⟨⟨o, I.kIn p o hk, hc⟩, fun a e => ?_⟩
      cases e
      exact ⟨o, I.kIn _ o hk, hd⟩
    · obtain ⟨_, its, _, o, e, c, _, hd⟩ := (show x2d X.prog X.w H s.heap p (.tup xs) from I.hok p _ hk)
      refine ⟨⟨o, e, c⟩, fun a e2 => ?_⟩
      cases e2
      exact ⟨o, e, hd⟩
    · have z : ∃ o, s.heap.get? p = some o /\ o.ExactDict := by
        rcases hk with ⟨kvs, hk⟩ | ⟨kvs, hk⟩
        · obtain ⟨_, _, _, _, o, _, _, e, ex, _⟩ := I.hok p _ hk
          exact ⟨o, e, ex⟩
        · obtain ⟨_, _, _, _, o, _, _, e, ex, _⟩ := I.hok p _ hk
          exact ⟨o, e, ex⟩
      obtain ⟨o, e, ex⟩ := z
      refine ⟨⟨o, e, ex.1⟩, fun a e2 => ?_⟩
      cases e2
      exact ⟨o, e, ex.2.1⟩
    · obtain ⟨o, _, _, _, e, ex, _⟩ := I.hok p _ hk
      refine ⟨⟨o, e, ex.1⟩, fun a e2 => ?_⟩
      cases e2
      exact ⟨o, e, ex.2.1⟩
  | _ => exact False.elim ty
noncomputable def tBM (K : PySem.W.Frag) (T : String) (r : V -> List V -> Hp -> VK -> Prop) (to : TE) (t : TA) : TE := fun σ H Q => to σ H fun x H1 => tyV K T x H1 /\ t σ H1 fun xs H2 => r x xs H2 Q
variable {o e : Expr} {es : List Expr} {to : TE} {t : TA} {name : Str} {apos cpos : Pos} {T id : String} {r : V -> List V -> Hp -> VK -> Prop}
theorem y5c (pa : PlainAttrs T) (slot : Slot T name id) (hty : typeOf (.builtin id) = pure (.type "method_descriptor")) (hm : MtR X id r) (ho : PE X o to) (ha : PA X (e :: es) t)
    (hbase : attributeBase o name X.env (eval o X.env) = eval o X.env := by rfl)
    (hfew : ((backTo cpos (starEach (e :: es) X.env)).all (fun x => !x.1) && (backToKw cpos (keywordEach [] X.env)).all (fun x => x.1.isSome)
      && decide ((e :: es).length + ([] : List Keyword).length + (if ([] : List Keyword).isEmpty then 0 else 1) < 30)) = true := by rfl)
    (hline : (apos.endLine == cpos.line) = true := by rfl) (hs : starEach (e :: es) X.env = (false, eval e X.env) :: starEach es X.env := by rfl) (hplain : (backTo cpos (starEach es X.env)).any (·.1) = false := by rfl) :
    PE X (.Call (.Attribute o name apos) (e :: es) [] cpos) (tBM X.K T r to t) := by
  intro pins s σ H Q I h
  refine wpAny_Call_method_late hbase hfew hline rfl (thn (ho pins s σ H _ I h) fun v s1 hh0 => ?_)
  obtain ⟨x, H1, I1, r1, ty, q1⟩ := hh0
  obtain ⟨h1, h2⟩ := z66 I1 r1 ty
  refine ⟨T, id, pa, slot, hty, h1, h2, ?_⟩
  have hA := ha cpos pins s1 σ H1 _ I1 q1
  rw [hs] at hA ⊢
  refine Calls.callWith_builtin (by show (false || (backTo cpos (starEach es X.env)).any (·.1)) = false; rw [hplain] <;> rfl) (Calls.evalArgs_plain ?_)
  exact thn hA fun us s2 ⟨vs, H2, I2, r2, q2⟩ => hm pins s2 σ H2 x vs v us Q I2 r1 r2 q2
end
noncomputable def MtM (X : Cx) (id : String) (r : V -> List V -> Hp -> VK -> Prop) : Prop :=
  ∀ (pins : List (Addr × Obj)) (s : Shared) (σ : St) (H : Hp) (x : V) (xs : List V) (v : Value) (us : List Value) (Q : VK), Inv X pins σ H s -> x36 x v -> x2a xs us -> r x xs H Q ->
    wpAny (model X.prog X.w) X.A (call (.builtin id) (v :: us)) (EP X pins σ Q) X.xe s
theorem x2a.one : ∀ {x : V} {us : List Value}, x2a [x] us -> ∃ u, us = [u] /\ x36 x u
  | _, _, .cons r .nil => ⟨_, rfl, r⟩
theorem x2a.eraseIdx : ∀ {xs : List V} {us : List Value} (i : Nat), x2a xs us -> x2a (xs.eraseIdx i) (us.eraseIdx i)
  | _, _, _, .nil => .nil
  | _, _, 0, .cons _ t => t
  | _, _, i + 1, .cons r t => .cons r (x2a.eraseIdx i t)
theorem x2a.rep {xs : List V} {us : List Value} (h : x2a xs us) : ∀ k : Nat, x2a (List.replicate k xs).flatten (List.replicate k us).flatten
  | 0 => .nil
  | k + 1 => by
    rw [List.replicate_succ, List.replicate_succ, List.flatten_cons, List.flatten_cons]
    exact x2a.append h (x2a.rep h k)
theorem y1t {α : Type} : ∀ (l : List α) (i : Nat), (l.eraseIdx i).length <= l.length
  | [], _ => Nat.le_refl _
  | _ :: _, 0 => Nat.le_succ _
  | _ :: r, i + 1 => Nat.succ_le_succ (y1t r i)
theorem x93 (its : List Value) : ∀ (k : Nat) (acc : List Value),
    List.foldl (fun x1 x2 => x1 ++ x2) acc.toArray (List.replicate k its.toArray) = (acc ++ (List.replicate k its).flatten).toArray
  | 0, acc => by simp
  | k + 1, acc => by
    have e : acc.toArray ++ its.toArray = (acc ++ its).toArray := by simp
    have e2 : (acc ++ its) ++ (List.replicate k its).flatten = acc ++ (List.replicate (k + 1) its).flatten := by
      rw [List.replicate_succ, List.flatten_cons, List.append_assoc]
    rw [<- e2, <- x93 its k (acc ++ its), <- e, List.replicate_succ, List.foldl_cons]
section
variable {X : Cx} {pins : List (Addr × Obj)} {σ : St} {H : Hp} {s : Shared} {l b : Addr} {xs ys zs : List V}
theorem Inv.lset {its its' : List Value} {n : Nat} {f : Array Value -> Array Value} {t' : Nat} (I : Inv X pins σ H s) (hH : H l = some (.lst xs))
    (e : s.heap.get? l = some { cls := .type "list", data := .seq its.toArray n }) (hf : f its.toArray = its'.toArray) (hv : x2a ys its') (hz : ys.length <= sizeLine) :
    Inv X pins σ (upd H l (.lst ys)) { s with heap := s.heap.update l (Obj.mapSeq f), toks := t' } := by
  have q := PySem.IsL.update e f
  rw [hf] at q
  refine I.write (x := l) (e := l) (by rw [hH]; exact trivial) (.inl rfl) (fun b' u hb hu => (Heap.get?_update_other s.heap (Obj.mapSeq f) (Ne.symm hb)).trans hu) ⟨_, q⟩ ?_
  exact ⟨hz, its', _, hv, q⟩
theorem Inv.lnew {its : List Value} {t' : Nat} (I : Inv X pins σ H s) (hv : x2a ys its) (hz : ys.length <= sizeLine) :
    Inv X pins σ (upd H s.heap.objs.size (.lst ys)) { s with heap := s.heap.push { cls := .type "list", data := .seq its.toArray }, toks := t' } :=
  I.laid (fun _ _ q => Heap.get?_push_of_some _ q) (Nat.le_refl _) ⟨hz, its, 0, hv, Heap.get?_push_size _ rfl⟩
theorem Inv.fresh (I : Inv X pins σ H s) : H s.heap.objs.size = none := I.hok.fresh (Nat.le_refl _)
theorem Inv.lstM (I : Inv X pins σ H s) (hH : H l = some (.lst xs)) : xs.length <= sizeLine /\ ∃ (its : List Value) (n : Nat), x2a xs its /\ xs.length = its.length /\ s.heap.get? l = some { cls := .type "list", data := .seq its.toArray n } := by
  obtain ⟨z, its, n, r, e⟩ := I.hok l _ hH
  exact ⟨z, its, n, r, r.length, e⟩
theorem y3t {n : Nat} (h : n <= sizeLine) : Builtin.List.listTooLong n = false := by
  unfold Builtin.List.listTooLong
  exact decide_eq_false (by omega)
end
section
variable {X : Cx}
noncomputable def z26 : V -> List V -> Hp -> VK -> Prop := fun x vs H Q => ∃ l xs y, x = .ref l /\ vs = [y] /\ H l = some (.lst xs) /\ xs.length < sizeLine /\ Q .non (upd H l (.lst (xs ++ [y])))
theorem y6b : MtM X "list.append" z26 := by
  intro pins s σ H x vs v us Q I rx rv h
  obtain ⟨l, xs, y, rfl, rfl, hH, hz, q⟩ := h
  cases rx
  obtain ⟨u, rfl, ru⟩ := rv.one
  obtain ⟨z, its, n, r, hl, e⟩ := I.lstM hH
  refine call_meets F.slot_list_append ⟨_, e, rfl⟩ F.entry_list_append (F.args_list_append_2 _ _) (PySem.list_append l its.toArray n u (by rw [List.size_toArray]; omega)) ⟨e, ?_⟩
  refine ⟨.non, _, I.lset (its' := its ++ [u]) hH e (by simp) (r.append (.cons ru .nil)) ?_, rfl, q⟩
  rw [List.length_append, List.length_singleton]
  omega
noncomputable def z1y : V -> List V -> Hp -> VK -> Prop := fun x vs H Q => ∃ l b xs zs, x = .ref l /\ vs = [.ref b] /\ H l = some (.lst xs) /\ H b = some (.lst zs) /\ xs.length + zs.length <= sizeLine /\ Q .non (upd H l (.lst (xs ++ zs)))
theorem y5h : MtM X "list.extend" z1y := by
  intro pins s σ H x vs v us Q I rx rv h
  obtain ⟨l, b, xs, zs, rfl, rfl, hH, hB, hz, q⟩ := h
  cases rx
  obtain ⟨u, rfl, ru⟩ := rv.one
  cases ru
  obtain ⟨z, its, n, r, hl, e⟩ := I.lstM hH
  obtain ⟨z2, its2, n2, r2, hl2, e2⟩ := I.lstM hB
  have hsz : its.toArray.size + its2.toArray.size <= sizeLine := by rw [List.size_toArray, List.size_toArray]; omega
  have hlong : ¬ (!its.toArray.isEmpty && Builtin.List.listTooLong (its.toArray.size + its2.toArray.size)) = true := by
    rw [y3t hsz, Bool.and_false]
    exact Bool.false_ne_true
  refine call_meets F.slot_list_extend ⟨_, e, rfl⟩ F.entry_list_extend (F.args_list_extend_2 _ _)
    (AutoSeq1.list_extend_list_list_0 l its.toArray n b its2.toArray n2 hlong (by rw [List.size_toArray]; omega) (by omega)) ⟨e, e2, ?_⟩
  refine ⟨.non, _, I.lset (its' := its ++ its2) hH e (by simp) (r.append r2) ?_, rfl, q⟩
  rw [List.length_append]
  omega
noncomputable def z53 : V -> List V -> Hp -> VK -> Prop := fun x vs H Q => ∃ l xs i k y, x = .ref l /\ vs = [.int i] /\ H l = some (.lst xs) /\ -(2 ^ 63) <= i /\ i < 2 ^ 63 /\ seqIndex? i xs.length = some k /\ xs[k]? = some y /\ Q y (upd H l (.lst (xs.eraseIdx k)))
theorem y7n : MtM X "list.pop" z53 := by
  intro pins s σ H x vs v us Q I rx rv h
  obtain ⟨l, xs, i, k, y, rfl, rfl, hH, h1, h2, hk, hy, q⟩ := h
  cases rx
  obtain ⟨u, rfl, ru⟩ := rv.one
  obtain ⟨t, rfl⟩ := ru
  obtain ⟨z, its, n, r, hl, e⟩ := I.lstM hH
  obtain ⟨w, hw, rw'⟩ := r.get hy
  refine call_meets F.slot_list_pop ⟨_, e, rfl⟩ F.entry_list_pop (F.args_list_pop_2 _ _)
    (MeetsSeq.list_pop_at l its.toArray n i t k w (fitsIndex_both h1 h2) (by rw [List.size_toArray, <- hl]; exact hk) (by rw [<- Array.getElem?_toList]; exact hw) (by rw [List.size_toArray]; omega)) ⟨e, ?_⟩
  refine ⟨y, _, I.lset (its' := its.eraseIdx k) hH e ?_ (r.eraseIdx k) ?_, rw', q⟩
  · show its.toArray.eraseIdxIfInBounds k = (its.eraseIdx k).toArray
    rw [List.eraseIdxIfInBounds_toArray]
  · have := y1t xs k
    omega
noncomputable def z9c : R2 := fun x y H Q => ∃ l k xs, x = .ref l /\ y = .int k /\ H l = some (.lst xs) /\ -(2 ^ 63) <= k /\ k < 2 ^ 63 /\ xs.length * k.toNat <= sizeLine /\
  ∀ p, H p = none -> Q (.ref p) (upd H p (.lst (List.replicate k.toNat xs).flatten))
theorem y2r {α : Type} (xs : List α) (k : Nat) : (List.replicate k xs).flatten.length = k * xs.length := by
  induction k with
  | zero => simp
  | succ k ih => rw [List.replicate_succ, List.flatten_cons, List.length_append, ih, Nat.succ_mul, Nat.add_comm]
theorem z4p : OpR X (binaryOp .Mult) z9c := by
  intro pins s σ H x y v u Q I rx ry h
  obtain ⟨l, k, xs, rfl, rfl, hH, h1, h2, hz, q⟩ := h
  cases rx
  obtain ⟨t, rfl⟩ := ry
  obtain ⟨z, its, n, r, hl, e⟩ := I.lstM hH
  have hlen : its.toArray.size * k.toNat <= sizeLine := by rw [List.size_toArray, <- hl]; exact hz
  have hcap : ¬ its.toArray.size * k.toNat > (2 ^ 63 - 1) / 8 := by
    have : (sizeLine : Nat) <= (2 ^ 63 - 1) / 8 := by decide
    omega
  have hfit : ¬ (!Builtin.List.listFitsIndex k) = true := by
    rw [fitsIndex_both h1 h2]
    exact Bool.false_ne_true
  have hlong : ¬ Builtin.List.listTooLong (its.toArray.size * k.toNat) = true := by
    rw [y3t hlen]
    exact Bool.false_ne_true
  have hnew : List.foldl (fun x1 x2 => x1 ++ x2) #[] (List.replicate (if its.toArray.isEmpty = true then 0 else k.toNat) its.toArray) = (List.replicate k.toNat its).flatten.toArray := by
    have f0 : ∀ m : Nat, List.foldl (fun x1 x2 => x1 ++ x2) #[] (List.replicate m its.toArray) = (List.replicate m its).flatten.toArray := fun m => by
      have := x93 its m []
      rw [List.nil_append] at this
      exact this
    rw [f0]
    cases its with
    | nil => simp
    | cons a r' => rw [if_neg (by simp)]
  refine wpAny_binaryOp_repeat_ref (T := "list") (U := "int") (by decide) ⟨_, e, rfl⟩ (fun s' => typeIs_int s' k t) noFill_list_mul F.fills_int_mul F.slot_int_rmul repeat_list F.slot_int_index.lookup
    (call_meets F.slot_int_rmul (typeIs_int s k t) F.entry_int_rmul (F.args_int_rmul_2 _ _) (int___rmul___int_list k t l its.toArray n)
      ⟨e, rfl, ⟨_, e, rfl⟩, call_meets F.slot_list_mul ⟨_, e, rfl⟩ F.entry_list_mul (F.args_list_mul_2 _ _) (AutoListH.list___mul___list_int_3 l its.toArray n k t hfit hcap hlong) ⟨e, ?_⟩⟩)
  rw [hnew]
  exact ⟨.ref _, _, I.lnew (t' := s.toks) (r.rep k.toNat) (by rw [y2r, Nat.mul_comm]; exact hz), rfl, q _ I.fresh⟩
end
end L2
namespace Att
open PySem PySem.W PySem.Calls PyProof.Rows
theorem x8m {P : Params} {h : Heap} : ∀ (ns : List Int) (vs : List Value), WellAll P h vs (ns.map WData.int) -> IntsAre vs ns := by
  intro ns
  induction ns with
  | nil =>
    intro vs w
    rw [List.map_nil] at w
    cases w
    exact .nil
  | cons n ns ih =>
    intro vs w
    rw [List.map_cons] at w
    cases w with
    | cons a b =>
      cases a
      exact .cons _ _ (ih _ b)
theorem y5r {l : OpenLaw} {n : Nat} (hn : l.most = some n) {P : Params} {h : Heap} {args : List WData} {vals : List Value}
    (hpre : l.row.toRowW.claim.pre args = true) (hwl : WellAll P h vals args) :
    ∃ a vs ns, vals = [Value.ref a] /\ args = [WData.list (ns.map WData.int)] /\ h.get? a = some { cls := .type "list", data := .seq vs.toArray } /\ IntsAre vs ns /\ ns.length <= n := by
  have hsh : WShape.hasAll [] args [.list .int] = true := (pre_splitW hpre).1
  have hc : l.pre.holds [] { args := args } = true := (pre_splitW hpre).2
  obtain ⟨d, r, rfl, h1, h2⟩ := hasAllW_cons hsh
  obtain rfl := hasAllW_nil h2
  obtain ⟨xs, rfl, h3⟩ := hasW_list h1
  obtain ⟨ns, rfl⟩ := items_int h3
  have hlen : ns.length <= n := by
    unfold OpenLaw.pre at hc
    have h4 : (WTm.not (.lt (.lit (.int (n : Int))) (.len (.arg 0)))).holds [] { args := [.list (ns.map .int)] } = true := by
      have h4 := (holds_andW hc).1
      rw [hn] at h4
      exact h4
    have h5 := condW_of h4 (w_not (w_lt w_lit (w_len_list (w_arg rfl))))
    rw [List.length_map] at h5
    refine Nat.le_of_not_lt fun q => ?_
    have q' : (n : Int) < ((ns.length : Nat) : Int) := by omega
    first
      | (rw [decide_eq_true q'] at h5; exact absurd h5 (by decide))
      | (simp at h5; omega)
  cases hwl with
  | cons w1 w2 =>
    cases w2
    cases w1 with
    | list ho hall => exact ⟨_, _, ns, rfl, rfl, ho, x8m ns _ hall, hlen⟩
theorem y5o (l : OpenLaw) (args : List WData) : l.row.toRowW.claim.post args (.bool true) args = true :=
  postW_of (r := l.row.toRowW) (X := (true == true))
    (show WShape.has [] (.bool true) .bool = true by first | rfl | decide | simp [WShape.has, WShape.arms, WShape.armsAll])
    (show (WTm.eq .res (.lit (.bool true))).value [] { args := args, res := some (.bool true), after := args } = some (.bool (true == true)) from w_eq_bool (w_res rfl) w_lit) rfl
theorem z2z {l : OpenLaw} {n : Nat} {q : Program} {loose : List Str} {XP : (Str -> Option Value) -> Heap -> Prop} {YP : World -> Heap -> Prop} {d : DefRec}
    (hn : l.most = some n) (hdf : d.params.defaults = [])
    (call : ∀ (w : World) (s₀ s₁ : Shared) (mg mb : Str -> Option Value) (fa : Addr) (o : Obj) (pm cd doc : Value) (a : Addr) (vs : List Value) (ns : List Int),
      Ground q loose [] XP w s₀ mg mb s₁.heap -> YP w s₁.heap ->
      s₁.heap.get? fa = some o -> o.data = .func (docDef d.name d.params d.body d.scope pm cd doc) -> s₁.heap.CodeRec cd d.name -> mg d.name = some (.ref fa) ->
      s₁.heap.get? a = some { cls := .type "list", data := .seq vs.toArray } -> IntsAre vs ns -> ns.length <= n -> s₁.gens = #[] ->
      codeAny (model l.prog w) callerA (.call (.ref fa) ⟨[.ref a], []⟩) (fun r s' => r = .ok (.ret (.bool true)) /\ OldK s₁.heap s'.heap /\ s'.os = s₁.os /\ AllBare s'.gens) s₁) :
    WalkO q loose XP YP l.row.toRowW d [] (fun f vs => PySem.call f vs) := by
  intro w s₀ s₁ mg mb G Y fa o pm cd doc dV kV ho hd hcd hD hmg hg args vals as hpre hlay hrd hwl hlo
  obtain rfl : dV = .none := Dflts.none hD hdf
  obtain rfl : kV = .none := Dflts.noKw hD
  obtain ⟨a, vs, ns, rfl, rfl, hobj, hints, hlen⟩ := y5r hn hpre hwl
  refine enter_call (codeAny_mono (call w s₀ s₁ mg mb fa o pm cd doc a vs ns G Y ho (fd_plain hd) hcd hmg hobj hints hlen hg) fun r s' hq => ?_)
  obtain ⟨rfl, h2, h3, h4⟩ := hq
  exact ⟨.inl ⟨.bool true, .bool true, [], rfl, fun _ => rfl, .bool true, y5o l _, fun _ => ⟨List.Pairwise.nil, fun _ hm => (nomatch hm)⟩⟩, h2, h3, h4⟩
section
variable {prog : Program} {w : World} {A : Around} {E : Value -> Shared -> Prop} {s : Shared} {K : Frag}
end
end Att
namespace L2
open PySem PySem.Spec PyProof.Rows
theorem y16 : ∀ {vs : List Value} {ns : List Int}, IntsAre vs ns -> x2a (ns.map V.int) vs
  | _, _, .nil => .nil
  | _, _, .cons n t h => .cons ⟨t, rfl⟩ (y16 h)
noncomputable def z8s (H : Hp) : Prop := ∀ b, H b = none \/ ∃ o xs, H b = some (.frz o (.lst xs))
theorem y9j {P : Program} {w : World} {K : PySem.W.Frag} {mg mb : Str -> Option Value} {CX : CXT} {k : Nat} {fa a : Addr} {fd : FuncData} {x : Str} {sp : Sp} {s₁ : Shared} {vs : List Value} {ns : List Int}
    (KX : K.In s₁.heap) (hns : s₁.heap.Ns mainGlobals mg) (hb : s₁.heap.Ns builtinsNs mb) (hbb : ∀ x : Str, x ≠ "__name__" -> mb x = bootBuiltins x) (hlim : s₁.heap.NoLimit) (hg : s₁.gens = #[])
    (ha : s₁.heap.get? a = some { cls := .type "list", data := .seq vs.toArray }) (hi : IntsAre vs ns) (hl : ns.length <= sizeLine) (hr : Room k callerA)
    (F : ∀ base : Heap, K.In base -> base.Ns mainGlobals mg -> FnOk P w K mg base CX k fa fd [x] sp) (hbind : ∀ (s : Shared) (u : Value), BindsTo s fd ⟨[u], []⟩ [(x, u)])
    (hsp : ∀ H : Hp, z8s H -> SqL K H a (ns.map V.int) -> sp [.ref a] H (fun v _ => v = .bl true) fun _ _ _ => False)
    (hCX : ∀ H e s', CX [] H s₁ (fun _ _ _ => False) e s' -> False) :
    codeAny (model P w) callerA (.call (.ref fa) ⟨[.ref a], []⟩) (fun r s' => r = .ok (.ret (.bool true)) /\ OldK s₁.heap s'.heap /\ s'.os = s₁.os /\ AllBare s'.gens) s₁ := by
  have rv := y16 hi
  have lenV := hi.length
  -- from an abstract heap in which nothing but the script may be tracked
  have core : ∀ H : Hp, z8s H -> SqL K H a (ns.map V.int) -> HOk P w H s₁.heap -> (∀ b, H b ≠ none -> b = a) -> (H a ≠ none -> K.lookup a = none) ->
      codeAny (model P w) callerA (.call (.ref fa) ⟨[.ref a], []⟩) (fun r s' => r = .ok (.ret (.bool true)) /\ OldK s₁.heap s'.heap /\ s'.os = s₁.os /\ AllBare s'.gens) s₁ := by
    intro H hO hS hok hA hK
    have base_of : ∀ {b : Addr} {o : Obj}, s₁.heap.get? b = some o -> H b = none -> (y7x s₁.heap H).get? b = some o := fun e n => y8i e n
    have noA : ∀ {b : Addr} {o : Obj} {es : Array DictEntry} {ep : Nat}, s₁.heap.get? b = some o -> o.data = .dict es ep -> H b = none := fun {b o es ep} e d => by
      cases q : H b with
      | none => rfl
      | some u =>
        have e' : b = a := hA b (by rw [q]; simp)
        subst e'
        rw [ha] at e; cases e
        have d' : Data.seq vs.toArray _ = Data.dict es ep := d
        cases d'
    have nsK : ∀ {b : Addr} {m : Str -> Option Value}, s₁.heap.Ns b m -> (y7x s₁.heap H).Ns b m := fun {b m} ⟨o, es, ep, e, d, r⟩ => ⟨o, es, ep, base_of e (noA e d), d, r⟩
    have hKb : K.In (y7x s₁.heap H) := fun b o e => base_of (KX b o e) (by
      cases q : H b with
      | none => rfl
      | some u =>
        have e' : b = a := hA b (by rw [q]; simp)
        subst e'
        rw [hK (by rw [q]; simp)] at e; cases e)
    have hM : Mod K mg (y7x s₁.heap H) := ⟨hKb, nsK hns, ⟨mb, nsK hb, hbb⟩, let ⟨mc, h1, h2⟩ := hlim; ⟨mc, nsK h1, h2⟩⟩
    have e0 : Env0 P w K mg (y7x s₁.heap H) callerA [] s₁ H := ⟨rfl, hM, fun b o e => z2o e, Nat.le_of_eq (y5t _ _), trivial, fun b hb => absurd (show b ∈ ([] : List Addr) from hb) (by simp), hok, .of_eq hg⟩
    refine codeAny_mono ((F _ hKb (nsK hns)).run callerA [] s₁ H ⟨[.ref a], []⟩ [.ref a] [.ref a] _ _ hr e0 (hbind s₁ (.ref a)) (.cons rfl .nil) (hsp H hO hS)) fun r s' h => ?_
    cases r with
    | error e => exact (hCX H e s' h).elim
    | ok fl =>
      cases fl with
      | next => exact False.elim h
      | brk => exact False.elim h
      | cont => exact False.elim h
      | ret u =>
        obtain ⟨v, H', os, bare, un, hok', r', q⟩ := h
        have q' : v = .bl true := q
        subst q'
        obtain rfl : u = Value.bool true := r'
        refine ⟨rfl, OldK.of_keep fun b o e => ?_, os, bare⟩
        cases q : H b with
        | none => exact un.keep b o e q (by intro z; exact absurd (show b ∈ ([] : List Addr) from z) (by simp)) (by simp)
        | some u =>
          rcases hO b with z | ⟨ob, xs, z⟩
          · rw [q] at z; cases z
          · have z2 := un.frzs b ob _ z
            obtain ⟨e1, _⟩ := hok b _ z
            obtain ⟨e2, _⟩ := hok' b _ z2
            rw [e] at e1; cases e1
            exact e2
  cases hk : K.lookup a with
  | some o =>
    -- the script is one of the module's own objects
    have e := KX a o hk
    rw [ha] at e
    cases e
    refine core (fun _ => none) (fun _ => .inl rfl) (.inr ⟨_, vs.toArray, _, hk, rfl, rfl, rfl, by rw [List.size_toArray, lenV]; exact hl, by simpa using rv⟩) (fun b u z => by have z' : (none : Option HO) = some u := z; cases z') (fun b z => absurd rfl z) fun z => absurd rfl z
  | none =>
    refine core (fun b => if b = a then some (.frz { cls := .type "list", data := .seq vs.toArray } (.lst (ns.map V.int))) else none) (fun b => ?_) (.inl (.inr ⟨{ cls := .type "list", data := .seq vs.toArray }, if_pos rfl⟩)) (fun b u z => ?_) (fun b z => ?_) fun _ => hk
    · by_cases hb : b = a
      · exact .inr ⟨_, _, if_pos hb⟩
      · exact .inl (if_neg hb)
    · by_cases hb : b = a
      · have z' := (if_pos hb).symm.trans z
        cases z'
        subst hb
        exact ⟨ha, by rw [List.length_map]; exact hl, vs, _, rv, ha⟩
      · have z' := (if_neg hb).symm.trans z
        cases z'
    · by_cases hb : b = a
      · exact hb
      · exact absurd (if_neg hb) z
theorem z7v {l : PySem.W.OpenLaw} {n k : Nat} {q : Program} {loose : List Str} {XP : (Str -> Option Value) -> Heap -> Prop} {YP : World -> Heap -> Prop} {d : DefRec} {K : Params -> PySem.W.Frag} {CX : World -> CXT} {sp : World -> Sp} {x : Str}
    (hn : l.most = some n) (hn2 : n <= sizeLine) (hdf : d.params.defaults = []) (hr : Room k callerA)
    (hY : ∀ (w : World) (h : Heap), YP w h -> (K w.params).In h)
    (F : ∀ (w : World) (mg : Str -> Option Value) (fa : Addr) (h : Heap), (K w.params).In h -> h.Ns mainGlobals mg -> mg d.name = some (.ref fa) ->
      ∃ fd : FuncData, (∀ (s : Shared) (u : Value), BindsTo s fd ⟨[u], []⟩ [(x, u)]) /\
        ∀ base : Heap, (K w.params).In base -> base.Ns mainGlobals mg -> FnOk l.prog w (K w.params) mg base (CX w) k fa fd [x] (sp w))
    (hsp : ∀ (w : World) (H : Hp) (a : Addr) (ns : List Int), ns.length <= n -> z8s H -> SqL (K w.params) H a (ns.map V.int) -> sp w [.ref a] H (fun v _ => v = .bl true) fun _ _ _ => False)
    (hCX : ∀ (w : World) (H : Hp) (s : Shared) (e : Value) (s' : Shared), CX w [] H s (fun _ _ _ => False) e s' -> False) :
    PySem.W.WalkO q loose XP YP l.row.toRowW d [] (fun f vs => PySem.call f vs) := by
  refine Att.z2z hn hdf fun w s₀ s₁ mg mb fa o pm cd doc a vs ns G Y ho hd hcd hmg hobj hints hlen hg => ?_
  have KX := hY w _ Y
  obtain ⟨fd, hb, hF⟩ := F w mg fa _ KX G.T.g hmg
  exact y9j KX G.T.g G.T.b G.T.builtins G.T.nolimit hg hobj hints (Nat.le_trans hlen hn2) hr hF hb (fun H hO hS => hsp w H a ns hlen hO hS) fun H e s' => hCX w H s₁ e s'
noncomputable def x5n (s : Stmt) : Arguments := match s with
  | .FunctionDef _ a _ _ _ _ _ _ _ _ => a
  | _ => { posonlyargs := [], args := [], vararg := none, kwonlyargs := [], kw_defaults := [], kwarg := none, defaults := [] }
noncomputable def x2r (s : Stmt) : List Stmt := match s with
  | .FunctionDef _ _ b _ _ _ _ _ _ _ => b
  | _ => []
noncomputable def x0d (s : Stmt) : Scope := match s with
  | .FunctionDef _ _ _ _ _ _ sc _ _ _ => sc
  | _ => { kind := .function, names := [], isGenerator := false, isCoroutine := false }
noncomputable abbrev CX0 : CXT := fun _ _ _ _ _ _ => False
noncomputable abbrev E0 : XK := fun _ _ _ => False
theorem z7r {X : Cx} : y45 CX0 X E0 := fun _ _ _ _ _ _ _ h => h.elim
structure Fun (K : PySem.W.Frag) (x qual : Str) (st : Stmt) (f : Addr) (fd : FuncData) : Prop where
  ex : ∃ (oc : Value) (od : Option Addr) (kV doc pm : Value) (an : Option Addr) (cdv ct : Value) (osl : Array (Option Value)),
    fd = PySem.W.fnOf x qual (x5n st) (x2r st) (x0d st) .none kV doc pm an cdv ct /\ K.lookup f = some ⟨oc, od, .func fd, osl⟩ /\ PySem.W.codeIn K cdv qual = true
  kp : PySem.W.keepIn K (.ref f) = true
section
variable {P : Program} {w : World} {K : PySem.W.Frag} {mg : Str -> Option Value} {base : Heap}
theorem Fun.ok {x qual : Str} {st : Stmt} {f : Addr} {fd : FuncData} {N ps : List Str} {k : Nat} {sp : Sp} (F : Fun K x qual st f fd) (S : FnScope N ps (x0d st)) (len : ∀ vs H Q E, sp vs H Q E -> vs.length = ps.length)
    (hbody : ∀ (cdv : Value) (A : Around) (outer : List Env) (s : Shared) (H : Hp) (vs : List V) (Q : VK) (E : XK), Room k (A.deeper (envOfC qual (x0d st) s.heap.objs.size f cdv)) -> sp vs H Q E ->
      ∃ t, PSs (y5e CX0 P w K mg base N qual (x0d st) f cdv A outer s H E).nox (x2r st) t /\ t { nx := fun _ H' => Q .non H', rt := Q } (x9b N vs) H) : FnOk P w K mg base CX0 (k + 1) f fd ps sp := by
  obtain ⟨oc, od, kV, doc, pm, an, cdv, ct, osl, rfl, lk, hcd⟩ := F.ex
  refine z4y lk hcd S len fun A outer s H vs Q E hr hsp => ?_
  obtain ⟨t, h, q⟩ := hbody cdv A outer s H vs Q E hr hsp
  exact ⟨t, h.nox, q⟩
theorem Fun.binds {x qual : Str} {st : Stmt} {f : Addr} {fd : FuncData} {ps : List Str} (F : Fun K x qual st f fd)
    (h : ∀ (kV doc pm : Value) (an : Option Addr) (cdv ct : Value) (us : List Value), us.length = ps.length -> bindArgs (PySem.W.fnOf x qual (x5n st) (x2r st) (x0d st) .none kV doc pm an cdv ct) ⟨us, []⟩ = pure (ps.zip us)) : y0d K fd ps [] := by
  obtain ⟨oc, od, kV, doc, pm, an, cdv, ct, osl, rfl, lk, hcd⟩ := F.ex
  exact .all (h kV doc pm an cdv ct)
theorem z0i {x qual : Str} {st : Stmt} {f : Addr} {oc : Value} {od an : Option Addr} {osl : Array (Option Value)} {kV doc pm cdv ct : Value} (l : K.lookup f = some ⟨oc, od, .func (PySem.W.fnOf x qual (x5n st) (x2r st) (x0d st) .none kV doc pm an cdv ct), osl⟩)
    (c : PySem.W.codeIn K cdv qual = true) (k : PySem.W.keepIn K (.ref f) = true) : Fun K x qual st f (PySem.W.fnOf x qual (x5n st) (x2r st) (x0d st) .none kV doc pm an cdv ct) := ⟨⟨oc, od, kV, doc, pm, an, cdv, ct, osl, rfl, l, c⟩, k⟩
end
theorem z7m {A : Around} {k : Nat} (hr : Room k A) : A.units + 1 < cLine := Nat.lt_of_le_of_lt (Nat.add_le_add_left (by decide : 1 <= 64) _) hr.units
theorem x48 {n : Nat} (h : n <= 1000) : n < sizeLine := Nat.lt_of_le_of_lt h (by decide)
section
variable {X : Cx}
theorem pv (i : Nat) {x : Str} {pos : Pos} (hN : X.N[i]? = some x := by rfl) (hv : Vis X.env.scope x := by first | exact Or.inl rfl | exact Or.inr (Or.inl rfl) | exact Or.inr (Or.inr rfl)) (hd : (x == ("__debug__" : Str)) = false := by decide)
    (hcd : (x == ("__classdict__" : Str)) = false := by decide) : PE X (.Name x pos) (x8p i) := z6p hN hv hd hcd
end
section
variable {κ : Type} [DecidableEq κ]
noncomputable def y3m (kvs : List (κ × V)) (k : κ) : Option V := (kvs.find? fun kv => decide (kv.1 = k)).map (·.2)
noncomputable def y99 (kvs : List (κ × V)) (k : κ) (v : V) : List (κ × V) :=
  if (kvs.any fun kv => decide (kv.1 = k)) = true then kvs.map (fun kv => if kv.1 = k then (kv.1, v) else kv) else kvs ++ [(k, v)]
theorem y0r {p : κ × V} {r : List (κ × V)} {k : κ} (e : p.1 = k) : y3m (p :: r) k = some p.2 := by simp [y3m, List.find?_cons, e]
theorem y0x {p : κ × V} {r : List (κ × V)} {k : κ} (e : ¬ p.1 = k) : y3m (p :: r) k = y3m r k := by simp [y3m, List.find?_cons, e]
theorem y3d (kvs : List (κ × V)) (k : κ) (v : V) : (y99 kvs k v).length <= kvs.length + 1 := by
  unfold y99
  split
  · rw [List.length_map]; omega
  · rw [List.length_append, List.length_cons, List.length_nil]; omega
theorem z38.getD {o : Option V} {u : Option Value} {d : V} {d' : Value} (r : z38 o u) (rd : x36 d d') : x36 (o.getD d) (u.getD d') := by
  cases o with
  | none => cases u with
    | none => exact rd
    | some _ => exact (show False from r).elim
  | some _ => cases u with
    | none => exact (show False from r).elim
    | some _ => exact r
theorem KV.val {kvs : List (κ × V)} {vs : List (κ × Value)} (r : KV kvs vs) (k : κ) : z38 (y3m kvs k) (valueAt vs k) := by
  unfold KV at r
  induction r with
  | nil => exact True.intro
  | @cons p q ps qs h t ih =>
    obtain ⟨h1, h2⟩ := h
    by_cases e : p.1 = k
    · have e' : q.1 = k := h1.symm.trans e
      have b : valueAt (q :: qs) k = some q.2 := by simp [valueAt, List.find?_cons, e']
      rw [y0r e, b]; exact h2
    · have e' : ¬ q.1 = k := fun z => e (h1.trans z)
      have b : valueAt (q :: qs) k = valueAt qs k := by simp [valueAt, List.find?_cons, e']
      rw [y0x e, b]; exact ih
theorem KV.any {kvs : List (κ × V)} {vs : List (κ × Value)} (r : KV kvs vs) (k : κ) : (kvs.any fun kv => decide (kv.1 = k)) = vs.any fun kv => decide (kv.1 = k) := by
  unfold KV at r
  induction r with
  | nil => rfl
  | cons h t ih => rw [List.any_cons, List.any_cons, ih, h.1]
theorem KV.repl {kvs : List (κ × V)} {vs : List (κ × Value)} (r : KV kvs vs) (k : κ) {y : V} {u : Value} (ry : x36 y u) :
    KV (kvs.map fun kv => if kv.1 = k then (kv.1, y) else kv) (vs.map fun kv => if kv.1 = k then (kv.1, u) else kv) := by
  unfold KV at r ⊢
  induction r with
  | nil => exact .nil
  | @cons p q ps qs h t ih =>
    rw [List.map_cons, List.map_cons]
    refine .cons ?_ ih
    obtain ⟨h1, h2⟩ := h
    by_cases e : p.1 = k
    · rw [if_pos e, if_pos (h1.symm.trans e)]; exact ⟨h1, ry⟩
    · rw [if_neg e, if_neg (fun z => e (h1.trans z))]; exact ⟨h1, h2⟩
theorem KV.put {kvs : List (κ × V)} {vs : List (κ × Value)} (r : KV kvs vs) (k : κ) {y : V} {u : Value} (ry : x36 y u) : KV (y99 kvs k y) (stored vs k u) := by
  unfold y99 stored
  rw [r.any k]
  by_cases e : (vs.any fun kv => decide (kv.1 = k)) = true
  · rw [if_pos e, if_pos e]; exact r.repl k ry
  · rw [if_neg e, if_neg e]; exact Paired.snoc r ⟨rfl, ry⟩
end
theorem z1s {P : Program} {w : World} {k : Key} {u : Value} (r : x36 (kV k) u) : (x2j P w).is k u = true := by
  cases k with
  | inl i => obtain ⟨t, e⟩ := (show ∃ t, u = Value.int i t from r); subst e; exact y2y P w i t
  | inr x => obtain ⟨t, e⟩ := (show ∃ t, u = Value.str x t from r); subst e; exact y3e P w x t
theorem y1p {P : Program} {w : World} : ∀ {ks : List Key} {us : List Value}, x2a (ks.map kV) us -> ItemsAre (x2j P w) ks us
  | [], _, r => by rw [List.map_nil] at r; cases r; exact .nil
  | k :: ks, _, r => by
    rw [List.map_cons] at r
    cases r with
    | cons h t => exact .cons (z1s h) (y1p t)
noncomputable abbrev KT (H : Hp) : List (List Key × V) -> List (List Key × Addr × Value) -> Prop := Paired fun p q => p.1 = q.1 /\ H q.2.1 = some (.tup (p.1.map kV)) /\ x36 p.2 q.2.2
theorem KT.val {H : Hp} {kvs : List (List Key × V)} {xs : List (List Key × Addr × Value)} (r : KT H kvs xs) (k : List Key) : z38 (y3m kvs k) ((atKey xs k).map (·.2)) := by
  induction r with
  | nil => exact True.intro
  | @cons p q ps qs h t ih =>
    obtain ⟨h1, _, h2⟩ := h
    by_cases e : p.1 = k
    · have e' : q.1 = k := h1.symm.trans e
      have b : atKey (q :: qs) k = some q.2 := by simp [atKey, List.find?_cons, e']
      rw [y0r e, b]; exact h2
    · have e' : ¬ q.1 = k := fun z => e (h1.trans z)
      have b : atKey (q :: qs) k = atKey qs k := by simp [atKey, List.find?_cons, e']
      rw [y0x e, b]; exact ih
section
variable {P : Program} {w : World} {H : Hp} {h : Heap} {a : Addr}
theorem z62 {u : HO} (ok : HOk P w H h) (e : Rd H a u) : x2d P w H h a u := e.ok ok
theorem z29 {kvs : List (Key × V)} (ok : HOk P w H h) (e : Rd H a (.dK kvs)) : kvs.length <= sizeLine /\ (a == sysModules) = false /\ ∃ vs, KV kvs vs /\ h.DictOf (x2j P w) a vs :=
  show x2d P w H h a (.dK kvs) from z62 ok e
theorem z87 {kvs : List (Key × V)} (ok : HOk P w H h) (e : H a = some (.dK kvs)) : kvs.length <= sizeLine /\ (a == sysModules) = false /\ ∃ vs, KV kvs vs /\ h.DictOf (x2j P w) a vs := z29 ok (.inl e)
theorem y9x {ks : List Key} (ok : HOk P w H h) (e : H a = some (.tup (ks.map kV))) : (tupleKind (x2j P w)).is h ks a := by
  obtain ⟨_, its, r, o, h1, h2, ⟨n, h3⟩, _⟩ := (show x2d P w H h a (.tup (ks.map kV)) from ok a _ e)
  exact ⟨o, its.toArray, n, h1, h2, h3, by simpa using y1p r⟩
theorem z76 {kvs : List (List Key × V)} (ok : HOk P w H h) (e : Rd H a (.dT kvs)) : kvs.length <= sizeLine /\ (a == sysModules) = false /\
    ∃ xs, KT H kvs xs /\ h.DictOfH (tupleKind (x2j P w)) a xs := by
  obtain ⟨z, y, xs, r, o, es, ep, h1, h2, h3, h4, h5⟩ := (show x2d P w H h a (.dT kvs) from z62 ok e)
  refine ⟨z, y, xs, r, o, es, ep, h1, h2, h3, h4, fun x hx => ?_, h5⟩
  have all : ∀ {l : List (List Key × V)} {m : List (List Key × Addr × Value)}, KT H l m -> ∀ x ∈ m, (tupleKind (x2j P w)).is h x.1 x.2.1 := by
    intro l m q
    induction q with
    | nil => intro x hx; exact nomatch hx
    | @cons p q ps qs hq t ih =>
      intro x hx
      rcases List.mem_cons.mp hx with e | hx
      · subst e
        exact y9x ok (by rw [<- hq.1]; exact hq.2.1)
      · exact ih x hx
  exact all r x hx
end
noncomputable def z4t (H : Hp) (a : Addr) (y : V) (r : Option V) : Prop :=
  (∃ kvs k, Rd H a (.dK kvs) /\ y = kV k /\ r = y3m kvs k) \/ ∃ kvs k b, Rd H a (.dT kvs) /\ y = .ref b /\ H b = some (.tup (k.map kV)) /\ r = y3m kvs k
theorem z4t.k {H : Hp} {a : Addr} {kvs : List (Key × V)} {k : Key} (e : H a = some (.dK kvs)) : z4t H a (kV k) (y3m kvs k) := .inl ⟨kvs, k, .inl e, rfl, rfl⟩
section
variable {X : Cx} {pins : List (Addr × Obj)} {σ : St} {H : Hp} {s : Shared} {a : Addr} {y v : V} {u r : Value} {o : Option V} {A : Around} {E : Value -> Shared -> Prop}
theorem Inv.big (I : Inv X pins σ H s) : sysModules < s.heap.objs.size := by
  have h : mainGlobals < s.heap.objs.size := (I.mod.glob.keeps I.bk).lt
  exact Nat.lt_trans (by decide) h
theorem z3b {h' : Heap} {t' : Nat} {ob : HO} (I : Inv X pins σ H s) (mu : Mut (H a)) (hs : Heap.SameBut a s.heap h') (he : ∃ q, h'.get? a = some q) (new : x2d X.prog X.w (upd H a ob) h' a ob) :
    Inv X pins σ (upd H a ob) { s with heap := h', toks := t' } :=
  I.write (x := a) (e := a) mu (.inl rfl) (fun b q hb z => (hs.2 b hb).trans z) he new
theorem z5y {P : Program} {w : World} {H' : Hp} {h' : Heap} {kvs : List (Key × V)} {vs : List (Key × Value)} (z : kvs.length <= sizeLine) (hd : (a == sysModules) = false) (rel : KV kvs vs) (dd : h'.DictOf (x2j P w) a vs) :
    x2d P w H' h' a (.dK kvs) := ⟨z, hd, vs, rel, dd⟩
end
theorem y80 {P : Program} {w : World} {H : Hp} (h : Heap) (hb : sysModules < h.objs.size) : x2d P w H (h.push { cls := .type "dict", data := .dict #[] }) h.objs.size (.dK []) :=
  ⟨Nat.zero_le _, beq_eq_false_iff_ne.mpr (Ne.symm (Nat.ne_of_lt hb)), [], .nil, Heap.DictOf.new h⟩
noncomputable def y6o : List (TE × TE) -> St -> Hp -> (List (V × V) -> Hp -> Prop) -> Prop
  | [], _, H, Q => Q [] H
  | (tk, tv) :: r, σ, H, Q => tk σ H fun x H1 => tv σ H1 fun y H2 => y6o r σ H2 fun ps H3 => Q ((x, y) :: ps) H3
noncomputable abbrev VV : List (V × V) -> List (Value × Value) -> Prop := Paired fun p q => x36 p.1 q.1 /\ x36 p.2 q.2
noncomputable def PPs (X : Cx) (pos : Pos) (keys : List (Option Expr)) (values : List Expr) (trs : List (TE × TE)) : Prop :=
  ∀ (pins : List (Addr × Obj)) (s : Shared) (σ : St) (H : Hp) (Q : List (V × V) -> Hp -> Prop), Inv X pins σ H s -> y6o trs σ H Q ->
    wpAny (model X.prog X.w) X.A (evalPairs (pairTrees keys values X.env pos)) (fun vs s' => ∃ ps H', Inv X pins σ H' s' /\ VV ps vs /\ Q ps H') X.xe s
theorem z2i {X : Cx} {pos : Pos} : PPs X pos [] [] [] := fun pins s σ H Q I h => pairTrees_nil_walk ⟨[], H, I, .nil, h⟩
theorem y4h {X : Cx} {pos : Pos} {k v : Expr} {ks : List (Option Expr)} {vs : List Expr} {tk tv : TE} {trs : List (TE × TE)} (hk : PE X k tk) (hv : PE X v tv) (hr : PPs X pos ks vs trs) :
    PPs X pos (some k :: ks) (v :: vs) ((tk, tv) :: trs) := fun pins s σ H Q I h =>
  pairTrees_cons_walk (thn (hk pins s σ H _ I h) fun u s1 ⟨x, H1, I1, rx, q1⟩ => thn (hv pins s1 σ H1 _ I1 q1) fun w2 s2 ⟨y, H2, I2, ry, q2⟩ =>
    thn (hr pins s2 σ H2 _ I2 q2) fun ws s3 ⟨ps, H3, I3, rel, q3⟩ => ⟨(x, y) :: ps, H3, I3, .cons ⟨rx, ry⟩ rel, q3⟩)
noncomputable def x8h (kvs more : List (Key × V)) : List (Key × V) := more.foldl (fun acc kv => y99 acc kv.1 kv.2) kvs
theorem KV.merge : ∀ {more : List (Key × V)} {rs : List (Key × Value)} {kvs : List (Key × V)} {vs : List (Key × Value)}, KV more rs -> KV kvs vs -> KV (x8h kvs more) (merged vs rs) := by
  intro more rs kvs vs r
  unfold KV at r
  induction r generalizing kvs vs with
  | nil => intro q; exact q
  | @cons p q ps qs h t ih =>
    intro r0
    have e : KV (y99 kvs p.1 p.2) (stored vs q.1 q.2) := by
      have := r0.put p.1 h.2
      rw [<- h.1]; exact this
    exact ih e
theorem x6m : ∀ (more kvs : List (Key × V)), (x8h kvs more).length <= kvs.length + more.length
  | [], kvs => by show kvs.length <= kvs.length + 0; omega
  | p :: r, kvs => by
    have h1 := x6m r (y99 kvs p.1 p.2)
    have h2 := y3d kvs p.1 p.2
    show (x8h (y99 kvs p.1 p.2) r).length <= _
    rw [List.length_cons]; omega
theorem x9o {P : Program} {w : World} : ∀ {kvs : List (Key × V)} {ws : List (Value × Value)}, VV (kvs.map fun kv => (kV kv.1, kv.2)) ws -> ∃ rs, Carries (x2j P w) ws rs /\ KV kvs rs
  | [], _, r => by rw [List.map_nil] at r; cases r; exact ⟨[], True.intro, .nil⟩
  | p :: kvs, _, r => by
    rw [List.map_cons] at r
    cases r with
    | @cons a b as bs h t =>
      obtain ⟨rs, c, q⟩ := x9o (P := P) (w := w) t
      obtain ⟨b1, b2⟩ := b
      exact ⟨(p.1, b2) :: rs, ⟨z1s h.1, rfl, c⟩, .cons ⟨rfl, h.2⟩ q⟩
noncomputable def z8h (trs : List (TE × TE)) : TE := fun σ H Q => ∀ p, H p = none -> y6o trs σ (upd H p (.dK [])) fun ps H2 => H2 p = some (.dK []) /\ ∃ kvs : List (Key × V), ps = kvs.map (fun kv => (kV kv.1, kv.2)) /\ kvs.length <= 15 /\ Q (.ref p) (upd H2 p (.dK (x8h [] kvs)))
theorem z1k {X : Cx} {pos : Pos} {keys : List (Option Expr)} {values : List Expr} {trs : List (TE × TE)} (h : PPs X pos keys values trs) (hall : keys.all (·.isSome) = true) (hl : keys.length = values.length) (h0 : keys ≠ [])
    (h15 : keys.length <= 15) : PE X (.Dict keys values pos) (z8h trs) := by
  intro pins s σ H Q I q
  have hn := I.hok.fresh (Nat.le_refl s.heap.objs.size)
  have I1 := I.laid (a := s.heap.objs.size) (o := .dK []) (h' := s.heap.push { cls := .type "dict", data := .dict #[] }) (t' := s.toks) (fun _ _ q => Heap.get?_push_of_some _ q) (Nat.le_refl _) (y80 s.heap I.big)
  refine wpAny_Dict_walk (knd := x2j X.prog X.w) hall hl h0 h15 (thn (h pins _ σ _ _ I1 (q _ hn)) fun ws s2 hh0 => ?_)
  obtain ⟨ps, H2, I2, rel, e, kvs, ep, lk, q2⟩ := hh0
  subst ep
  obtain ⟨rs, c, rk⟩ := x9o (P := X.prog) (w := X.w) rel
  obtain ⟨z, hd, vs0, r0, dd⟩ := z87 I2.hok e
  cases r0
  refine ⟨rs, c, dd, fun h' dd' hs => ⟨.ref s.heap.objs.size, _, ?_, rfl, q2⟩⟩
  have hz : (x8h [] kvs).length <= sizeLine := by
    have h1 := x6m kvs []
    rw [List.length_nil] at h1
    rw [sizeLine_eq]; omega
  have he : ∃ q, h'.get? s.heap.objs.size = some q := let ⟨q, _, _, hq, _⟩ := dd'; ⟨q, hq⟩
  exact z3b I2 (by rw [e]; exact True.intro) hs he (z5y hz hd (rk.merge .nil) dd')
structure M2 (X : Cx) (o : Expr) (m : Str) (apos : Pos) (e f : Expr) (cpos : Pos) : Prop where
  base : attributeBase o m X.env (eval o X.env) = eval o X.env
  few : ((backTo cpos (starEach [e, f] X.env)).all (fun x => !x.1) && (backToKw cpos (keywordEach [] X.env)).all (fun x => x.1.isSome)
    && decide (([e, f] : List Expr).length + ([] : List Keyword).length + (if ([] : List Keyword).isEmpty then 0 else 1) < 30)) = true
  line : (apos.endLine == cpos.line) = true
  trees : backTo cpos (starEach [e, f] X.env) = [(false, eval e X.env), (false, eval f X.env)]
noncomputable def IsD (H : Hp) (a : Addr) : Prop := (∃ kvs, Rd H a (.dK kvs)) \/ ∃ kvs, Rd H a (.dT kvs)
theorem z4e {X : Cx} {pins : List (Addr × Obj)} {σ : St} {H : Hp} {s : Shared} {a : Addr} (I : Inv X pins σ H s) (d : IsD H a) :
    s.TypeIs (.ref a) "dict" /\ (∀ b, Value.ref a = .ref b -> ∃ ob, s.heap.get? b = some ob /\ ob.dict = none) /\ (a == sysModules) = false := by
  rcases d with ⟨kvs, e⟩ | ⟨kvs, e⟩
  · obtain ⟨_, hd, vs, _, dd⟩ := z29 I.hok e
    refine ⟨dd.typeIs, fun b q => ?_, hd⟩
    cases q
    obtain ⟨ob, _, _, h1, h2, _⟩ := dd
    exact ⟨ob, h1, h2.2.1⟩
  · obtain ⟨_, hd, xs, _, dd⟩ := z76 I.hok e
    refine ⟨dd.typeIs, fun b q => ?_, hd⟩
    cases q
    obtain ⟨ob, _, _, h1, h2, _⟩ := dd
    exact ⟨ob, h1, h2.2.1⟩
section
variable {X : Cx} {pins : List (Addr × Obj)} {σ : St} {H : Hp} {s : Shared} {a : Addr} {y d : V} {u r : Value} {o : Option V} {A : Around} {E : Value -> Shared -> Prop}
theorem z5x {Q : Value -> Shared -> Prop} (hu : A.units + 1 < cLine) (I : Inv X pins σ H s) (g : z4t H a y o) (ry : x36 y u) (rd : x36 d r) (h : ∀ w' s', Inv X pins σ H s' -> x36 (o.getD d) w' -> Q w' s') :
    wpAny (model X.prog X.w) A (call (.builtin "dict.get") [.ref a, u, r]) Q E s := by
  rcases g with ⟨kvs, k, e, ey, l⟩ | ⟨kvs, k, b, e, ey, eb, l⟩
  · subst ey
    obtain ⟨z, hd, vs, rel, dd⟩ := z29 I.hok e
    refine call_meetsIn PySem.F.slot_dict_get dd.typeIs PySem.F.entry_dict_get (PySem.F.args_dict_get_3 _ _ _) (meets_dict_get_default (x2j X.prog X.w) a (z1s ry) hd r) ⟨_, dd.mapOf, h _ _ (I.tok _) ?_⟩
    rw [l]
    exact (rel.val k).getD rd
  · subst ey
    cases (show u = Value.ref b from ry)
    obtain ⟨z, hd, xs, rel, dd⟩ := z76 I.hok e
    refine call_meetsIn PySem.F.slot_dict_get dd.typeIs PySem.F.entry_dict_get (PySem.F.args_dict_get_3 _ _ _) (meetsH_dict_get_default (tupleKind (x2j X.prog X.w)) a b hd r) ⟨tupleKind_room_in1 hu, k, xs, y9x I.hok eb, dd, h _ _ (I.tok _) ?_⟩
    rw [l]
    exact (rel.val k).getD rd
end
noncomputable def z4k (td ty tx : TE) : TE := fun σ H Q => td σ H fun x H1 => ∃ a, x = .ref a /\ IsD H1 a /\ ty σ H1 fun y H2 => tx σ H2 fun z H3 => ∃ o, z4t H3 a y o /\ Q (o.getD z) H3
section
variable {X : Cx} {o e f : Expr} {apos cpos : Pos} {td ty tx : TE}
theorem y9c (hu : X.A.units + 1 < cLine) (ho : PE X o td) (he : PE X e ty) (hf : PE X f tx) (m : M2 X o "get" apos e f cpos) : PE X (.Call (.Attribute o "get" apos) [e, f] [] cpos) (z4k td ty tx) := by
  intro pins s σ H Q I h
  refine wpAny_Call_method m.base m.few m.line PySem.F.plainAttrs_dict PySem.F.slot_dict_get PySem.F.type_dict_get (thn (ho pins s σ H _ I h) fun u s1 hh0 => ?_)
  obtain ⟨x, H1, I1, rx, a, ex, d, q1⟩ := hh0
  subst ex
  obtain rfl : u = Value.ref a := rx
  obtain ⟨t1, t2, _⟩ := z4e I1 d
  refine ⟨t1, t2, ?_⟩
  rw [m.trees]
  refine Calls.callWith_builtin rfl (Calls.evalArgs_plain (Calls.spliced_cons (thn (he pins s1 σ H1 _ I1 q1) fun iv s2 ⟨y, H2, I2, ry, q2⟩ =>
    Calls.spliced_cons (thn (hf pins s2 σ H2 _ I2 q2) fun fv s3 ⟨z, H3, I3, rz, ov, g, q3⟩ => Calls.spliced_nil ?_))))
  exact z5x hu I3 g ry rz fun w' s4 I4 rw' => ⟨_, H3, I4, rw', q3⟩
end
theorem y1m {prog : Program} {w : World} {A : Around} {R : Result -> Shared -> Prop} {s : Shared} {elt target iter : Expr} {ifs : List Expr} {scope : Scope} {pos : Pos} {it acc : Value} {env : Env} (I : Nat -> Shared -> Prop)
    (turn : ∀ n s, I n s -> wpAny (model prog w) A (pyNext it) (fun r s₁ => match r with
      | none => R (.ok .next) s₁
      | some v => wpAny (model prog w) A (letOwnedTupleGo target it v) (fun _ s₁' => wpAny (model prog w) A (assign target env v) (fun _ s₂ =>
          wpAny (model prog w) A (forIn ifs true fun c r => if r = true then do let ok <- isTrue c env (eval c env); pure (ForInStep.yield ok) else pure (ForInStep.yield r)) (fun ok s₃ =>
            if ok = true then wpAny (model prog w) A (eval elt env) (fun x s₄ =>
              wpAny (model prog w) A (call (.builtin "list.append") [acc, x]) (fun _ s₅ => ∃ m, m < n /\ I m s₅) (fun _ _ => False) s₄) (fun _ _ => False) s₃
            else ∃ m, m < n /\ I m s₃) (fun _ _ => False) s₂) (fun _ _ => False) s₁') (fun _ _ => False) s₁) (fun _ _ => False) s)
    (n : Nat) (h : I n s) : codeAny (model prog w) A (.compLoop (.ListComp elt [⟨target, iter, ifs, 0⟩] scope pos) 0 it acc env) R s := by
  refine codeAny_loop rfl I (fun n s hI => ?_) n h
  show wpAny _ A ((compTurn (.ListComp elt [⟨target, iter, ifs, 0⟩] scope pos) 0 it acc env).onRaise (fun x => do noteFrame x env; theTreesLotGoes x)) _ _ s
  refine wpAny_noted ?_
  rw [compTurn_list]
  refine wpAny_bind (wpAny_standAt (wpAny_bind (wpAny_mono (turn n s hI) (fun r s₁ h₁ => ?_) fun _ _ h' => h'.elim)))
  cases r with
  | none => exact wpAny_pure h₁
  | some v =>
    refine wpAny_bind (wpAny_mono h₁ (fun _ s₁' h₁' => ?_) fun _ _ h' => h'.elim)
    refine wpAny_bind (wpAny_mono h₁' (fun _ s₂ h₂ => wpAny_bind (wpAny_mono h₂ (fun ok s₃ h₃ => ?_) fun _ _ h' => h'.elim)) fun _ _ h' => h'.elim)
    cases ok with
    | false => exact wpAny_pure ⟨rfl, h₃⟩
    | true =>
      exact wpAny_bind (wpAny_bind (wpAny_mono h₃ (fun x s₄ h₄ => wpAny_bind (wpAny_mono h₄ (fun _ s₅ h₅ => wpAny_pure (wpAny_pure ⟨rfl, h₅⟩)) fun _ _ h' => h'.elim)) fun _ _ h' => h'.elim))
theorem y35 {M : Model} {A : Around} {E : Value -> Shared -> Prop} {s : Shared} {scope : Scope} {globals : Addr} {cl : List (Str × Addr)} {qual : Str} {outer : Env} {Q : Env -> Shared -> Prop}
    (hQ : Q (newEnv scope s.heap.objs.size globals (cellsFrom (s.heap.objs.size + 1) scope.names cl) qual none .none (some outer) builtinsNs)
      { s with heap := pushCells (s.heap.push { cls := .type "dict", data := .dict #[] }) scope.names }) :
    wpAny M A (newFunctionEnv scope globals cl [] qual none .none (some outer)) Q E s := by
  simp only [newFunctionEnv, Option.isSome_some, if_true]
  refine wpAny_bind (wpAny_alloc ?_)
  refine wpAny_bind (wpAny_layCells _ (fun name kind cells => by cases hkc : kind == NameKind.cell <;> simp [hkc]) _ _ _ _ ?_)
  rw [show ({ s with heap := s.heap.push { cls := .type "dict", data := .dict #[] } } : Shared).heap.objs.size = s.heap.objs.size + 1 from Heap.size_push ..]
  refine wpAny_bind ?_
  rw [List.forIn_nil]
  exact wpAny_pure (wpAny_pure hQ)
noncomputable def x1x (cells : List (Str × Addr)) : List (Str × NameKind) -> List (Str × Addr) -> List (Str × Addr)
  | [], acc => acc
  | (n, k) :: r, acc => if k == .free then (match cells.lookup n with
      | some c => x1x cells r ((n, c) :: acc)
      | none => x1x cells r acc) else x1x cells r acc
theorem x6v {scope : Scope} {env : Env} (h : ∀ y ∈ scope.names, y.2 = .free -> ∃ c, env.cells.lookup y.1 = some c) : closureFor scope env = pure (x1x env.cells scope.names []) := by
  unfold closureFor
  have key : ∀ (names : List (Str × NameKind)) (acc : List (Str × Addr)), (∀ y ∈ names, y.2 = .free -> ∃ c, env.cells.lookup y.1 = some c) ->
      (forIn names acc (fun (x : Str × NameKind) (r : List (Str × Addr)) => (match x with
        | (name, kind) => if (kind == NameKind.free) = true then do
            let c <- cellOf env name
            pure (ForInStep.yield ((name, c) :: r))
          else pure (ForInStep.yield r) : Sem (ForInStep (List (Str × Addr)))))) = (pure (x1x env.cells names acc) : Sem (List (Str × Addr))) := by
    intro names
    induction names with
    | nil => intro acc _; rfl
    | cons y r ih =>
      intro acc hh
      obtain ⟨n, kd⟩ := y
      rw [List.forIn_cons]
      unfold x1x
      by_cases hk : (kd == NameKind.free) = true
      · obtain ⟨c, hc⟩ := hh (n, kd) List.mem_cons_self (by simpa using hk)
        have hc' : env.cells.lookup n = some c := hc
        simp only [hk, if_true, hc']
        have e : cellOf env n = pure c := by unfold cellOf; rw [hc']
        rw [e]
        exact ih ((n, c) :: acc) fun z hz => hh z (List.mem_cons_of_mem _ hz)
      · simp only [hk]
        exact ih acc fun z hz => hh z (List.mem_cons_of_mem _ hz)
  exact (congrArg (fun m => m >>= fun cs => (pure cs : Sem (List (Str × Addr)))) (key scope.names [] h)).trans rfl
theorem x4o {cells : List (Str × Addr)} : ∀ {names : List (Str × NameKind)} {acc : List (Str × Addr)}, (∀ y c, (y, c) ∈ acc -> cells.lookup y = some c) -> ∀ y c, (y, c) ∈ x1x cells names acc -> cells.lookup y = some c
  | [], _, h, y, c, m => h y c m
  | (n, k) :: r, acc, h, y, c, m => by
    unfold x1x at m
    split at m
    · split at m
      · rename_i c' e
        refine x4o (acc := (n, c') :: acc) (fun z d hz => ?_) y c m
        rcases List.mem_cons.mp hz with q | q
        · cases q; exact e
        · exact h z d q
      · exact x4o h y c m
    · exact x4o h y c m
theorem x4v {cells : List (Str × Addr)} : ∀ {names : List (Str × NameKind)} {acc : List (Str × Addr)} {y : Str}, (acc.lookup y).isSome = true -> ((x1x cells names acc).lookup y).isSome = true
  | [], _, _, h => h
  | (n, k) :: r, acc, y, h => by
    unfold x1x
    split
    · split
      · refine x4v ?_
        rw [List.lookup_cons]
        split
        · rfl
        · exact h
      · exact x4v h
    · exact x4v h
theorem x3p {cells : List (Str × Addr)} {y : Str} {c : Addr} (hc : cells.lookup y = some c) : ∀ {names : List (Str × NameKind)} {acc : List (Str × Addr)}, (y, NameKind.free) ∈ names -> ((x1x cells names acc).lookup y).isSome = true
  | (n, k) :: r, acc, h => by
    unfold x1x
    rcases List.mem_cons.mp h with q | q
    · cases q
      simp only [hc]
      rw [if_pos (by rfl)]
      refine x4v ?_
      rw [List.lookup_cons, beq_self_eq_true]
      rfl
    · split
      · split
        · exact x3p hc q
        · exact x3p hc q
      · exact x3p hc q
theorem x4f : ∀ {names : List (Str × NameKind)} {h : Heap} {acc : List (Str × Addr)} {y : Str} {c : Addr}, (y, c) ∈ cellsFrom h.objs.size names acc -> (y, c) ∈ acc \/ (h.objs.size <= c /\ (pushCells h names).IsCell c none)
  | [], _, _, _, _, m => .inl m
  | (n, k) :: r, h, acc, y, c, m => by
    unfold cellsFrom at m
    unfold pushCells
    split at m
    · rename_i hk
      rw [if_pos hk]
      have m' : (y, c) ∈ cellsFrom (h.push { cls := .type "cell", data := .cell none }).objs.size r ((n, h.objs.size) :: acc) := by rw [Heap.size_push]; exact m
      rcases x4f m' with q | ⟨q1, q2⟩
      · rcases List.mem_cons.mp q with e | q
        · cases e
          refine .inr ⟨Nat.le_refl _, _, pushCells_keeps _ _ _ _ (Heap.get?_push_size _ rfl), rfl⟩
        · exact .inl q
      · rw [Heap.size_push] at q1
        exact .inr ⟨by omega, q2⟩
    · rename_i hk
      rw [if_neg hk]
      exact x4f m
theorem x4x : ∀ {names : List (Str × NameKind)} {n : Nat} {acc : List (Str × Addr)}, (∀ y c, (y, c) ∈ acc -> c < n) -> (∀ x y c, (x, c) ∈ acc -> (y, c) ∈ acc -> x = y) -> ∀ x y c, (x, c) ∈ cellsFrom n names acc -> (y, c) ∈ cellsFrom n names acc -> x = y
  | [], _, _, _, h => h
  | (nm, k) :: r, n, acc, hlt, h => by
    unfold cellsFrom
    split
    · refine x4x (n := n + 1) (acc := (nm, n) :: acc) (fun y c m => ?_) (fun x y c m1 m2 => ?_)
      · rcases List.mem_cons.mp m with e | m
        · cases e; exact Nat.lt_succ_self _
        · exact Nat.lt_succ_of_lt (hlt y c m)
      · rcases List.mem_cons.mp m1 with e1 | m1 <;> rcases List.mem_cons.mp m2 with e2 | m2
        · cases e1; cases e2; rfl
        · cases e1; exact absurd (hlt y _ m2) (Nat.lt_irrefl _)
        · cases e2; exact absurd (hlt x _ m1) (Nat.lt_irrefl _)
        · exact h x y c m1 m2
    · exact x4x hlt h
theorem x4h {lo : Nat} {y : Str} : ∀ {names : List (Str × NameKind)} {n : Nat} {acc : List (Str × Addr)}, lo <= n -> (∀ c, acc.lookup y = some c -> lo <= c) -> ∀ c, (cellsFrom n names acc).lookup y = some c -> lo <= c
  | [], _, _, _, h => h
  | (nm, k) :: r, n, acc, hn, h => by
    unfold cellsFrom
    split
    · refine x4h (n := n + 1) (by omega) fun c e => ?_
      rw [List.lookup_cons] at e
      split at e
      · cases e; exact hn
      · exact h c e
    · exact x4h hn h
theorem x5c {lo : Nat} {y : Str} : ∀ {names : List (Str × NameKind)} {n : Nat} {acc : List (Str × Addr)}, lo <= n -> (y, NameKind.cell) ∈ names -> ∀ c, (cellsFrom n names acc).lookup y = some c -> lo <= c
  | (nm, k) :: r, n, acc, hn, h => by
    unfold cellsFrom
    rcases List.mem_cons.mp h with q | q
    · cases q
      rw [if_pos (by rfl)]
      refine x4h (n := n + 1) (by omega) fun c e => ?_
      rw [List.lookup_cons, beq_self_eq_true] at e
      cases e; exact hn
    · split
      · exact x5c (n := n + 1) (by omega) q
      · exact x5c hn q
theorem x3m {y : Str} : ∀ {names : List (Str × NameKind)} {n : Nat} {acc : List (Str × Addr)}, (y, NameKind.cell) ∉ names -> (cellsFrom n names acc).lookup y = acc.lookup y
  | [], _, _, _ => rfl
  | (nm, k) :: r, n, acc, h => by
    unfold cellsFrom
    split
    · rename_i hk
      rw [x3m (fun z => h (List.mem_cons_of_mem _ z)), List.lookup_cons]
      have hne : (y == nm) = false := by
        cases e : y == nm with
        | false => rfl
        | true =>
          have e1 : y = nm := beq_iff_eq.mp e
          have e2 : k = NameKind.cell := by simpa using hk
          exact absurd (by rw [e1, <- e2]; exact List.mem_cons_self) h
      rw [hne]
    · exact x3m fun z => h (List.mem_cons_of_mem _ z)
noncomputable def y1c (env : Env) (y : Str) (k : NameKind) : NameKind := if (k == NameKind.free && env.scope.kind == .function && env.kindOf y == some .cell) then .cell else k
theorem x43 {env : Env} {y : Str} : ∀ (names : List (Str × NameKind)), (names.map fun (n, k) => if (k == NameKind.free && env.scope.kind == .function && env.kindOf n == some .cell) then (n, NameKind.cell) else (n, k)).lookup y = (names.lookup y).map (y1c env y)
  | [] => rfl
  | (n, k) :: r => by
    have ih := x43 (env := env) (y := y) r
    show List.lookup y ((if (k == NameKind.free && env.scope.kind == .function && env.kindOf n == some .cell) = true then (n, NameKind.cell) else (n, k)) :: _) = _
    cases hx : y == n with
    | true =>
      have e := beq_iff_eq.mp hx
      subst e
      rw [List.lookup_cons, List.lookup_cons]
      by_cases hc : (k == NameKind.free && env.scope.kind == .function && env.kindOf y == some .cell) = true
      · simp only [y1c, hc, if_true, beq_self_eq_true, Option.map_some]
      · simp only [y1c, hc, beq_self_eq_true, Option.map_some]
        simp
    | false =>
      by_cases hc : (k == NameKind.free && env.scope.kind == .function && env.kindOf n == some .cell) = true
      · rw [if_pos hc, List.lookup_cons, List.lookup_cons]; simp only [hx]; exact ih
      · rw [if_neg hc, List.lookup_cons, List.lookup_cons]; simp only [hx]; exact ih
theorem y1n {l : List (Str × NameKind)} (hn : (l.map (·.1)).Nodup) {y : Str} {k : NameKind} (h : (y, k) ∈ l) : l.lookup y = some k := by
  induction l with
  | nil => cases h
  | cons p r ih =>
    rw [List.lookup_cons]
    rcases List.mem_cons.mp h with e | h
    · rw [<- e, beq_self_eq_true]
    · have hne : y ≠ p.1 := fun e => by
        have := (List.nodup_cons.mp hn).1
        exact this (by show p.1 ∈ _; rw [<- e]; exact List.mem_map.mpr ⟨(y, k), h, rfl⟩)
      have : (y == p.1) = false := by simpa using hne
      rw [this]
      exact ih (List.nodup_cons.mp hn).2 h
noncomputable def y66 (scope : Scope) (env : Env) (C : Addr) : Env :=
  { newEnv scope C env.globals (cellsFrom (C + 1) scope.names (x1x env.cells scope.names [])) env.qual none .none (some env) builtinsNs with scope := relabel scope env }
noncomputable def x1o (X : Cx) (N' : List Str) (scope : Scope) (C : Addr) (s : Shared) (H : Hp) (fp : List Addr) : Cx where
  prog := X.prog
  w := X.w
  K := X.K
  mg := X.mg
  base := X.base
  A := X.A
  N := N'
  s₀ := s
  H₀ := H
  env := y66 scope X.env C
  outer := X.stack
  stack := X.stack
  ex := fp
  fn := fun y => scope.names.lookup y == some .cell
  calm := X.calm
  pn := []
  xe := fun _ _ => False
structure CompOk (X : Cx) (k : Nat) (N' : List Str) (scope : Scope) : Prop where
  kind : scope.kind = .function
  names : (scope.names.map (·.1)).Nodup
  len : N'.length = X.N.length + k
  frees : (scope.names.all fun y => y.2 != .free || X.env.kindOf y.1 == some .cell || X.env.kindOf y.1 == some .free) = true
  outs : ((N'.zip X.N).all fun p => (p.1 == p.2 && scope.names.lookup p.1 == some .free) || scope.names.lookup p.1 == none || scope.names.lookup p.1 == some .globalImplicit) = true
theorem CompOk.free {X : Cx} {k : Nat} {N' : List Str} {scope : Scope} (S : CompOk X k N' scope) {y : Str} (h : (y, NameKind.free) ∈ scope.names) : X.env.kindOf y = some .cell \/ X.env.kindOf y = some .free := by
  have := List.all_eq_true.mp S.frees (y, NameKind.free) h
  simp only [Bool.or_eq_true, bne_iff_ne, ne_eq, beq_iff_eq] at this
  rcases this with (h1 | h1) | h1
  · exact absurd trivial h1
  · exact .inl h1
  · exact .inr h1
theorem CompOk.out {X : Cx} {k : Nat} {N' : List Str} {scope : Scope} (S : CompOk X k N' scope) {i : Nat} {y : Str} (hi' : i < X.N.length) (h : N'[i]? = some y) (hv : Vis (relabel scope X.env) y) : X.N[i]? = some y /\ scope.names.lookup y = some .free := by
  have e2 : X.N[i]? = some X.N[i] := by simp [hi']
  have m : (y, X.N[i]) ∈ N'.zip X.N := List.mem_of_getElem? (i := i) (by rw [List.getElem?_zip_eq_some]; exact ⟨h, e2⟩)
  have := List.all_eq_true.mp S.outs _ m
  simp only [Bool.or_eq_true, Bool.and_eq_true, beq_iff_eq] at this
  have hl : (relabel scope X.env).names.lookup y = (scope.names.lookup y).map (y1c X.env y) := x43 _
  rcases this with (⟨h1, h2⟩ | h1) | h1
  · exact ⟨by rw [e2, <- h1], h2⟩
  · rw [h1] at hl
    rcases hv with z | z | z <;> (rw [hl] at z; cases z)
  · rw [h1] at hl
    have hr : y1c X.env y .globalImplicit = .globalImplicit := rfl
    rw [Option.map_some, hr] at hl
    rcases hv with z | z | z <;> (rw [hl] at z; cases z)
theorem Un.updNew {fs ex : List Addr} {P : Program} {w : World} {H H' : Hp} {h h' : Heap} {D : Addr} {o : HO} (u : Un fs ex H H' h h') (hok : HOk P w H h) (hD : h.objs.size <= D) : Un fs ex H (upd H' D o) h h' := by
  have ne : ∀ b ob, h.get? b = some ob -> b ≠ D := fun b ob e z => absurd (Nat.lt_of_lt_of_le (Heap.lt_size e) hD) (by rw [z]; exact Nat.lt_irrefl _)
  have ne' : ∀ b x, H b = some x -> b ≠ D := fun b x e z => absurd (Nat.lt_of_lt_of_le (hok.lt e) hD) (by rw [z]; exact Nat.lt_irrefl _)
  refine ⟨u.keep, u.slot, fun b ob e n hx => ?_, u.there, fun b xs e => ?_, fun b ob x e => ?_, fun b ps e => ?_⟩
  · rw [x0p (ne b ob e)]; exact u.free b ob e n hx
  · rw [x0p (ne' b _ e)]; exact u.tups b xs e
  · rw [x0p (ne' b _ e)]; exact u.frzs b ob x e
  · rw [x0p (ne' b _ e)]; exact u.tbls b ps e
theorem HOk.add {P : Program} {w : World} {H : Hp} {h : Heap} {D : Addr} {o : HO} (x : HOk P w H h) (hn : H D = none) (new : x2d P w (upd H D o) h D o) : HOk P w (upd H D o) h := fun b u e => by
  by_cases hb : b = D
  · subst hb; rw [x26] at e; cases e; exact new
  · rw [x0p hb] at e
    exact (x b u e).stay (fun c v _ q => q) (fun c q => by rw [x0p (x1i q hn)]; exact q) fun c xs q => by rw [x0p (x1i q hn)]; exact q
noncomputable def PTs (X : Cx) (ifs : List Expr) (t : TT) : Prop :=
  ∀ (pins : List (Addr × Obj)) (s : Shared) (σ : St) (H : Hp) (Q : Bool -> Hp -> Prop), Inv X pins σ H s -> t σ H Q ->
    wpAny (model X.prog X.w) X.A (forIn ifs true fun c r => if r = true then do let ok <- isTrue c X.env (eval c X.env); pure (ForInStep.yield ok) else pure (ForInStep.yield r)) (TP X pins σ Q) X.xe s
noncomputable def z9j : TT := fun _ H Q => Q true H
theorem z3d {X : Cx} : PTs X [] z9j := fun pins s σ H Q I h => wpAny_tests_nil ⟨H, I, h⟩
theorem z2y {X : Cx} {c : Expr} {t : TT} (h : PT X c t) : PTs X [c] t := fun pins s σ H Q I q => wpAny_tests_one (h pins s σ H Q I q)
noncomputable def z59 (k : Nat) (g : TG) (tt : TT) (te : TE) (σ : St) (J : It) (H : Hp) (Fin : List V -> Hp -> Prop) : Prop :=
  ∃ W : Nat -> Nat -> List V -> Hp -> Prop, (∃ m, W 0 m [] H) /\ ∀ i m ys H2, W i m ys H2 -> ys.length <= sizeLine /\
    ((J.stop i H2 /\ Fin ys H2) \/ (J.go i H2 /\ ys.length < sizeLine /\ ∀ x H3, J.yld i H2 x H3 -> g x (σ ++ List.replicate k none) H3 fun σ4 H4 => (∃ τ, σ4 = σ ++ τ /\ τ.length = k) /\
      tt σ4 H4 fun b H5 => if b = true then te σ4 H5 fun v H6 => ∃ m', m' < m /\ W (i + 1) m' (ys ++ [v]) H6 else ∃ m', m' < m /\ W (i + 1) m' ys H5))
noncomputable def y9m (k : Nat) (wi : TI) (g : TG) (tt : TT) (te : TE) : TE := fun σ H Q => wi σ H fun J H1 => z59 k g tt te σ J H1 fun ys H2 => ∀ p, H2 p = none -> Q (.ref p) (upd H2 p (.lst ys))
noncomputable def lsO (us : List Value) (n : Nat) : Obj := { cls := .type "list", data := .seq us.toArray n }
theorem z75 {X : Cx} {pins : List (Addr × Obj)} {τ σ : St} {H : Hp} {s : Shared} (I : Inv X pins (σ ++ τ) H s) : Inv X pins (σ ++ List.replicate τ.length none) H s :=
  I.weak (by simp) fun i v e => by
    by_cases hi : i < σ.length
    · rw [List.getElem?_append_left hi] at e ⊢
      exact e
    · rw [List.getElem?_append_right (by omega), List.getElem?_replicate] at e
      split at e <;> cases e
section
variable {X : Cx} {k : Nat} {N' : List Str} {scope : Scope} {pins : List (Addr × Obj)} {σ : St} {H2 : Hp} {s2 : Shared} {fp : List Addr}
noncomputable abbrev x6c (scope : Scope) (s2 : Shared) : Heap := pushCells ((s2.heap.push (lsO [] 0)).push { cls := .type "dict", data := .dict #[] }) scope.names
theorem y8k (S : CompOk X k N' scope) (I2 : Inv X pins σ H2 s2) (f2 : ∀ b ∈ fp, y7f X pins H2 b) (hfp : ∀ b ∈ fp, b < s2.heap.objs.size) :
    Inv (x1o X N' scope (s2.heap.objs.size + 1) s2 H2 fp) [(s2.heap.objs.size, lsO [] 0)] (σ ++ List.replicate k none) H2 { s2 with heap := x6c scope s2 } := by
  have e1 : (s2.heap.push (lsO [] 0)).objs.size = s2.heap.objs.size + 1 := Heap.size_push ..
  have e2 : ((s2.heap.push (lsO [] 0)).push { cls := .type "dict", data := .dict #[] }).objs.size = s2.heap.objs.size + 1 + 1 := by rw [Heap.size_push, e1]
  have keep : ∀ b o, s2.heap.get? b = some o -> (x6c scope s2).get? b = some o := fun b o e => pushCells_keeps _ _ b o (Heap.get?_push_of_some _ (Heap.get?_push_of_some _ e))
  have hsub : ∀ y c, (y, c) ∈ x1x X.env.cells scope.names [] -> X.env.cells.lookup y = some c := x4o (fun _ _ m => nomatch m)
  have cmem : ∀ y c, (y, c) ∈ cellsFrom (s2.heap.objs.size + 1 + 1) scope.names (x1x X.env.cells scope.names []) -> X.env.cells.lookup y = some c \/ (s2.heap.objs.size + 1 + 1 <= c /\ (x6c scope s2).IsCell c none) := fun y c m => by
    have m' : (y, c) ∈ cellsFrom ((s2.heap.push (lsO [] 0)).push { cls := .type "dict", data := .dict #[] }).objs.size scope.names (x1x X.env.cells scope.names []) := by rw [e2]; exact m
    rcases x4f m' with q | ⟨q1, q2⟩
    · exact .inl (hsub y c q)
    · rw [e2] at q1; exact .inr ⟨q1, q2⟩
  have clt : ∀ y c, X.env.cells.lookup y = some c -> c < s2.heap.objs.size := fun y c e => by obtain ⟨v, z⟩ := I2.cell y c e; exact z.lt
  have hl : ∀ y, (relabel scope X.env).names.lookup y = (scope.names.lookup y).map (y1c X.env y) := fun y => x43 _
  have ok : (x1o X N' scope (s2.heap.objs.size + 1) s2 H2 fp).Ok := by
    refine ⟨I2.ok.mod, S.kind, I2.ok.glob, I2.ok.blt, Nat.le_succ _, fun x y c h1 h2 => ?_, fun x hx => ?_, fun x c hf h => ?_, I2.ok.hd, I2.ok.frames, .inl rfl, fun b hb => ⟨?_, fun x c h z => ?_⟩, I2.bs, Nat.le_trans I2.ok.bsz I2.sz, fun b o e hb => ?_, fun b hb z => ?_, I2.stack, I2.stkFree⟩
    · refine x4x (n := s2.heap.objs.size + 1 + 1) (names := scope.names) (acc := x1x X.env.cells scope.names []) (fun y c m => ?_) (fun x y c m1 m2 => ?_) x y c (PySem.mem_of_lookup h1) (PySem.mem_of_lookup h2)
      · exact Nat.lt_of_lt_of_le (clt y c (hsub y c m)) (by omega)
      · exact I2.ok.inj x y c (hsub x c m1) (hsub y c m2)
    · have hx' : (relabel scope X.env).names.lookup x = some .cell \/ (relabel scope X.env).names.lookup x = some .free := hx
      rw [hl x] at hx'
      have : scope.names.lookup x = some .cell \/ scope.names.lookup x = some .free := by
        cases e : scope.names.lookup x with
        | none => rw [e] at hx'; rcases hx' with z | z <;> cases z
        | some kd =>
          rw [e, Option.map_some] at hx'
          cases kd <;> first
            | exact .inl rfl
            | exact .inr rfl
            | (rcases hx' with z | z <;> (have z' := Option.some.inj z; unfold y1c at z'; simp at z'))
      rcases this with q | q
      · exact Option.isSome_iff_exists.mp (PySem.W.cellsFrom_some scope.names (s2.heap.objs.size + 1 + 1) _ (.inl q))
      · have qm := PySem.mem_of_lookup q
        have hk := S.free qm
        obtain ⟨c, hc⟩ := I2.ok.has x hk
        exact Option.isSome_iff_exists.mp (PySem.W.cellsFrom_some scope.names (s2.heap.objs.size + 1 + 1) _ (.inr (x3p hc qm)))
    · have hf' : (scope.names.lookup x == some .cell) = true := hf
      have := x5c (lo := s2.heap.objs.size) (n := s2.heap.objs.size + 1 + 1) (acc := x1x X.env.cells scope.names []) (by omega) (PySem.mem_of_lookup (beq_iff_eq.mp hf')) c h
      exact this
    · have := hfp b hb
      show b ≠ s2.heap.objs.size + 1
      exact Nat.ne_of_lt (Nat.lt_of_lt_of_le this (Nat.le_succ _))
    · have q := hfp b hb
      rcases cmem x c (PySem.mem_of_lookup h) with w | ⟨w, _⟩
      · exact (f2 b hb).2.2.2.2.1 x c w z
      · subst z; exact absurd (Nat.lt_of_lt_of_le q (Nat.le_trans (by omega) w)) (Nat.lt_irrefl _)
    · rcases (f2 b hb).2.2.2.1 with z | z
      · exact I2.ok.noex b o e z
      · have := Heap.lt_size e
        have := I2.ok.bsz
        exact absurd (Nat.lt_of_lt_of_le (Heap.lt_size e) (Nat.le_trans I2.ok.bsz z)) (Nat.lt_irrefl _)
    · rcases List.mem_cons.mp (I2.stkSub b z) with q | q
      · exact (f2 b hb).2.1 q
      · exact (f2 b hb).2.2.1 q
  obtain ⟨m, hn, hloc⟩ := id I2.loc
  refine ⟨ok, rfl, I2.bare, Un.kept keep, ⟨fun _ => none, ?_, fun i y v h1 h2 h3 => ?_⟩, fun y c h => ?_, I2.hok.fresh (Nat.le_succ _), fun y c h => ?_, fun p hp => ?_, I2.hok.kept keep, ?_⟩
  · have := (Heap.Ns.new (s2.heap.push (lsO [] 0)) (.type "dict")).keeps (pushCells_keeps scope.names _)
    rw [e1] at this
    exact this
  · by_cases hi : i < σ.length
    · have h3' : Vis (relabel scope X.env) y := h3
      obtain ⟨o1, o2⟩ := S.out (by rw [<- I2.len]; exact hi) h1 h3'
      have hk := S.free (PySem.mem_of_lookup o2)
      have hs : σ[i]? = some (some v) := by
        rw [List.getElem?_append_left hi] at h2
        exact h2
      obtain ⟨u, r, l⟩ := hloc i y v o1 hs (.inr hk)
      refine ⟨u, r, ?_⟩
      rcases l with ⟨l, _⟩ | ⟨_, c, hc, hcell⟩
      · rcases hk with z | z <;> (rw [l] at z; cases z)
      · refine .inr ⟨?_, c, ?_, hcell.keeps keep⟩
        · show (relabel scope X.env).names.lookup y = some .cell \/ (relabel scope X.env).names.lookup y = some .free
          rw [hl y, o2, Option.map_some]
          unfold y1c
          split
          · exact .inl rfl
          · exact .inr rfl
        · show (cellsFrom (s2.heap.objs.size + 1 + 1) scope.names (x1x X.env.cells scope.names [])).lookup y = some c
          rw [x3m (fun z => by have := y1n S.names z; rw [o2] at this; cases this)]
          obtain ⟨c', hc'⟩ := Option.isSome_iff_exists.mp (x3p (acc := []) hc (PySem.mem_of_lookup o2))
          have := hsub y c' (PySem.mem_of_lookup hc')
          rw [hc] at this; cases this
          exact hc'
    · rw [List.getElem?_append_right (by omega), List.getElem?_replicate] at h2
      split at h2 <;> cases h2
  · rcases cmem y c (PySem.mem_of_lookup h) with w | ⟨_, w⟩
    · obtain ⟨v, z⟩ := I2.cell y c w
      exact ⟨v, z.keeps keep⟩
    · exact ⟨_, w⟩
  · rcases cmem y c (PySem.mem_of_lookup h) with w | ⟨w, _⟩
    · exact I2.freeC y c w
    · exact I2.hok.fresh (by omega)
  · have e : p = (s2.heap.objs.size, lsO [] 0) := by
      have : p ∈ [(s2.heap.objs.size, lsO [] 0)] := hp
      simpa using this
    subst e
    refine ⟨pushCells_keeps _ _ _ _ (Heap.get?_push_of_some _ (Heap.get?_push_size _ rfl)), I2.hok.fresh (Nat.le_refl _), ?_, fun z => ?_, fun v z => nomatch z⟩
    · show s2.heap.objs.size ≠ s2.heap.objs.size + 1
      omega
    · have z' : s2.heap.objs.size ∈ frs X.stack := z
      rcases List.mem_cons.mp (I2.stkSub _ z') with q | q
      · exact absurd I2.lt (by rw [<- q]; exact Nat.lt_irrefl _)
      · exact I2.nofs (Nat.le_refl _) q
  · rw [List.length_append, List.length_replicate, I2.len]
    exact S.len.symm
theorem y9a {us : List Value} {n : Nat} {ys : List V} {H' : Hp} {s' : Shared} {σ' : St} {C : Addr} (I2 : Inv X pins σ H2 s2) (f2 : ∀ b ∈ fp, y7f X pins H2 b)
    (I3 : Inv (x1o X N' scope C s2 H2 fp) [(s2.heap.objs.size, lsO us n)] σ' H' s') (r : x2a ys us) (hz : ys.length <= sizeLine) : Inv X pins σ (upd H' s2.heap.objs.size (.lst ys)) s' := by
  obtain ⟨e, hn, _⟩ := I3.pin (s2.heap.objs.size, lsO us n) (List.mem_append_right _ (List.mem_singleton.mpr rfl))
  have u : Un (frs X.stack) fp H2 H' s2.heap s'.heap := I3.base
  exact I2.call' (ch := fp) I3.os (u.updNew I2.hok (Nat.le_refl _)) (I3.hok.add hn ⟨hz, us, n, r, e⟩) I3.bare fun b hb => ⟨(f2 b hb).2.2.2.1, (f2 b hb).2.1, (f2 b hb).2.2.2.2⟩
end
theorem y3l {X : Cx} {k : Nat} {N' : List Str} {scope : Scope} {pins : List (Addr × Obj)} {σ : St} {H2 : Hp} {s2 : Shared} {fp : List Addr} {elt tg iter : Expr} {ifs : List Expr} {pos : Pos} {it : Addr} {tn : Nat -> Heap -> Prop} {J : It} {g : TG} {tt : TT} {te : TE} {Fin : List V -> Hp -> Prop} {E : Value -> Shared -> Prop} {RR : Value -> Addr -> Result -> Shared -> Prop}
    (hc : X.calm = true) (S : CompOk X k N' scope) (hg : ∀ C s H fp, PG (x1o X N' scope C s H fp) tg g) (ht : ∀ C s H fp, PTs (x1o X N' scope C s H fp) ifs tt) (he : ∀ C s H fp, PE (x1o X N' scope C s H fp) elt te)
    (I2 : Inv X pins σ H2 s2) (T : Turn X.prog X.w X.K tg J fp it tn) (st2 : tn 0 s2.heap) (f2 : ∀ b ∈ fp, y7f X pins H2 b) (R : z59 k g tt te σ J H2 Fin)
    (hRR : ∀ C ys H' s' m', Inv X pins σ (upd H' s2.heap.objs.size (.lst ys)) s' -> s'.heap.Ns C m' -> H' s2.heap.objs.size = none -> upd H' s2.heap.objs.size (.lst ys) C = none -> C ≠ X.env.locals -> X.s₀.heap.objs.size <= C -> s2.heap.objs.size < C ->
      Fin ys H' -> RR (.ref s2.heap.objs.size) C (.ok .next) s') :
    wpAny (model X.prog X.w) X.A (newList []) (fun acc s₃ => wpAny (model X.prog X.w) X.A (newFunctionEnv scope X.env.globals (x1x X.env.cells scope.names []) [] X.env.qual none .none (some X.env)) (fun cenv s₄ =>
      codeAny (model X.prog X.w) X.A (.compStart (.ListComp elt [⟨tg, iter, ifs, 0⟩] scope pos) 0 (.ref it) acc { cenv with scope := relabel scope X.env }) (RR acc cenv.locals) s₄) E s₃) E s2 := by
  refine wpAny_newObj_type (y35 ?_)
  have e1 : (s2.heap.push (lsO [] 0)).objs.size = s2.heap.objs.size + 1 := Heap.size_push ..
  have hfp : ∀ b ∈ fp, b < s2.heap.objs.size := fun b hb => by obtain ⟨o, e, _⟩ := T.obj _ _ st2 b hb; exact Heap.lt_size e
  obtain ⟨W, ⟨m0, w0⟩, turn⟩ := R
  have I3 := y8k S I2 f2 hfp
  have st3 : tn 0 (x6c scope s2) := T.keep _ _ _ st2 fun b hb o e => pushCells_keeps _ _ b o (Heap.get?_push_of_some _ (Heap.get?_push_of_some _ e))
  have hDC : s2.heap.objs.size ≠ s2.heap.objs.size + 1 := by omega
  -- what stays true of the iterator's objects
  have stat : ∀ {H' : Hp} {us : List Value} {n : Nat}, (∀ b ∈ fp, H' b = none) -> ∀ b ∈ fp, y7f (x1o X N' scope (s2.heap.objs.size + 1) s2 H2 fp) [(s2.heap.objs.size, lsO us n)] H' b := fun {H' us n} hn b hb => by
    have q := I3.ok.exf b hb
    refine ⟨hn b hb, q.1, I3.ok.exfs b hb, .inl hb, q.2, fun p hp z => ?_⟩
    have hp' : p ∈ [(s2.heap.objs.size, lsO us n)] := hp
    have e : p = (s2.heap.objs.size, lsO us n) := by simpa using hp'
    subst e
    have := hfp b hb
    have z' : s2.heap.objs.size = b := z
    exact absurd this (by rw [z']; exact Nat.lt_irrefl _)
  have loop : ∀ it', it' = Value.ref it -> codeAny (model X.prog X.w) X.A (.compLoop (.ListComp elt [⟨tg, iter, ifs, 0⟩] scope pos) 0 it' (.ref s2.heap.objs.size) (y66 scope X.env (s2.heap.objs.size + 1))) (RR (.ref s2.heap.objs.size) (s2.heap.objs.size + 1)) { s2 with heap := x6c scope s2 } := by
    rintro _ rfl
    refine y1m (fun n s' => ∃ i ys us cnt H', Inv (x1o X N' scope (s2.heap.objs.size + 1) s2 H2 fp) [(s2.heap.objs.size, lsO us cnt)] (σ ++ List.replicate k none) H' s' /\ tn i s'.heap /\ (∀ b ∈ fp, H' b = none) /\ x2a ys us /\ W i n ys H') ?_ m0
      ⟨0, [], [], 0, H2, I3, st3, fun b hb => (f2 b hb).1, .nil, w0⟩
    rintro n s3 ⟨i, ys, us, cnt, H3, J3, st, fr, r3, w3⟩
    obtain ⟨hz, hw⟩ := turn i n ys H3 w3
    rcases hw with ⟨stop, fin⟩ | ⟨go, hlt, step⟩
    · refine thn (T.done (x1o X N' scope (s2.heap.objs.size + 1) s2 H2 fp) rfl rfl rfl hc i _ s3 _ H3 _ J3 (stat fr) st stop) fun rr s4 ⟨hr, I4⟩ => ?_
      subst hr
      obtain ⟨m', hn', _⟩ := id I4.loc
      obtain ⟨eD, nD, _⟩ := I4.pin (s2.heap.objs.size, lsO us cnt) (List.mem_append_right _ (List.mem_singleton.mpr rfl))
      refine hRR (s2.heap.objs.size + 1) ys H3 s4 m' (y9a I2 f2 I4 r3 hz) hn' nD ?_ ?_ ?_ (Nat.lt_succ_self _) fin
      · rw [x0p (Ne.symm hDC)]; exact I4.free
      · exact Ne.symm (Nat.ne_of_lt (Nat.lt_of_lt_of_le I2.lt (Nat.le_succ _)))
      · have := I2.sz; omega
    · refine thn (T.item (x1o X N' scope (s2.heap.objs.size + 1) s2 H2 fp) rfl rfl rfl hc i _ s3 _ H3 _ J3 (stat fr) st go) fun rr s4 ⟨u, hr, h4⟩ => ?_
      subst hr
      refine thn h4 fun _ s5 hh0 => ?_
      obtain ⟨x, H5, I5, r5, y5, st5, fr5⟩ := hh0
      have I5' := I5.pinned (stat fr5) (T.obj _ _ st5)
      refine thn (hg _ _ _ _ _ s5 _ H5 x u _ I5' r5 (step x H5 y5)) fun _ s6 ⟨σ6, H6, I6, ⟨τ, e6, l6⟩, q6⟩ => ?_
      subst e6
      refine thn (ht _ _ _ _ _ s6 _ H6 _ I6 q6) fun ok s7 hh0 => ?_
      obtain ⟨H7, I7, q7⟩ := hh0
      have kept : ∀ {s' : Shared} {H' : Hp} {σ' : St}, Inv (x1o X N' scope (s2.heap.objs.size + 1) s2 H2 fp) ([(s2.heap.objs.size, lsO us cnt)] ++ x7l fp s5.heap) σ' H' s' -> tn (i + 1) s'.heap /\ ∀ b ∈ fp, H' b = none := fun {s' H' σ'} I' => by
        refine ⟨T.keep _ _ _ st5 fun b hb o e => (I'.pin (b, o) (List.mem_append_right _ (List.mem_append_right _ (x5r hb e)))).1, fun b hb => ?_⟩
        obtain ⟨o, e, d⟩ := T.obj _ _ st5 b hb
        exact (I'.pin (b, o) (List.mem_append_right _ (List.mem_append_right _ (x5r hb e)))).2.1
      cases ok with
      | false =>
        rw [if_neg (by decide)] at q7 ⊢
        obtain ⟨m', hm, w7⟩ := q7
        have := z75 I7.unpinned
        rw [l6] at this
        exact ⟨m', hm, i + 1, ys, us, cnt, H7, this, (kept I7).1, (kept I7).2, r3, w7⟩
      | true =>
        rw [if_pos rfl] at q7 ⊢
        refine thn (he _ _ _ _ _ s7 _ H7 _ I7 q7) fun u8 s8 hh0 => ?_
        obtain ⟨v, H8, I8, r8, m', hm, w8⟩ := hh0
        obtain ⟨eD, nD, neD, nfD, dD⟩ := I8.pin (s2.heap.objs.size, lsO us cnt) (List.mem_append_right _ (List.mem_append_left _ (List.mem_singleton.mpr rfl)))
        refine append_at eD (fun h9 hs9 hD9 => ?_) (hsz := by rw [List.size_toArray, <- r3.length]; exact Nat.le_of_lt hlt)
        have Ia := I8.pins_of (pins' := x7l fp s5.heap) fun p hp => I8.pin p (List.mem_append_right _ (List.mem_append_right _ hp))
        have nfp : ∀ p ∈ x7l fp s5.heap, p.1 ≠ s2.heap.objs.size := fun p hp z => by
          have := hfp p.1 (y1o hp).1
          exact absurd this (by rw [z]; exact Nat.lt_irrefl _)
        have Ib := Ia.turned (h' := h9) (t' := s8.toks) (it := s2.heap.objs.size) (fun b o hb e => hs9.extBut b o hb e) nD neD (.inr (Nat.le_refl _)) (fun y c h z => by
            obtain ⟨vv, o, ho, hd⟩ := I8.cell y c h
            rw [z, eD] at ho
            cases ho
            cases hd) (fun p hp => nfp p (by
            have hp' : p ∈ [] ++ x7l fp s5.heap := hp
            simpa using hp'))
        have Ic := Ib.pins_of (pins' := [(s2.heap.objs.size, lsO (us ++ [u8]) (cnt + 1))]) fun p hp => by
          have e : p = (s2.heap.objs.size, lsO (us ++ [u8]) (cnt + 1)) := by simpa using hp
          subst e
          refine ⟨?_, nD, neD, nfD, fun v z => nomatch z⟩
          show h9.get? s2.heap.objs.size = _
          rw [hD9]
          unfold lsO
          simp
        have Id := z75 Ic
        rw [l6] at Id
        have kp := kept I8
        refine ⟨m', hm, i + 1, ys ++ [v], us ++ [u8], cnt + 1, H8, Id, T.keep _ _ _ kp.1 fun b hb o e => hs9.extBut b o (fun z => by
          have := hfp b hb
          have z' : b = s2.heap.objs.size := z
          exact absurd this (by rw [z']; exact Nat.lt_irrefl _)) e, kp.2, x2a.append r3 (.cons r8 .nil), w8⟩
  have hC : (s2.heap.push { cls := .type "list", dict := none, data := .seq ([] : List Value).toArray }).objs.size = s2.heap.objs.size + 1 := Heap.size_push ..
  have fin := codeAny_compStart_list (loop _ rfl) (T.self X.A 0 _ _ _ st3 (loop _ rfl))
  dsimp only at fin ⊢
  rw [hC]
  exact fin
theorem CompOk.locs {X : Cx} {k : Nat} {N' : List Str} {scope : Scope} (S : CompOk X k N' scope) : ∀ y ∈ scope.names, y.2 = .local -> scope.names.lookup y.1 = some .local := fun y hy e => by
  obtain ⟨n, kd⟩ := y
  have e' : kd = .local := e
  subst e'
  exact y1n S.names hy
theorem x7b {h : Heap} {C c : Addr} {m : Str -> Option Value} {v : Option Value} (hn : h.Ns C m) (hc : h.IsCell c v) : c ≠ C := fun z => by
  obtain ⟨o, es, ep, ho, hd, _⟩ := hn
  obtain ⟨o', ho', hd'⟩ := hc
  rw [z, ho] at ho'
  cases ho'
  rw [hd] at hd'
  cases hd'
section
variable {X : Cx} {k : Nat} {N' : List Str} {scope : Scope} {elt tg iter : Expr} {ifs : List Expr} {pos : Pos} {wi : TI} {g : TG} {tt : TT} {te : TE}
theorem z22 (hc : X.calm = true) (S : CompOk X k N' scope) (hi : PI X tg iter wi) (hg : ∀ C s H fp, PG (x1o X N' scope C s H fp) tg g) (ht : ∀ C s H fp, PTs (x1o X N' scope C s H fp) ifs tt) (he : ∀ C s H fp, PE (x1o X N' scope C s H fp) elt te)
    (hs : ∀ x, foldedSetIterable iter X.env x = pure x := by intro _; rfl) : PE X (.ListComp elt [⟨tg, iter, ifs, 0⟩] scope pos) (y9m k wi g tt te) := by
  intro pins s σ H Q I h
  rw [eval_ListComp]
  refine wpAny_comprehension_free (use := none) rfl hs (x6v fun y hy e => ?_) S.kind S.locs (thn (hi pins s σ H _ I h) fun v s1 h1 => thn h1 fun itv s2 h2 => ?_)
  · obtain ⟨n, kd⟩ := y
    have e' : kd = .free := e
    subst e'
    exact I.ok.has n (S.free hy)
  · obtain ⟨it, fp, tn, J, H2, e, I2, T, st2, f2, R⟩ := h2
    subst e
    refine y3l hc S hg ht he I2 T st2 f2 R ?_
    intro C ys H' s' m' I' hn hD hCn hCL hCs hCD fin
    refine ⟨m', hn, fun h' hs' => ⟨.ref s2.heap.objs.size, _, I'.turned (h' := h') (t' := s'.toks) (it := C) (fun b o hb e => hs'.extBut b o hb e) hCn hCL (.inr hCs) (fun x c h => ?_) (fun p hp z => ?_), rfl, fin _ hD⟩⟩
    · obtain ⟨v, q⟩ := I'.cell x c h
      exact x7b hn q
    · have := Heap.lt_size (I2.pin p hp).1
      exact absurd (Nat.lt_trans this hCD) (by rw [z]; exact Nat.lt_irrefl _)
theorem z3c {i : Nat} {y : Str} {py spos : Pos} (hN : X.N.Nodup) (hy : X.N[i]? = some y) (hx : Loc X.env.scope y) (hsw : swapsWith (.ListComp elt [⟨tg, iter, ifs, 0⟩] scope pos) (some (.Name y py)) spos.line X.env = pure true)
    (hc : X.calm = true) (S : CompOk X k N' scope) (hi : PI X tg iter wi) (hg : ∀ C s H fp, PG (x1o X N' scope C s H fp) tg g) (ht : ∀ C s H fp, PTs (x1o X N' scope C s H fp) ifs tt) (he : ∀ C s H fp, PE (x1o X N' scope C s H fp) elt te)
    (hs : ∀ x, foldedSetIterable iter X.env x = pure x := by intro _; rfl) (hf : X.fn y = true \/ X.env.scope.names.lookup y = some .local := by first | exact .inl rfl | exact .inr rfl | assumption) :
    PS X (.Assign [.Name y py] (.ListComp elt [⟨tg, iter, ifs, 0⟩] scope pos) spos) (z7j (y9m k wi g tt te) (z28 i)) := by
  intro pins s σ H D I h
  rw [exec_Assign_Name_used _ _ _ _ hsw]
  refine wpAny_bind (wpAny_standAt (wpAny_bind ?_))
  show wpAny _ X.A (do let _ <- comprehension (.ListComp elt [⟨tg, iter, ifs, 0⟩] scope pos) scope X.env _ (newList []) false (eval iter X.env) (some (assign (.Name y py) X.env))) _ _ s
  refine wpAny_bind (wpAny_mono (wpAny_comprehension_free (use := some (assign (.Name y py) X.env)) (Q := fun _ s' => SP X pins D .next s') rfl hs (x6v fun z hz e => ?_) S.kind S.locs
    (thn (hi pins s σ H _ I h) fun v s1 h1 => thn h1 fun itv s2 h2 => ?_)) (fun _ s' hq => wpAny_pure (wpAny_pure hq)) fun _ _ e => e)
  · obtain ⟨n, kd⟩ := z
    have e' : kd = .free := e
    subst e'
    exact I.ok.has n (S.free hz)
  · obtain ⟨it, fp, tn, J, H2, e, I2, T, st2, f2, R⟩ := h2
    subst e
    refine y3l hc S hg ht he I2 T st2 f2 R ?_
    intro C ys H' s' m' I' hn hD hCn hCL hCs hCD fin
    show wpAny _ X.A (assign (.Name y py) X.env (.ref s2.heap.objs.size)) _ _ _
    refine wpAny_assign_Name (y1g I' hN hy hx (v := .ref s2.heap.objs.size) rfl (fun s'' I'' ⟨a, sb, ha⟩ => ?_) hf)
    have hCa : C ≠ a := fun z => by
      rcases ha with q | q
      · exact hCL (z.trans q)
      · obtain ⟨v, w⟩ := I'.cell y a q
        exact x7b hn w z.symm
    have hn2 := hn.sameBut sb hCa
    refine ⟨m', hn2, fun h' hs' => ⟨_, _, I''.turned (h' := h') (t' := s''.toks) (it := C) (fun b o hb e => hs'.extBut b o hb e) hCn hCL (.inr hCs) (fun x c h => ?_) (fun p hp z => ?_), fin _ hD⟩⟩
    · obtain ⟨v, q⟩ := I''.cell x c h
      exact x7b hn2 q
    · have := Heap.lt_size (I2.pin p hp).1
      exact absurd (Nat.lt_trans this hCD) (by rw [z]; exact Nat.lt_irrefl _)
end
end L2
namespace L3
open PySem PySem.Spec PyProof.Rows PySem.W L2
section
variable {prog : Program} {w : World} {A : Around} {E : Value -> Shared -> Prop} {s : Shared} {K : Frag} {x C : Addr} {ox : Obj}
structure XAt (h : Heap) (x : Addr) (ox : Obj) (C : Addr) : Prop where
  at_ : h.get? x = some ox
  cls : ox.cls = .ref C
theorem XAt.type {M : Model} {h : Heap} (I : XAt h x ox C) : Looks M h (typeOf (.ref x)) (.ref C) := I.cls ▸ (Looks.ld I.at_).andThen .now
structure XCls (K : Frag) (C : Addr) : Prop where
  ci : (clsIn K C).isSome = true
  ga : findIn K (.ref C) "__getattribute__" = some (some (.builtin "BaseException.__getattribute__"))
  gt : findIn K (.ref C) "__getattr__" = some none
  cl : findIn K (.ref C) "__class__" = some (some (.builtin "object.__class__"))
  cg : specialIn K (.builtin "object.__class__") "__get__" = some (some (.builtin "getset_descriptor.__get__"))
  ct : takesIn K (.builtin "object.__class__") = some true
  mo : mroIn K C (.type "object") = some true
  mb : mroIn K C (.type "BaseException") = some true
theorem z3p {M : Model} {h : Heap} (X : K.In h) (I : XAt h x ox C) (XC : XCls K C) : Looks M h (Builtin.ObjectAttr.find (.ref x) (.ref C) "__class__") (.bind (.builtin "getset_descriptor.__get__") (.builtin "object.__class__")) := by
  have L1 := looks_findIn (M := M) X XC.cl
  have L2 : Looks M h (Builtin.ObjectAttr.getOf (some (.builtin "object.__class__"))) _ := looks_specialIn (M := M) X XC.cg
  have L3 := looks_takesIn (M := M) X XC.ct
  exact L1.andThen (L2.andThen ((show Looks M h (Builtin.ObjectAttr.dataDescriptor? (some (.builtin "object.__class__")) (some (.builtin "getset_descriptor.__get__"))) (some ((.builtin "getset_descriptor.__get__"), (.builtin "object.__class__"))) from L3.andThen .now).andThen (Looks.tag .now)))
theorem y31 {tp : Value} {R : Result -> Shared -> Prop} (X : K.In s.heap) (I : XAt s.heap x ox C) (hm : mroIn K C (.type "object") = some true)
    (h : R (.ok (.ret (.ref C))) s) : codeAny (model prog w) A (.call (.builtin "getset_descriptor.__get__") ⟨[.builtin "object.__class__", .ref x, tp], []⟩) R s := by
  obtain ⟨hh, g, dr, t, os⟩ := s
  have L0 := I.type (M := model prog w)
  have L1 := looks_mroIn (M := model prog w) X hm
  refine codeAny_call_builtin KF.slot_gs.plain KF.entry_gs (KF.slot_gs.check _ _ _ _ _ _ _ _ KF.type_class (KF.args_gs _ _ _) ?_)
  unfold Builtin.«getset_descriptor.__get__» Builtin.Getset_descriptor.descrGet
  rw [dga_obj]
  refine wpAny_bind (wpAny_pure ?_)
  unfold Builtin.Getset_descriptor.descrGetter Builtin.Getset_descriptor.descrCheckInstance Builtin.Getset_descriptor.descrNameAndClass isInstance
  simp only [KF.owner_class]
  repeat lk
  refine ⟨Code.quiet_builtin _ (by decide +kernel), codeAny_builtin KF.entry_class ?_⟩
  unfold Builtin.«object.__class__» shownTypeOf
  repeat lk
  exact h
theorem y81 {M : Model} {nameV : Value} {Q : Unit -> Shared -> Prop} (X : K.In s.heap) (I : XAt s.heap x ox C) (XC : XCls K C) (hq : Q () s) : wpAny M A (checkBuiltinCall "BaseException.__getattribute__" ⟨[.ref x, nameV], []⟩) Q E s := by
  obtain ⟨hh, g, d, t, os⟩ := s
  have L0 := I.type (M := M)
  have L1 := looks_mroIn (M := M) X XC.mb
  have hk : builtinKind "BaseException.__getattribute__" = some .slot := by decide +kernel
  have hsplit : splitId "BaseException.__getattribute__" = some ("BaseException", "__getattribute__") := by decide +kernel
  have ha := PySem.F.args_bexc_ga (.ref x) nameV
  simp only [checkBuiltinCall, hk, hsplit]
  unfold isInstance
  repeat lk
  exact hq
theorem z86 {tk : Tok} {R : Result -> Shared -> Prop} (X : K.In s.heap) (I : XAt s.heap x ox C) (XC : XCls K C) (h : R (.ok (.ret (.ref C))) s) :
    codeAny (model prog w) A (.call (.builtin "BaseException.__getattribute__") ⟨[.ref x, .str "__class__" tk], []⟩) R s := by
  refine codeAny_call_builtin PySem.F.excAttr_ValueError.ga.plain PySem.F.entry_bexc_ga (y81 X I XC ?_)
  obtain ⟨hh, g, d, t, os⟩ := s
  have L0 := I.type (M := model prog w)
  have L1 := z3p (M := model prog w) X I XC
  show wpAny _ _ (Builtin.«object.__getattribute__» ⟨[.ref x, .str "__class__" tk], []⟩) _ _ _
  refine wpAny_bind (wpAny_pure ?_)
  refine wpAny_bind (wpAny_pure ?_)
  refine wpAny_bind (L0.at (wpAny_bind (L1.at ?_)))
  show wpAny _ _ (holding [.builtin "object.__class__"] (call (.builtin "getset_descriptor.__get__") [.builtin "object.__class__", .ref x, .ref C]) >>= ret) _ _ _
  exact wpAny_bind (wpAny_holding (wpAny_call (y31 X I XC.mo (wpAny_pure h))))
theorem y8u {Q : Option Value -> Shared -> Prop} (X : K.In s.heap) (I : XAt s.heap x ox C) (XC : XCls K C) (h : Q (some (.ref C)) { s with toks := s.toks + 1 }) : wpAny (model prog w) A (getAttr? (.ref x) "__class__") Q E s := by
  obtain ⟨hh, g, d, t, os⟩ := s
  have L0 := I.type (M := model prog w)
  have L1 := looks_findIn (M := model prog w) X XC.ga
  have L2 := looks_findIn (M := model prog w) X XC.gt
  have f3 := PySem.F.excAttr_ValueError.ga.bind (.ref x)
  unfold getAttr? getAttrBy? getAttrBy
  refine wpAny_bind (wpAny_mkText (wpAny_bind (wpAny_attempt (wpAny_holding (wpAny_bind (L0.at (wpAny_bind (L1.at ?_))))))))
  show wpAny _ _ (getAttrByItsOwn _ _ _ _ _ _) _ _ _
  unfold getAttrByItsOwn
  refine wpAny_bind (L2.at ?_)
  refine wpAny_bind (wpAny_attempt (wpAny_holding ?_))
  show wpAny _ _ (boundAndCalled _ _ _) _ _ _
  unfold boundAndCalled
  rw [f3]
  refine wpAny_bind (wpAny_pure ?_)
  show wpAny _ _ (call (.builtin "BaseException.__getattribute__") [.ref x, .str "__class__" t]) _ _ _
  refine wpAny_call (z86 (s := ⟨hh, g, d, t + 1, os⟩) X I XC ?_)
  exact handed_on rfl (wpAny_pure h)
theorem x5b {M : Model} {h : Heap} {D : Addr} (X : K.In h) (e : (clsIn K D).isSome = true) : Looks M h (isType (.ref D)) true := by
  unfold clsIn at e
  split at e
  · rename_i c' d' cd' sl' ho
    intro A' Q' E' s' k q
    unfold isType loadHead
    exact wpAny_bind (wpAny_loadPart (k _ _ (X _ _ ho)) (wpAny_pure q))
  · cases e
theorem y1b {c : Value} {dep : Int} {tk : Tok} {Q : Fin -> Shared -> Prop} (X : K.In s.heap) (I : XAt s.heap x ox C) (XC : XCls K C) (hty : Looks (model prog w) s.heap (typeOf c) (.type "type")) (his : Looks (model prog w) s.heap (isType c) true)
    (hne : (Value.ref C == c) = false) (hsub : Looks (model prog w) s.heap (isSubtype (.ref C) c) false) (h : Q (.done (.ret (.bool false))) { s with toks := s.toks + 1 }) :
    wpAny (model prog w) A (Builtin.«isinstance.nested» ⟨[.ref x, c, .int dep tk], []⟩) Q E s := by
  have hisD := x5b (M := model prog w) X XC.ci
  obtain ⟨h0, g, d, tt, os⟩ := s
  have L0 := I.type (M := model prog w)
  have LI : Looks (model prog w) h0 (isInstance (.ref x) c) false := L0.andThen hsub
  unfold Builtin.«isinstance.nested»
  refine wpAny_bind (L0.at ?_)
  rw [if_neg (fun q => by rw [hne] at q; exact Bool.noConfusion q)]
  refine wpAny_bind (hty.at ?_)
  rw [if_pos (by decide)]
  k_delta "plainIsInstance"
  refine wpAny_bind (wpAny_bind (his.at ?_))
  simp only [Bool.not_true, Bool.false_eq_true, if_false]
  refine wpAny_bind (LI.at ?_)
  simp only [Bool.false_eq_true, if_false]
  refine wpAny_bind (y8u X I XC ?_)
  refine wpAny_bind (hisD.at ?_)
  simp only [Bool.not_true, Bool.false_eq_true, if_false]
  refine wpAny_bind (wpAny_rule ?_)
  refine hsub.at ?_
  first
    | exact wpAny_pure h
    | exact wpAny_pure (wpAny_pure h)
    | exact wpAny_bind (wpAny_pure (wpAny_pure h))
theorem z89 {D : Addr} {Q : Value -> Shared -> Prop} (X : K.In s.heap) (I : XAt s.heap x ox C) (XC : XCls K C) (e : kin_not K C D = true) (h : Q (.bool false) { s with toks := s.toks + 1 }) : wpAny (model prog w) A (call (.builtin "isinstance") [.ref x, .ref D]) Q E s := by
  unfold kin_not at e
  rw [Bool.and_eq_true, Bool.and_eq_true, Bool.and_eq_true] at e
  obtain ⟨⟨⟨e0, e1⟩, e2⟩, e3⟩ := e
  have hne : (Value.ref C == Value.ref D) = false := Bool.eq_false_iff.mpr fun q => of_decide_eq_true e0 (Value.ref.inj (beq_iff_eq.mp q))
  exact call_isinstance (S := fun _ R s => (K.In s.heap /\ XAt s.heap x ox C) /\ R (.ok (.ret (.bool false))) { s with toks := s.toks + 1 })
    (fun _ _ _ _ _ hs => isinstance_outer (y1b hs.1.1 hs.1.2 XC (looks_typeIn hs.1.1 (beq_iff_eq.mp e2)) (x5b hs.1.1 e1) hne (looks_subIn hs.1.1 (beq_iff_eq.mp e3)) hs.2) (by intro q; cases q)) ⟨⟨X, I⟩, h⟩
theorem z56 {D : Addr} {Q : Value -> Shared -> Prop} (X : K.In s.heap) (I : XAt s.heap x ox C) (e : isIn K (.ref C) D = true) (h : Q (.bool true) s) : wpAny (model prog w) A (call (.builtin "isinstance") [.ref x, .ref D]) Q E s :=
  isi_call X (fun M => I.type) e (by intro q; cases q) h
theorem z30 {T : String} {Q : Value -> Shared -> Prop} (X : K.In s.heap) (I : XAt s.heap x ox C) (hty : typeOf (.type T) = pure (.type "type")) (e : subIn K (.ref C) (.type T) = some true) (h : Q (.bool true) s) : wpAny (model prog w) A (call (.builtin "isinstance") [.ref x, .type T]) Q E s :=
  call_isinstance (S := fun _ R s => (K.In s.heap /\ XAt s.heap x ox C) /\ R (.ok (.ret (.bool true))) s) (fun prog w A R s hs => isinstance_outer (by
    obtain ⟨⟨X, I⟩, h⟩ := hs
    obtain ⟨h0, g, d, tt, os⟩ := s
    have L0 := I.type (M := model prog w)
    have LI : Looks (model prog w) h0 (isInstance (.ref x) (.type T)) true := L0.andThen (looks_subIn X e)
    have hT : Looks (model prog w) h0 (typeOf (.type T)) (.type "type") := Looks.of_pure hty
    have hI : Looks (model prog w) h0 (isType (.type T)) true := Looks.of_pure rfl
    unfold Builtin.«isinstance.nested»
    refine wpAny_bind (L0.at ?_)
    rw [if_neg (fun q => by cases beq_iff_eq.mp q)]
    refine wpAny_bind (hT.at ?_)
    rw [if_pos (by decide)]
    k_delta "plainIsInstance"
    refine wpAny_bind (wpAny_bind (hI.at ?_))
    simp only [Bool.not_true, Bool.false_eq_true, if_false]
    refine wpAny_bind (LI.at ?_)
    simp only [if_true]
    exact wpAny_pure (wpAny_pure h)) (by intro q; cases q)) ⟨⟨X, I⟩, h⟩
theorem z6d {T : String} {Q : Value -> Shared -> Prop} (X : K.In s.heap) (I : XAt s.heap x ox C) (XC : XCls K C) (hty : typeOf (.type T) = pure (.type "type")) (e : subIn K (.ref C) (.type T) = some false) (h : Q (.bool false) { s with toks := s.toks + 1 }) : wpAny (model prog w) A (call (.builtin "isinstance") [.ref x, .type T]) Q E s :=
  call_isinstance (S := fun _ R s => (K.In s.heap /\ XAt s.heap x ox C) /\ R (.ok (.ret (.bool false))) { s with toks := s.toks + 1 })
    (fun _ _ _ _ _ hs => isinstance_outer (y1b hs.1.1 hs.1.2 XC (Looks.of_pure hty) (Looks.of_pure rfl) (Bool.eq_false_iff.mpr fun q => by cases beq_iff_eq.mp q) (looks_subIn hs.1.1 e) hs.2) (by intro q; cases q)) ⟨⟨X, I⟩, h⟩
end
def bmV : List Value := [.type "ValueError", .type "Exception", .type "BaseException", .type "object"]
structure XKls (K : Frag) (nm : Str) (C : Addr) : Prop where
  ns : nsIn K mainGlobals nm = some (some (.ref C))
  xc : XCls K C
  ex : excIn K C bmV "ValueError.__new__" = true
  ve : subIn K (.ref C) (.type "ValueError") = some true
  no : ∀ T ∈ ["int", "bool", "tuple", "list", "str"], subIn K (.ref C) (.type T) = some false
noncomputable def XO (K : Frag) (nm : Str) (ob : Obj) : Prop := ∃ C, ob.cls = .ref C /\ XKls K nm C
end L3
namespace L3
open PySem PySem.Spec PyProof.Rows L2
inductive D where
  | non | bl (b : Bool) | int (i : Int) | str (x : Str) | tup (ds : List D) | lst (ds : List D)
  /-- a dict that is not changed, its keys texts -/
  | dic (ks : List Str) (ds : List D)
  /-- an exception, by its class's name -/
  | exc (nm : Str)
noncomputable abbrev St := L2.St
inductive Ow where
  | s (i : Nat) | t (i : Nat) | f
  deriving DecidableEq
noncomputable abbrev Wn := Addr -> Option Ow
noncomputable def KL (K : PySem.W.Frag) (a : Addr) (xs : List V) : Prop :=
  ∃ (o : Obj) (its : Array Value) (n : Nat), K.lookup a = some o /\ o.cls = .type "list" /\ o.dict = none /\ o.data = .seq its n /\ its.size <= sizeLine /\ x2a xs its.toList
theorem SqL.cases {K : PySem.W.Frag} {H : Hp} {a : Addr} {xs : List V} (h : SqL K H a xs) : Rd H a (.lst xs) \/ KL K a xs := h
theorem KL.sq {K : PySem.W.Frag} {H : Hp} {a : Addr} {xs : List V} (h : KL K a xs) : SqL K H a xs := .inr h
noncomputable def kvL (ks : List Str) (vs : List V) : List (Key × V) := (ks.map fun x => (Sum.inr x : Key)).zip vs
mutual
/-- q: how deep the lists are owned -/
inductive Rep (K : PySem.W.Frag) (H : Hp) (w : Wn) (o : Ow) : Nat -> D -> V -> List Addr -> Prop
  | non {q} : Rep K H w o q .non .non []
  | bl {q} (b : Bool) : Rep K H w o q (.bl b) (.bl b) []
  | int {q} (i : Int) : Rep K H w o q (.int i) (.int i) []
  | str {q} (x : Str) : Rep K H w o q (.str x) (.str x) []
  | tup {q} {a : Addr} {vs : List V} {ds : List D} : H a = some (.tup vs) -> Reps K H w o 0 ds vs [] -> Rep K H w o q (.tup ds) (.ref a) []
  | dic {q} {a : Addr} {ks : List Str} {vs : List V} {ds : List D} : H a = some (.dK (kvL ks vs)) -> Reps K H w o 0 ds vs [] -> Rep K H w o q (.dic ks ds) (.ref a) []
  | exc {q} {a : Addr} {nm : Str} {ob : Obj} {u : HO} : H a = some (.frz ob u) -> XO K nm ob -> (∀ xs, u ≠ .lst xs) -> Rep K H w o q (.exc nm) (.ref a) []
  | kl {a : Addr} {vs : List V} {ds : List D} : KL K a vs -> Reps K H w o 0 ds vs [] -> Rep K H w o 0 (.lst ds) (.ref a) []
  | shr {a : Addr} {vs : List V} {ds : List D} : Rd H a (.lst vs) -> w a = none -> Reps K H w o 0 ds vs [] -> Rep K H w o 0 (.lst ds) (.ref a) []
  | own {q} {a : Addr} {vs : List V} {ds : List D} {F : List Addr} : H a = some (.lst vs) -> w a = some o -> Reps K H w o q ds vs F -> a ∉ F -> Rep K H w o (q + 1) (.lst ds) (.ref a) (a :: F)
inductive Reps (K : PySem.W.Frag) (H : Hp) (w : Wn) (o : Ow) : Nat -> List D -> List V -> List Addr -> Prop
  | nil {q} : Reps K H w o q [] [] []
  | cons {q} {d : D} {v : V} {ds : List D} {vs : List V} {F G : List Addr} : Rep K H w o q d v F -> Reps K H w o q ds vs G -> (∀ a ∈ F, a ∉ G) -> Reps K H w o q (d :: ds) (v :: vs) (F ++ G)
end
noncomputable def WL (w : Wn) (H : Hp) : Prop := ∀ a o, w a = some o -> ∃ vs, H a = some (.lst vs)
noncomputable def x7w (H : Hp) (w : Wn) (H' : Hp) (w' : Wn) : Prop := ∀ a x, H a = some x -> w a = none -> H' a = some x /\ w' a = none
theorem WL.rdT {w : Wn} {H : Hp} (wl : WL w H) {a : Addr} {x : HO} (e : H a = some x) (h : ∀ vs, x ≠ .lst vs) : w a = none := by
  cases q : w a with
  | none => rfl
  | some o =>
    obtain ⟨vs, e'⟩ := wl a o q
    rw [e] at e'
    exact absurd (Option.some.inj e') (h vs)
theorem SqT.go {K : PySem.W.Frag} {H H' : Hp} {w w' : Wn} (wl : WL w H) (st : x7w H w H' w') {a : Addr} {vs : List V} (h : SqT K H a vs) : SqT K H' a vs := by
  rcases h with (h | ⟨o, h⟩) | h
  · exact .inl (.inl (st a _ h (wl.rdT h (fun _ z => nomatch z))).1)
  · exact .inl (.inr ⟨o, (st a _ h (wl.rdT h (fun _ z => nomatch z))).1⟩)
  · exact .inr h
theorem RdL.go {H H' : Hp} {w w' : Wn} (st : x7w H w H' w') {a : Addr} {vs : List V} (n : w a = none) (h : Rd H a (.lst vs)) : Rd H' a (.lst vs) /\ w' a = none := by
  rcases h with h | ⟨o, h⟩
  · exact ⟨.inl (st a _ h n).1, (st a _ h n).2⟩
  · exact ⟨.inr ⟨o, (st a _ h n).1⟩, (st a _ h n).2⟩
theorem Rep.go {K : PySem.W.Frag} {H H' : Hp} {w w' : Wn} {o o' : Ow} (wl : WL w H) (st : x7w H w H' w') : ∀ {q : Nat} {d : D} {v : V} {F : List Addr}, Rep K H w o q d v F -> (∀ a ∈ F, H' a = H a /\ w' a = some o') -> Rep K H' w' o' q d v F := by
  intro q d v F r
  refine Rep.rec (motive_1 := fun q d v F _ => (∀ a ∈ F, H' a = H a /\ w' a = some o') -> Rep K H' w' o' q d v F) (motive_2 := fun q ds vs F _ => (∀ a ∈ F, H' a = H a /\ w' a = some o') -> Reps K H' w' o' q ds vs F) ?_ ?_ ?_ ?_ ?_ ?_ ?_ ?_ ?_ ?_ ?_ ?_ r
  · intro q _; exact .non
  · intro q b _; exact .bl b
  · intro q i _; exact .int i
  · intro q x _; exact .str x
  · intro q a vs ds h r ih _; exact .tup (st _ _ h (wl.rdT h (fun _ z => by cases z))).1 (ih (fun _ z => (List.not_mem_nil z).elim))
  · intro q a ks vs ds h r ih _; exact .dic (st _ _ h (wl.rdT h (fun _ z => by cases z))).1 (ih (fun _ z => (List.not_mem_nil z).elim))
  · intro q a nm ob u h x n _; exact .exc (st _ _ h (wl.rdT h (fun _ z => by cases z))).1 x n
  · intro a vs ds h r ih _; exact .kl h (ih (fun _ z => (List.not_mem_nil z).elim))
  · intro a vs ds h n r ih _; exact .shr (RdL.go st n h).1 (RdL.go st n h).2 (ih (fun _ z => (List.not_mem_nil z).elim))
  · intro q a vs ds F h e r ne ih k; exact .own ((k _ List.mem_cons_self).1.trans h) (k _ List.mem_cons_self).2 (ih fun a m => k a (List.mem_cons_of_mem _ m)) ne
  · intro q _; exact .nil
  · intro q d v ds vs F G r s ne ih1 ih2 k; exact .cons (ih1 fun a m => k a (List.mem_append_left _ m)) (ih2 fun a m => k a (List.mem_append_right _ m)) ne
theorem Reps.go {K : PySem.W.Frag} {H H' : Hp} {w w' : Wn} {o o' : Ow} (wl : WL w H) (st : x7w H w H' w') : ∀ {q : Nat} {ds : List D} {vs : List V} {F : List Addr}, Reps K H w o q ds vs F -> (∀ a ∈ F, H' a = H a /\ w' a = some o') -> Reps K H' w' o' q ds vs F := by
  intro q ds vs F r
  refine Reps.rec (motive_1 := fun q d v F _ => (∀ a ∈ F, H' a = H a /\ w' a = some o') -> Rep K H' w' o' q d v F) (motive_2 := fun q ds vs F _ => (∀ a ∈ F, H' a = H a /\ w' a = some o') -> Reps K H' w' o' q ds vs F) ?_ ?_ ?_ ?_ ?_ ?_ ?_ ?_ ?_ ?_ ?_ ?_ r
  · intro q _; exact .non
  · intro q b _; exact .bl b
  · intro q i _; exact .int i
  · intro q x _; exact .str x
  · intro q a vs ds h r ih _; exact .tup (st _ _ h (wl.rdT h (fun _ z => by cases z))).1 (ih (fun _ z => (List.not_mem_nil z).elim))
  · intro q a ks vs ds h r ih _; exact .dic (st _ _ h (wl.rdT h (fun _ z => by cases z))).1 (ih (fun _ z => (List.not_mem_nil z).elim))
  · intro q a nm ob u h x n _; exact .exc (st _ _ h (wl.rdT h (fun _ z => by cases z))).1 x n
  · intro a vs ds h r ih _; exact .kl h (ih (fun _ z => (List.not_mem_nil z).elim))
  · intro a vs ds h n r ih _; exact .shr (RdL.go st n h).1 (RdL.go st n h).2 (ih (fun _ z => (List.not_mem_nil z).elim))
  · intro q a vs ds F h e r ne ih k; exact .own ((k _ List.mem_cons_self).1.trans h) (k _ List.mem_cons_self).2 (ih fun a m => k a (List.mem_cons_of_mem _ m)) ne
  · intro q _; exact .nil
  · intro q d v ds vs F G r s ne ih1 ih2 k; exact .cons (ih1 fun a m => k a (List.mem_append_left _ m)) (ih2 fun a m => k a (List.mem_append_right _ m)) ne
theorem Rep.freeze {K : PySem.W.Frag} {H : Hp} {w w' : Wn} {o o' : Ow} (n : ∀ a, w a = none -> w' a = none) : ∀ {q : Nat} {d : D} {v : V} {F : List Addr}, Rep K H w o q d v F -> (∀ a ∈ F, w' a = none) -> Rep K H w' o' 0 d v [] := by
  intro q d v F r
  refine Rep.rec (motive_1 := fun q d v F _ => (∀ a ∈ F, w' a = none) -> Rep K H w' o' 0 d v []) (motive_2 := fun q ds vs F _ => (∀ a ∈ F, w' a = none) -> Reps K H w' o' 0 ds vs []) ?_ ?_ ?_ ?_ ?_ ?_ ?_ ?_ ?_ ?_ ?_ ?_ r
  · intro q _; exact .non
  · intro q b _; exact .bl b
  · intro q i _; exact .int i
  · intro q x _; exact .str x
  · intro q a vs ds h r ih _; exact .tup h (ih (fun _ z => (List.not_mem_nil z).elim))
  · intro q a ks vs ds h r ih _; exact .dic h (ih (fun _ z => (List.not_mem_nil z).elim))
  · intro q a nm ob u h x n _; exact .exc h x n
  · intro a vs ds h r ih _; exact .kl h (ih (fun _ z => (List.not_mem_nil z).elim))
  · intro a vs ds h e r ih _; exact .shr h (n _ e) (ih (fun _ z => (List.not_mem_nil z).elim))
  · intro q a vs ds F h e r ne ih k; exact .shr (Rd.of h) (k _ List.mem_cons_self) (ih fun a m => k a (List.mem_cons_of_mem _ m))
  · intro q _; exact .nil
  · intro q d v ds vs F G r s ne ih1 ih2 k; exact .cons (F := []) (G := []) (ih1 fun a m => k a (List.mem_append_left _ m)) (ih2 fun a m => k a (List.mem_append_right _ m)) (fun _ z => (List.not_mem_nil z).elim)
theorem Reps.freeze {K : PySem.W.Frag} {H : Hp} {w w' : Wn} {o o' : Ow} (n : ∀ a, w a = none -> w' a = none) : ∀ {q : Nat} {ds : List D} {vs : List V} {F : List Addr}, Reps K H w o q ds vs F -> (∀ a ∈ F, w' a = none) -> Reps K H w' o' 0 ds vs [] := by
  intro q ds vs F r
  refine Reps.rec (motive_1 := fun q d v F _ => (∀ a ∈ F, w' a = none) -> Rep K H w' o' 0 d v []) (motive_2 := fun q ds vs F _ => (∀ a ∈ F, w' a = none) -> Reps K H w' o' 0 ds vs []) ?_ ?_ ?_ ?_ ?_ ?_ ?_ ?_ ?_ ?_ ?_ ?_ r
  · intro q _; exact .non
  · intro q b _; exact .bl b
  · intro q i _; exact .int i
  · intro q x _; exact .str x
  · intro q a vs ds h r ih _; exact .tup h (ih (fun _ z => (List.not_mem_nil z).elim))
  · intro q a ks vs ds h r ih _; exact .dic h (ih (fun _ z => (List.not_mem_nil z).elim))
  · intro q a nm ob u h x n _; exact .exc h x n
  · intro a vs ds h r ih _; exact .kl h (ih (fun _ z => (List.not_mem_nil z).elim))
  · intro a vs ds h e r ih _; exact .shr h (n _ e) (ih (fun _ z => (List.not_mem_nil z).elim))
  · intro q a vs ds F h e r ne ih k; exact .shr (Rd.of h) (k _ List.mem_cons_self) (ih fun a m => k a (List.mem_cons_of_mem _ m))
  · intro q _; exact .nil
  · intro q d v ds vs F G r s ne ih1 ih2 k; exact .cons (F := []) (G := []) (ih1 fun a m => k a (List.mem_append_left _ m)) (ih2 fun a m => k a (List.mem_append_right _ m)) (fun _ z => (List.not_mem_nil z).elim)
theorem Rep.owns {K : PySem.W.Frag} {H : Hp} {w : Wn} {o : Ow} : ∀ {q : Nat} {d : D} {v : V} {F : List Addr}, Rep K H w o q d v F -> ∀ a ∈ F, w a = some o := by
  intro q d v F r
  refine Rep.rec (motive_1 := fun q d v F _ => ∀ a ∈ F, w a = some o) (motive_2 := fun q ds vs F _ => ∀ a ∈ F, w a = some o) ?_ ?_ ?_ ?_ ?_ ?_ ?_ ?_ ?_ ?_ ?_ ?_ r
  · intro q a m; exact (List.not_mem_nil m).elim
  · intro q b a m; exact (List.not_mem_nil m).elim
  · intro q i a m; exact (List.not_mem_nil m).elim
  · intro q x a m; exact (List.not_mem_nil m).elim
  · intro q a vs ds h r ih b m; exact (List.not_mem_nil m).elim
  · intro q a ks vs ds h r ih b m; exact (List.not_mem_nil m).elim
  · intro q a nm ob u h x n b m; exact (List.not_mem_nil m).elim
  · intro a vs ds h r ih b m; exact (List.not_mem_nil m).elim
  · intro a vs ds h e r ih b m; exact (List.not_mem_nil m).elim
  · intro q a vs ds F h e r ne ih b m
    rcases List.mem_cons.mp m with z | z
    · rw [z]; exact e
    · exact ih b z
  · intro q a m; exact (List.not_mem_nil m).elim
  · intro q d v ds vs F G r s ne ih1 ih2 a m
    rcases List.mem_append.mp m with z | z
    · exact ih1 a z
    · exact ih2 a z
theorem Reps.owns {K : PySem.W.Frag} {H : Hp} {w : Wn} {o : Ow} : ∀ {q : Nat} {ds : List D} {vs : List V} {F : List Addr}, Reps K H w o q ds vs F -> ∀ a ∈ F, w a = some o := by
  intro q ds vs F r
  refine Reps.rec (motive_1 := fun q d v F _ => ∀ a ∈ F, w a = some o) (motive_2 := fun q ds vs F _ => ∀ a ∈ F, w a = some o) ?_ ?_ ?_ ?_ ?_ ?_ ?_ ?_ ?_ ?_ ?_ ?_ r
  · intro q a m; exact (List.not_mem_nil m).elim
  · intro q b a m; exact (List.not_mem_nil m).elim
  · intro q i a m; exact (List.not_mem_nil m).elim
  · intro q x a m; exact (List.not_mem_nil m).elim
  · intro q a vs ds h r ih b m; exact (List.not_mem_nil m).elim
  · intro q a ks vs ds h r ih b m; exact (List.not_mem_nil m).elim
  · intro q a nm ob u h x n b m; exact (List.not_mem_nil m).elim
  · intro a vs ds h r ih b m; exact (List.not_mem_nil m).elim
  · intro a vs ds h e r ih b m; exact (List.not_mem_nil m).elim
  · intro q a vs ds F h e r ne ih b m
    rcases List.mem_cons.mp m with z | z
    · rw [z]; exact e
    · exact ih b z
  · intro q a m; exact (List.not_mem_nil m).elim
  · intro q d v ds vs F G r s ne ih1 ih2 a m
    rcases List.mem_append.mp m with z | z
    · exact ih1 a z
    · exact ih2 a z
noncomputable def D.isL : D -> Bool
  | .lst _ => true
  | _ => false
@[simp] theorem D.isL_non : D.isL .non = false := rfl
@[simp] theorem D.isL_bl (b : Bool) : D.isL (.bl b) = false := rfl
@[simp] theorem D.isL_int (i : Int) : D.isL (.int i) = false := rfl
@[simp] theorem D.isL_str (x : Str) : D.isL (.str x) = false := rfl
@[simp] theorem D.isL_tup (ds : List D) : D.isL (.tup ds) = false := rfl
@[simp] theorem D.isL_dic (ks : List Str) (ds : List D) : D.isL (.dic ks ds) = false := rfl
@[simp] theorem D.isL_exc (nm : Str) : D.isL (.exc nm) = false := rfl
@[simp] theorem D.isL_lst (ds : List D) : D.isL (.lst ds) = true := rfl
theorem Rep.nolist {K : PySem.W.Frag} {H : Hp} {w : Wn} {o : Ow} {q : Nat} {d : D} {v : V} {F : List Addr} (r : Rep K H w o q d v F) (h : d.isL = false) : F = [] /\ ∀ q', Rep K H w o q' d v [] := by
  cases r with
  | non => exact ⟨rfl, fun _ => .non⟩
  | bl b => exact ⟨rfl, fun _ => .bl b⟩
  | int i => exact ⟨rfl, fun _ => .int i⟩
  | str x => exact ⟨rfl, fun _ => .str x⟩
  | tup h' r' => exact ⟨rfl, fun _ => .tup h' r'⟩
  | dic h' r' => exact ⟨rfl, fun _ => .dic h' r'⟩
  | exc h' x n => exact ⟨rfl, fun _ => .exc h' x n⟩
  | kl => cases h
  | shr => cases h
  | own => cases h
theorem Rep.zero {K : PySem.W.Frag} {H : Hp} {w : Wn} {o : Ow} {d : D} {v : V} {F : List Addr} (r : Rep K H w o 0 d v F) : F = [] := by
  cases r <;> rfl
theorem Reps.zero {K : PySem.W.Frag} {H : Hp} {w : Wn} {o : Ow} : ∀ {ds : List D} {vs : List V} {F : List Addr}, Reps K H w o 0 ds vs F -> F = []
  | _, _, _, .nil => rfl
  | _, _, _, .cons r s _ => by rw [r.zero, s.zero]; rfl
theorem Reps.length {K : PySem.W.Frag} {H : Hp} {w : Wn} {o : Ow} {q : Nat} : ∀ {ds : List D} {vs : List V} {F : List Addr}, Reps K H w o q ds vs F -> ds.length = vs.length
  | _, _, _, .nil => rfl
  | _, _, _, .cons _ s _ => by simp [s.length]
theorem Rep.any {K : PySem.W.Frag} {H : Hp} {w : Wn} {o o' : Ow} {q : Nat} {d : D} {v : V} (r : Rep K H w o q d v []) (wl : WL w H) : Rep K H w o' q d v [] :=
  Rep.go wl (fun a x h n => ⟨h, n⟩) r (fun _ z => nomatch z)
theorem Reps.any {K : PySem.W.Frag} {H : Hp} {w : Wn} {o o' : Ow} {q : Nat} {d : List D} {v : List V} (r : Reps K H w o q d v []) (wl : WL w H) : Reps K H w o' q d v [] :=
  Reps.go wl (fun a x h n => ⟨h, n⟩) r (fun _ z => nomatch z)
theorem Reps.get {K : PySem.W.Frag} {H : Hp} {w : Wn} {o : Ow} : ∀ {ds : List D} {vs : List V} {i : Nat} {d : D}, Reps K H w o 0 ds vs [] -> ds[i]? = some d -> ∃ v, vs[i]? = some v /\ Rep K H w o 0 d v []
  | ds, vs, i, d, r, e => by
    generalize hF : ([] : List Addr) = F at r
    cases r with
    | nil => simp at e
    | @cons _ d' v' ds' vs' F' G' r s _ =>
      have h1 : F' = [] := r.zero
      have h2 : G' = [] := s.zero
      subst h1 h2
      cases i with
      | zero => simp at e; subst e; exact ⟨v', rfl, r⟩
      | succ j =>
        obtain ⟨v, h1, h2⟩ := Reps.get (i := j) (d := d) s (by simpa using e)
        exact ⟨v, by simpa using h1, h2⟩
theorem Reps.snoc {K : PySem.W.Frag} {H : Hp} {w : Wn} {o : Ow} {q : Nat} {d : D} {v : V} {G : List Addr} (r' : Rep K H w o q d v G) : ∀ {ds : List D} {vs : List V} {F : List Addr}, Reps K H w o q ds vs F -> (∀ a ∈ F, a ∉ G) -> Reps K H w o q (ds ++ [d]) (vs ++ [v]) (F ++ G)
  | _, _, _, .nil, _ => by
    have : Reps K H w o q [d] [v] (G ++ []) := .cons r' .nil (fun a _ z => nomatch z)
    simpa using this
  | _, _, _, .cons (F := F) (G := F') r s ne, k => by
    rw [List.append_assoc]
    refine .cons r (Reps.snoc r' s fun a m => k a (List.mem_append_right _ m)) fun a m z => ?_
    rcases List.mem_append.mp z with z | z
    · exact ne a m z
    · exact k a (List.mem_append_left _ m) z
noncomputable abbrev Rho := List (Option (D × Nat))
structure Good (K : PySem.W.Frag) (ρ : Rho) (σ : St) (H : Hp) (w : Wn) (t : Nat) : Prop where
  wl : WL w H
  ws : ∀ a i, w a = some (.s i) -> i < σ.length
  wt : ∀ a i, w a = some (.t i) -> i < t
  len : ρ.length = σ.length
  slot : ∀ (i : Nat) d q, ρ[i]? = some (some (d, q)) -> ∃ v F, σ[i]? = some (some v) /\ Rep K H w (.s i) q d v F
structure Go (H : Hp) (w : Wn) (H' : Hp) (w' : Wn) : Prop where
  stab : x7w H w H' w'
  keep : ∀ a o, w a = some o -> (∀ i, o ≠ .s i) -> H' a = H a /\ w' a = some o
theorem Go.refl {H : Hp} {w : Wn} : Go H w H w := ⟨fun a x h n => ⟨h, n⟩, fun a o e _ => ⟨rfl, e⟩⟩
theorem Go.trans {H H1 H2 : Hp} {w w1 w2 : Wn} (a : Go H w H1 w1) (b : Go H1 w1 H2 w2) : Go H w H2 w2 :=
  ⟨fun c x h n => b.stab c x (a.stab c x h n).1 (a.stab c x h n).2, fun c o e h => by
    obtain ⟨h1, w1⟩ := a.keep c o e h
    obtain ⟨h2, w2⟩ := b.keep c o w1 h
    exact ⟨h2.trans h1, w2⟩⟩
theorem Rep.gone {K : PySem.W.Frag} {H H' : Hp} {w w' : Wn} {q : Nat} {d : D} {v : V} {F : List Addr} {i : Nat} (r : Rep K H w (.t i) q d v F) (wl : WL w H) (g : Go H w H' w') : Rep K H' w' (.t i) q d v F :=
  Rep.go wl g.stab r fun a m => g.keep a _ (r.owns a m) (fun _ z => nomatch z)
theorem Reps.gone {K : PySem.W.Frag} {H H' : Hp} {w w' : Wn} {q : Nat} {d : List D} {v : List V} {F : List Addr} {i : Nat} (r : Reps K H w (.t i) q d v F) (wl : WL w H) (g : Go H w H' w') : Reps K H' w' (.t i) q d v F :=
  Reps.go wl g.stab r fun a m => g.keep a _ (r.owns a m) (fun _ z => nomatch z)
noncomputable def x1j (t : Nat) (w : Wn) : Wn := fun a => match w a with
  | some (.t i) => if t <= i then none else some (.t i)
  | x => x
theorem x5q {t : Nat} {w : Wn} {a : Addr} (h : w a = none) : x1j t w a = none := by unfold x1j; rw [h]
theorem z36 {t : Nat} {w : Wn} {a : Addr} {i : Nat} (h : w a = some (.s i)) : x1j t w a = some (.s i) := by unfold x1j; rw [h]
theorem z1g {t : Nat} {w : Wn} {a : Addr} (h : w a = some .f) : x1j t w a = some .f := by unfold x1j; rw [h]
theorem y9g {t : Nat} {w : Wn} {a : Addr} {i : Nat} (h : w a = some (.t i)) (hi : i < t) : x1j t w a = some (.t i) := by unfold x1j; rw [h]; exact if_neg (by omega)
theorem y8v {t : Nat} {w : Wn} {a : Addr} {i : Nat} (h : w a = some (.t i)) (hi : t <= i) : x1j t w a = none := by unfold x1j; rw [h]; exact if_pos hi
theorem x78 {t : Nat} {w : Wn} {a : Addr} {o : Ow} (h : x1j t w a = some o) : w a = some o /\ ∀ i, o = .t i -> i < t := by
  unfold x1j at h
  cases e : w a with
  | none => rw [e] at h; cases h
  | some o' =>
    rw [e] at h
    cases o' with
    | s i => cases h; exact ⟨rfl, fun i z => nomatch z⟩
    | f => cases h; exact ⟨rfl, fun i z => nomatch z⟩
    | t i =>
      dsimp only at h
      split at h
      · cases h
      · cases h; exact ⟨rfl, fun j z => by cases z; omega⟩
theorem Good.drop {K : PySem.W.Frag} {ρ : Rho} {σ : St} {H : Hp} {w : Wn} {t t' : Nat} (g : Good K ρ σ H w t) : Good K ρ σ H (x1j t' w) t' := by
  refine ⟨fun a o e => g.wl a o (x78 e).1, fun a i e => g.ws a i (x78 e).1, fun a i e => (x78 e).2 i rfl, g.len, fun i d q e => ?_⟩
  obtain ⟨v, F, h1, h2⟩ := g.slot i d q e
  exact ⟨v, F, h1, Rep.go g.wl (fun a x h n => ⟨h, x5q n⟩) h2 fun a m => ⟨rfl, z36 (h2.owns a m)⟩⟩
theorem Go.drop {H H' : Hp} {w w' : Wn} {t : Nat} (g : Go H w H' w') (wt : ∀ a i, w a = some (.t i) -> i < t) : Go H w H' (x1j t w') :=
  ⟨fun a x h n => ⟨(g.stab a x h n).1, x5q (g.stab a x h n).2⟩, fun a o e h => by
    obtain ⟨h1, h2⟩ := g.keep a o e h
    refine ⟨h1, ?_⟩
    cases o with
    | s i => exact absurd rfl (h i)
    | f => exact z1g h2
    | t i => exact y9g h2 (wt a i e)⟩
theorem Rep.drop {K : PySem.W.Frag} {H : Hp} {w : Wn} {q : Nat} {d : D} {v : V} {F : List Addr} {t : Nat} {o : Ow} (r : Rep K H w (.t t) q d v F) {t' : Nat} (h : t' <= t) : Rep K H (x1j t' w) o 0 d v [] :=
  Rep.freeze (fun a n => x5q n) r fun a m => y8v (r.owns a m) h
noncomputable abbrev Den := Rho -> Option (D × Nat × Rho)
noncomputable def tD (K : PySem.W.Frag) (f : Den) : TE := fun σ H Q => ∃ ρ w t r q ρ', Good K ρ σ H w t /\ f ρ = some (r, q, ρ') /\ ∀ v H' w' F, Good K ρ' σ H' w' (t + 1) -> Go H w H' w' -> Rep K H' w' (.t t) q r v F -> Q v H'
theorem PE.imp {X : Cx} {e : Expr} {t t' : TE} (h : PE X e t) (i : ∀ σ H Q, t' σ H Q -> t σ H Q) : PE X e t' := fun pins s σ H Q I q => h pins s σ H Q I (i σ H Q q)
noncomputable abbrev PD (X : Cx) (e : Expr) (f : Den) : Prop := PE X e (tD X.K f)
theorem Good.up {K : PySem.W.Frag} {ρ : Rho} {σ : St} {H : Hp} {w : Wn} {t : Nat} (g : Good K ρ σ H w t) : Good K ρ σ H w (t + 1) := ⟨g.wl, g.ws, fun a i e => Nat.lt_succ_of_lt (g.wt a i e), g.len, g.slot⟩
@[simp] noncomputable def x85 (d : D) : Nat := if d.isL then 0 else 9
theorem Rep.dep {K : PySem.W.Frag} {H : Hp} {w : Wn} {o : Ow} {d : D} {v : V} (r : Rep K H w o 0 d v []) : Rep K H w o (x85 d) d v [] := by
  unfold x85
  cases e : d.isL with
  | true => exact r
  | false => exact (r.nolist e).2 9
section
variable {K : PySem.W.Frag} {σ : St} {H : Hp} {ρ ρ' ρ1 ρ2 : Rho} {w : Wn} {t : Nat} {Q : VK}
theorem z17 {fa fb : Den} {R : V -> V -> Hp -> Prop} (g : Good K ρ σ H w t) {d1 d2 : D} {q1 q2 : Nat} (e1 : fa ρ = some (d1, q1, ρ1)) (e2 : fb ρ1 = some (d2, q2, ρ2))
    (k : ∀ x y H2 w2 F1 F2, Good K ρ2 σ H2 w2 (t + 2) -> Go H w H2 w2 -> Rep K H2 w2 (.t t) q1 d1 x F1 -> Rep K H2 w2 (.t (t + 1)) q2 d2 y F2 -> R x y H2) :
    tD K fa σ H fun x H1 => tD K fb σ H1 fun y H2 => R x y H2 :=
  ⟨ρ, w, t, d1, q1, ρ1, g, e1, fun x H1 w1 F1 g1 go1 r1 => ⟨ρ1, w1, t + 1, d2, q2, ρ2, g1, e2, fun y H2 w2 F2 g2 go2 r2 => k x y H2 w2 F1 F2 g2 (go1.trans go2) (r1.gone g1.wl go2) r2⟩⟩
theorem z13 {r : D} {q : Nat} {v : V} {H2 : Hp} {w2 : Wn} {t2 : Nat} (k : ∀ v H' w' F, Good K ρ' σ H' w' (t + 1) -> Go H w H' w' -> Rep K H' w' (.t t) q r v F -> Q v H') (g : Good K ρ σ H w t) (g2 : Good K ρ' σ H2 w2 t2) (go : Go H w H2 w2)
    (rr : Rep K H2 (x1j t w2) (.t t) q r v []) : Q v H2 := k v H2 (x1j t w2) [] g2.drop.up (go.drop g.wt) rr
noncomputable def y7d (p : Addr) (o : Ow) (w : Wn) : Wn := fun a => if a = p then some o else w a
theorem x4a {p : Addr} {o : Ow} {w : Wn} : y7d p o w p = some o := if_pos rfl
theorem x3b {p a : Addr} {o : Ow} {w : Wn} (h : a ≠ p) : y7d p o w a = w a := if_neg h
theorem y2g {H1 : Hp} {p : Addr} {vs : List V} {ds : List D} {w1 : Wn} (g : Good K ρ σ H1 w1 t) (hp : H1 p = none) (r : Reps K H1 w1 .f 0 ds vs []) :
    Good K ρ σ (upd H1 p (.lst vs)) (y7d p (.t t) w1) (t + 1) /\ Go H1 w1 (upd H1 p (.lst vs)) (y7d p (.t t) w1) /\ Rep K (upd H1 p (.lst vs)) (y7d p (.t t) w1) (.t t) 1 (.lst ds) (.ref p) [p] := by
  have ne : ∀ a x, H1 a = some x -> a ≠ p := fun a x e => x1i e hp
  have nw : ∀ a o, w1 a = some o -> a ≠ p := fun a o e => by obtain ⟨vs, q⟩ := g.wl a o e; exact ne a _ q
  have st : x7w H1 w1 (upd H1 p (.lst vs)) (y7d p (.t t) w1) := fun a x e n => ⟨by rw [x0p (ne a x e)]; exact e, by rw [x3b (ne a x e)]; exact n⟩
  refine ⟨⟨fun a o e => ?_, fun a i e => ?_, fun a i e => ?_, g.len, fun i d q e => ?_⟩, ⟨st, fun a o e _ => ⟨x0p (nw a o e), (x3b (nw a o e)).trans e⟩⟩, ?_⟩
  · by_cases h : a = p
    · subst h; exact ⟨vs, x26⟩
    · rw [x3b h] at e
      obtain ⟨us, q⟩ := g.wl a o e
      exact ⟨us, by rw [x0p h]; exact q⟩
  · by_cases h : a = p
    · subst h; rw [x4a] at e; cases e
    · rw [x3b h] at e; exact g.ws a i e
  · by_cases h : a = p
    · subst h; rw [x4a] at e; cases e; exact Nat.lt_succ_self _
    · rw [x3b h] at e; exact Nat.lt_succ_of_lt (g.wt a i e)
  · obtain ⟨v, F, h1, h2⟩ := g.slot i d q e
    exact ⟨v, F, h1, Rep.go g.wl st h2 fun a m => ⟨x0p (nw a _ (h2.owns a m)), (x3b (nw a _ (h2.owns a m))).trans (h2.owns a m)⟩⟩
  · exact .own x26 x4a (Reps.go g.wl st r (fun _ z => nomatch z)) (fun z => nomatch z)
theorem x9r {H1 : Hp} {p : Addr} {vs : List V} {ds : List D} {w1 : Wn} (g : Good K ρ σ H1 w1 t) (hp : H1 p = none) (r : Reps K H1 w1 .f 0 ds vs []) :
    Good K ρ σ (upd H1 p (.tup vs)) w1 (t + 1) /\ Go H1 w1 (upd H1 p (.tup vs)) w1 /\ Rep K (upd H1 p (.tup vs)) w1 (.t t) 9 (.tup ds) (.ref p) [] := by
  have ne : ∀ a x, H1 a = some x -> a ≠ p := fun a x e => x1i e hp
  have nw : ∀ a o, w1 a = some o -> a ≠ p := fun a o e => by obtain ⟨vs, q⟩ := g.wl a o e; exact ne a _ q
  have st : x7w H1 w1 (upd H1 p (.tup vs)) w1 := fun a x e n => ⟨by rw [x0p (ne a x e)]; exact e, n⟩
  refine ⟨⟨fun a o e => ?_, g.ws, fun a i e => Nat.lt_succ_of_lt (g.wt a i e), g.len, fun i d q e => ?_⟩, ⟨st, fun a o e _ => ⟨x0p (nw a o e), e⟩⟩, ?_⟩
  · obtain ⟨us, q⟩ := g.wl a o e
    exact ⟨us, by rw [x0p (nw a o e)]; exact q⟩
  · obtain ⟨v, F, h1, h2⟩ := g.slot i d q e
    exact ⟨v, F, h1, Rep.go g.wl st h2 fun a m => ⟨x0p (nw a _ (h2.owns a m)), h2.owns a m⟩⟩
  · exact .tup x26 (Reps.go g.wl st r (fun _ z => nomatch z))
end
@[simp] noncomputable def eC (d : D) : Den := fun ρ => some (d, 9, ρ)
@[simp] noncomputable def x08 (i : Nat) : Den := fun ρ => match ρ[i]? with
  | some (some (d, q)) => if d.isL = false then some (d, 9, ρ) else if q = 0 then some (d, 0, ρ) else some (d, 0, ρ.set i (some (d, 0)))
  | _ => none
section
variable {X : Cx} {a b c e : Expr} {fa fb fc f : Den} {pos : Pos}
theorem x88 {v : V} {d : D} (h : PE X e (tC v)) (r : ∀ K H w o q, Rep K H w o q d v []) : PD X e (eC d) := PE.imp h fun σ H Q hh0 => by
  obtain ⟨ρ, w, t, r', q, ρ', g, ee, k⟩ := hh0
  cases ee
  exact k v H w [] g.up Go.refl (r _ _ _ _ _)
theorem z43 {i j} : PD X (.Constant (.int i) j pos) (eC (.int i)) := x88 z0a fun _ _ _ _ _ => .int i
theorem z8f {i j} : PD X (.Constant (.bool i) j pos) (eC (.bl i)) := x88 z8q fun _ _ _ _ _ => .bl i
theorem z6v {j} : PD X (.Constant .none j pos) (eC .non) := x88 z52 fun _ _ _ _ _ => .non
theorem z5z {x j} : PD X (.Constant (.str x) j pos) (eC (.str x)) := x88 y49 fun _ _ _ _ _ => .str x
noncomputable def x4t (i : Nat) (w : Wn) : Wn := fun a => if w a = some (.s i) then none else w a
theorem x45 {i : Nat} {w : Wn} {a : Addr} (h : w a = none) : x4t i w a = none := by unfold x4t; rw [h]; rfl
theorem x9m {i : Nat} {w : Wn} {a : Addr} (h : w a = some (.s i)) : x4t i w a = none := by unfold x4t; rw [if_pos h]
theorem x5v {i : Nat} {w : Wn} {a : Addr} {o : Ow} (h : w a = some o) (n : o ≠ .s i) : x4t i w a = some o := by unfold x4t; rw [if_neg (by rw [h]; exact fun z => n (Option.some.inj z))]; exact h
theorem x2k {i : Nat} {w : Wn} {a : Addr} {o : Ow} (h : x4t i w a = some o) : w a = some o /\ o ≠ .s i := by
  unfold x4t at h
  split at h
  · cases h
  · rename_i n; exact ⟨h, fun z => n (by rw [h, z])⟩
theorem Good.give {K : PySem.W.Frag} {ρ : Rho} {σ : St} {H : Hp} {w : Wn} {t i : Nat} {d : D} {q : Nat} (g : Good K ρ σ H w t) (e : ρ[i]? = some (some (d, q))) : Good K (ρ.set i (some (d, 0))) σ H (x4t i w) t /\ Go H w H (x4t i w) := by
  have st : x7w H w H (x4t i w) := fun a x h n => ⟨h, x45 n⟩
  refine ⟨⟨fun a o h => g.wl a o (x2k h).1, fun a j h => g.ws a j (x2k h).1, fun a j h => g.wt a j (x2k h).1, by rw [List.length_set]; exact g.len, fun j d' q' e' => ?_⟩, ⟨st, fun a o h n => ⟨rfl, x5v h (n i)⟩⟩⟩
  by_cases hj : i = j
  · subst hj
    rw [List.getElem?_set_self (List.getElem?_eq_some_iff.mp e).1] at e'
    cases e'
    obtain ⟨v, F, h1, h2⟩ := g.slot i d q e
    exact ⟨v, [], h1, Rep.freeze (fun a n => x45 n) h2 fun a m => x9m (h2.owns a m)⟩
  · rw [List.getElem?_set_ne hj] at e'
    obtain ⟨v, F, h1, h2⟩ := g.slot j d' q' e'
    exact ⟨v, F, h1, Rep.go g.wl st h2 fun a m => ⟨rfl, x5v (h2.owns a m) (fun z => hj (by cases z; rfl))⟩⟩
theorem z6n {i : Nat} {x : Str} (h : PE X (.Name x pos) (x8p i)) : PD X (.Name x pos) (x08 i) := PE.imp h fun σ H Q hh0 => by
  obtain ⟨ρ, w, t, r', q, ρ', g, ee, k⟩ := hh0
  unfold x08 at ee
  split at ee
  · rename_i d q0 e0
    obtain ⟨v, F, h1, h2⟩ := g.slot i d q0 e0
    refine ⟨v, h1, ?_⟩
    split at ee
    · rename_i hl
      cases ee
      obtain ⟨hF, hr⟩ := h2.nolist hl
      exact k v H w [] g.up Go.refl ((hr 9).any g.wl)
    · split at ee
      · rename_i hq
        subst hq
        cases ee
        have := h2.zero
        subst this
        exact k v H w [] g.up Go.refl (h2.any g.wl)
      · cases ee
        obtain ⟨g', go'⟩ := g.give e0
        refine k v H (x4t i w) [] g'.up go' ?_
        exact Rep.freeze (fun a n => x45 n) h2 fun a m => x9m (h2.owns a m)
  · cases ee
noncomputable def y0g : D -> Option V
  | .non => some .non
  | .bl b => some (.bl b)
  | .int i => some (.int i)
  | .str x => some (.str x)
  | _ => none
theorem y11 {K : PySem.W.Frag} {H : Hp} {w : Wn} {o : Ow} {q : Nat} {d : D} {v : V} (h : y0g d = some v) : Rep K H w o q d v [] := by
  cases d <;> cases h
  · exact .non
  · exact .bl _
  · exact .int _
  · exact .str _
@[simp] noncomputable def e2 (g : D -> D -> Option D) (fa fb : Den) : Den := fun ρ => match fa ρ with
  | some (x, _, ρ1) => match fb ρ1 with
    | some (y, _, ρ2) => match g x y with
      | some d => some (d, 9, ρ2)
      | none => none
    | none => none
  | none => none
theorem z0x {g : D -> D -> Option D} {ρ ρ' : Rho} {r : D} {q : Nat} (h : e2 g fa fb ρ = some (r, q, ρ')) : ∃ x q1 ρ1 y q2, fa ρ = some (x, q1, ρ1) /\ fb ρ1 = some (y, q2, ρ') /\ g x y = some r /\ q = 9 := by
  unfold e2 at h
  split at h
  · rename_i x q1 ρ1 h1
    split at h
    · rename_i y q2 ρ2 h2
      split at h
      · rename_i d hd
        cases h
        exact ⟨x, q1, ρ1, y, q2, h1, h2, hd, rfl⟩
      · cases h
    · cases h
  · cases h
theorem y04 {K : PySem.W.Frag} {g : D -> D -> Option D} {r : R2} (hg : ∀ x y d, g x y = some d -> ∃ v, y0g d = some v /\ ∀ H w o o' q q' u u' F F', Rep K H w o q x u F -> Rep K H w o' q' y u' F' -> WL w H -> ∀ Q : VK, Q v H -> r u u' H Q) :
    ∀ σ H Q, tD K (e2 g fa fb) σ H Q -> tOp r (tD K fa) (tD K fb) σ H Q := fun σ H Q hh0 => by
  obtain ⟨ρ, w, t, r', q, ρ', gd, ee, k⟩ := hh0
  obtain ⟨x, q1, ρ1, y, q2, h1, h2, h3, rfl⟩ := z0x ee
  obtain ⟨v, hv, hr⟩ := hg x y r' h3
  exact z17 gd h1 h2 fun u u' H2 w2 F1 F2 g2 go r1 r2 => hr H2 w2 _ _ _ _ u u' F1 F2 r1 r2 g2.wl Q (z13 k gd g2 go (y11 hv))
@[simp] noncomputable def gI (f : Int -> Int -> Option D) : D -> D -> Option D
  | .int i, .int j => f i j
  | _, _ => none
theorem x8y {f : Int -> Int -> Option D} {x y d : D} (h : gI f x y = some d) : ∃ i j, x = .int i /\ y = .int j /\ f i j = some d := by
  unfold gI at h
  split at h
  · exact ⟨_, _, rfl, rfl, h⟩
  · cases h
theorem x3k {K : PySem.W.Frag} {H : Hp} {w : Wn} {o : Ow} {q : Nat} {i : Int} {v : V} {F : List Addr} (r : Rep K H w o q (.int i) v F) : v = .int i := by cases r; rfl
theorem y3a {K : PySem.W.Frag} {f : Int -> Int -> Option D} {C : Int -> Int -> Prop} {h : Int -> Int -> V} (hf : ∀ i j d, f i j = some d -> C i j /\ y0g d = some (h i j)) :
    ∀ σ H Q, tD K (e2 (gI f) fa fb) σ H Q -> tOp (rI C h) (tD K fa) (tD K fb) σ H Q :=
  y04 fun x y d e => by
    obtain ⟨i, j, rfl, rfl, e⟩ := x8y e
    obtain ⟨c, s⟩ := hf i j d e
    exact ⟨_, s, fun H w o o' q q' u u' F F' r1 r2 _ Q hq => ⟨i, j, x3k r1, x3k r2, c, hq⟩⟩
theorem y42 {K : PySem.W.Frag} {f : Int -> Int -> Option D} {h : Int -> Int -> V} (hf : ∀ i j d, f i j = some d -> y0g d = some (h i j)) :
    ∀ σ H Q, tD K (e2 (gI f) fa fb) σ H Q -> tOp (rI0 h) (tD K fa) (tD K fb) σ H Q :=
  y04 fun x y d e => by
    obtain ⟨i, j, rfl, rfl, e⟩ := x8y e
    exact ⟨_, hf i j d e, fun H w o o' q q' u u' F F' r1 r2 _ Q hq => ⟨i, j, x3k r1, x3k r2, hq⟩⟩
end
section
variable {X : Cx} {a b c e : Expr} {fa fb fc f : Den} {pos : Pos}
@[simp] noncomputable def x29 : D -> D -> Option D := gI fun i j => some (.int (i + j))
@[simp] noncomputable def x8s : D -> D -> Option D := gI fun i j => if (-(2 ^ 64) < i /\ i < 2 ^ 64) \/ (-(2 ^ 64) < j /\ j < 2 ^ 64) then some (.int (i * j)) else none
@[simp] noncomputable def z4x : D -> D -> Option D := gI fun i j => if 0 < j /\ j < 1073741824 then some (.int (i / j)) else none
@[simp] noncomputable def z0c : D -> D -> Option D := gI fun i j => if 0 < j then some (.int (i % j)) else none
theorem z4d (ha : PD X a fa) (hb : PD X b fb) : PD X (.BinOp a .Add b pos) (e2 x29 fa fb) := PE.imp (y15 z4q ha hb) (y42 fun i j d h => by cases h; rfl)
theorem z54 (ha : PD X a fa) (hb : PD X b fb) : PD X (.BinOp a .Mult b pos) (e2 x8s fa fb) := PE.imp (y15 z5r ha hb) (y3a fun i j d h => by
  split at h
  · cases h; exact ⟨by assumption, rfl⟩
  · cases h)
theorem z67 (ha : PD X a fa) (hb : PD X b fb) : PD X (.BinOp a .FloorDiv b pos) (e2 z4x fa fb) := PE.imp (y15 z2t ha hb) (y3a fun i j d h => by
  split at h
  · cases h; exact ⟨by assumption, rfl⟩
  · cases h)
theorem z5m (ha : PD X a fa) (hb : PD X b fb) : PD X (.BinOp a .Mod b pos) (e2 z0c fa fb) := PE.imp (y15 z6i ha hb) (y3a fun i j d h => by
  split at h
  · cases h; exact ⟨by assumption, rfl⟩
  · cases h)
noncomputable def atD : D -> Int -> Option D
  | .lst ds, i => atI ds i
  | .tup ds, i => atI ds i
  | _, _ => none
@[simp] noncomputable def eIx (fa fb : Den) : Den := fun ρ => match fa ρ with
  | some (x, _, ρ1) => match fb ρ1 with
    | some (.int i, _, ρ2) => match atD x i with
      | some d => some (d, x85 d, ρ2)
      | none => none
    | _ => none
  | none => none
theorem Rep.seqL {K : PySem.W.Frag} {H : Hp} {w : Wn} {o : Ow} {q : Nat} {ds : List D} {v : V} {F : List Addr} (r : Rep K H w o q (.lst ds) v F) : ∃ a vs q' G, v = .ref a /\ SqL K H a vs /\ Reps K H w o q' ds vs G := by
  cases r with
  | kl h r => exact ⟨_, _, _, _, rfl, h.sq, r⟩
  | shr h n r => exact ⟨_, _, _, _, rfl, .inl h, r⟩
  | own h n r _ => exact ⟨_, _, _, _, rfl, SqL.of h, r⟩
theorem Rep.seqL0 {K : PySem.W.Frag} {H : Hp} {w : Wn} {o : Ow} {ds : List D} {v : V} {F : List Addr} (r : Rep K H w o 0 (.lst ds) v F) : ∃ a vs, v = .ref a /\ SqL K H a vs /\ Reps K H w o 0 ds vs [] := by
  cases r with
  | kl h r => exact ⟨_, _, rfl, h.sq, r⟩
  | shr h n r => exact ⟨_, _, rfl, .inl h, r⟩
theorem Rep.seqT {K : PySem.W.Frag} {H : Hp} {w : Wn} {o : Ow} {q : Nat} {ds : List D} {v : V} {F : List Addr} (r : Rep K H w o q (.tup ds) v F) : ∃ a vs, v = .ref a /\ SqT K H a vs /\ Reps K H w o 0 ds vs [] := by
  cases r with
  | tup h r => exact ⟨_, _, rfl, SqT.of h, r⟩
theorem Rep.tupAt {K : PySem.W.Frag} {H : Hp} {w : Wn} {o : Ow} {q : Nat} {ds : List D} {v : V} {F : List Addr} (r : Rep K H w o q (.tup ds) v F) : ∃ a vs, v = .ref a /\ H a = some (.tup vs) /\ Reps K H w o 0 ds vs [] := by
  cases r with
  | tup h r => exact ⟨_, _, rfl, h, r⟩
theorem Reps.atI {K : PySem.W.Frag} {H : Hp} {w : Wn} {o : Ow} {ds : List D} {vs : List V} {i : Int} {d : D} (r : Reps K H w o 0 ds vs []) (h : L2.atI ds i = some d) : ∃ v, L2.atI vs i = some v /\ Rep K H w o 0 d v [] := by
  unfold L2.atI at h ⊢
  rw [<- r.length]
  cases e : ixN ds.length i with
  | none => rw [e] at h; cases h
  | some j =>
    rw [e] at h
    exact r.get h
theorem z8a (ha : PD X a fa) (hb : PD X b fb) (hs : x3u b := by exact fun _ _ => rfl) : PD X (.Subscript a b pos) (eIx fa fb) := PE.imp (y77 y25 ha hb hs) fun σ H Q hh0 => by
  obtain ⟨ρ, w, t, r', q, ρ', gd, ee, k⟩ := hh0
  unfold eIx at ee
  split at ee
  · rename_i x q1 ρ1 h1
    split at ee
    · rename_i i q2 ρ2 h2
      split at ee
      · rename_i d hd
        cases ee
        refine z17 gd h1 h2 fun u u' H2 w2 F1 F2 g2 go r1 r2 => ?_
        have hu' := x3k r2
        subst hu'
        have r0 := r1.drop (o := .t t) (Nat.le_refl t)
        cases x with
        | lst ds =>
          obtain ⟨p, vs, rfl, hq, rs⟩ := r0.seqL0
          obtain ⟨v, hv, rv⟩ := rs.atI hd
          exact .inl ⟨p, vs, i, v, rfl, rfl, hq, hv, z13 k gd g2 go rv.dep⟩
        | tup ds =>
          obtain ⟨p, vs, rfl, hq, rs⟩ := r0.seqT
          obtain ⟨v, hv, rv⟩ := rs.atI hd
          exact .inr (.inl ⟨p, vs, i, v, rfl, rfl, hq, hv, z13 k gd g2 go rv.dep⟩)
        | _ => cases hd
      · cases ee
    · cases ee
  · cases ee
noncomputable abbrev x1h := Rho -> Option (List D × Rho)
noncomputable def tDA (K : PySem.W.Frag) (f : x1h) : TA := fun σ H Q => ∃ ρ w t ds ρ', Good K ρ σ H w t /\ f ρ = some (ds, ρ') /\ ∀ vs H' w', Good K ρ' σ H' w' t -> Go H w H' w' -> Reps K H' w' .f 0 ds vs [] -> Q vs H'
noncomputable abbrev PDA (X : Cx) (es : List Expr) (f : x1h) : Prop := PA X es (tDA X.K f)
theorem PA.imp {X : Cx} {e : List Expr} {t t' : TA} (h : PA X e t) (i : ∀ σ H Q, t' σ H Q -> t σ H Q) : PA X e t' := fun pos pins s σ H Q I q => h pos pins s σ H Q I (i σ H Q q)
@[simp] noncomputable def x0h : x1h := fun ρ => some ([], ρ)
@[simp] noncomputable def x01 (f : Den) (g : x1h) : x1h := fun ρ => match f ρ with
  | some (d, _, ρ1) => match g ρ1 with
    | some (ds, ρ2) => some (d :: ds, ρ2)
    | none => none
  | none => none
theorem z2s : PDA X [] x0h := PA.imp x6f fun σ H Q hh0 => by
  obtain ⟨ρ, w, t, ds, ρ', gd, ee, k⟩ := hh0
  cases ee
  exact k [] H w gd Go.refl .nil
theorem y9o {es : List Expr} {g : x1h} (ha : PD X e f) (hr : PDA X es g) (hs : starEach (e :: es) X.env = (false, eval e X.env) :: starEach es X.env := by rfl) : PDA X (e :: es) (x01 f g) := PA.imp (x3g ha hr hs) fun σ H Q hh0 => by
  obtain ⟨ρ, w, t, ds, ρ', gd, ee, k⟩ := hh0
  unfold x01 at ee
  split at ee
  · rename_i d q ρ1 h1
    split at ee
    · rename_i ds' ρ2 h2
      cases ee
      refine ⟨ρ, w, t, d, q, ρ1, gd, h1, fun x H1 w1 F1 g1 go1 r1 => ⟨ρ1, x1j t w1, t, ds', _, g1.drop, h2, fun vs H2 w2 g2 go2 r2 => ?_⟩⟩
      have gl := (g1.drop (t' := t)).wl
      have r0 : Rep X.K H2 w2 .f 0 d x [] := Rep.go gl go2.stab (r1.drop (o := .f) (Nat.le_refl t)) (fun _ z => nomatch z)
      exact k (x :: vs) H2 w2 g2 ((go1.drop gd.wt).trans go2) (.cons (F := []) (G := []) r0 r2 (fun _ z => nomatch z))
    · cases ee
  · cases ee
@[simp] noncomputable def x49 (g : x1h) : Den := fun ρ => match g ρ with
  | some (ds, ρ1) => if ds.length <= 1000 then some (.lst ds, 1, ρ1) else none
  | none => none
@[simp] noncomputable def x5e (g : x1h) : Den := fun ρ => match g ρ with
  | some (ds, ρ1) => if ds.length <= 1000 then some (.tup ds, 9, ρ1) else none
  | none => none
theorem x7n {n : Nat} (h : n <= 1000) : n <= sizeLine := Nat.le_of_lt (x48 h)
theorem z68 {es : List Expr} {g : x1h} (h : PDA X es g) : PD X (.List es pos) (x49 g) := PE.imp (z6a h) fun σ H Q hh0 => by
  obtain ⟨ρ, w, t, r', q, ρ', gd, ee, k⟩ := hh0
  unfold x49 at ee
  split at ee
  · rename_i ds ρ1 h1
    split at ee
    · rename_i hl
      cases ee
      refine ⟨ρ, w, t, ds, _, gd, h1, fun vs H1 w1 g1 go1 r1 => ⟨by rw [<- r1.length]; exact x7n hl, fun p hp => ?_⟩⟩
      obtain ⟨a1, a2, a3⟩ := y2g g1 hp r1
      exact k _ _ _ _ a1 (go1.trans a2) a3
    · cases ee
  · cases ee
theorem z61 {es : List Expr} {g : x1h} {x1} (h : PDA X es g) : PD X (.Tuple es x1 pos) (x5e g) := PE.imp (z4z h) fun σ H Q hh0 => by
  obtain ⟨ρ, w, t, r', q, ρ', gd, ee, k⟩ := hh0
  unfold x5e at ee
  split at ee
  · rename_i ds ρ1 h1
    split at ee
    · rename_i hl
      cases ee
      refine ⟨ρ, w, t, ds, _, gd, h1, fun vs H1 w1 g1 go1 r1 => ⟨by rw [<- r1.length]; exact x7n hl, fun p hp => ?_⟩⟩
      obtain ⟨a1, a2, a3⟩ := x9r g1 hp r1
      exact k _ _ _ _ a1 (go1.trans a2) a3
    · cases ee
  · cases ee
noncomputable def spD (K : PySem.W.Frag) (n : Nat) (F : List D -> Option (D × Nat)) : Sp := fun vs H Q _ => vs.length = n /\ ∃ ds w r q, (∀ a o, w a = some o -> o = .f) /\ WL w H /\ Reps K H w .f 0 ds vs [] /\ F ds = some (r, q) /\
  ∀ v H' w' Fo, Go H w H' w' -> WL w' H' -> Rep K H' w' (.t 0) q r v Fo -> Q v H'
@[simp] noncomputable def x0k (F : List D -> Option (D × Nat)) (n : Nat) (g : x1h) : Den := fun ρ => match g ρ with
  | some (ds, ρ1) => if ds.length = n then match F ds with
    | some (r, q) => some (r, q, ρ1)
    | none => none
    else none
  | none => none
theorem j00 {K : PySem.W.Frag} {ρ : Rho} {σ : St} {H H' : Hp} {w w' : Wn} {t q : Nat} {d : D} {v : V} {Fo : List Addr} (g : Good K ρ σ H w t)
    (go : Go H (fun a => (w a).map fun _ => Ow.f) H' w') (wl' : WL w' H') (r : Rep K H' w' (.t 0) q d v Fo) :
    Good K ρ σ H' (fun a => if a ∈ Fo then some (.t t) else w a) (t + 1) /\ Go H w H' (fun a => if a ∈ Fo then some (.t t) else w a) /\ Rep K H' (fun a => if a ∈ Fo then some (.t t) else w a) (.t t) q d v Fo := by
  have kf : ∀ a o, w a = some o -> H' a = H a /\ w' a = some .f := fun a o e => go.keep a .f (by show (w a).map _ = _; rw [e]; rfl) (fun _ z => nomatch z)
  have nf : ∀ a x, H a = some x -> a ∉ Fo := fun a x e m => by
    have h1 := r.owns a m
    cases ew : w a with
    | none =>
      have := (go.stab a x e (by show (w a).map _ = _; rw [ew]; rfl)).2
      rw [h1] at this; cases this
    | some o => rw [(kf a o ew).2] at h1; cases h1
  have nw : ∀ a o, w a = some o -> a ∉ Fo := fun a o e => by obtain ⟨vs, q⟩ := g.wl a o e; exact nf a _ q
  have st : x7w H w H' (fun a => if a ∈ Fo then some (.t t) else w a) := fun a x e n => ⟨(go.stab a x e (by show (w a).map _ = _; rw [n]; rfl)).1, by show (if a ∈ Fo then _ else _) = _; rw [if_neg (nf a x e)]; exact n⟩
  have wv : ∀ a o, (if a ∈ Fo then some (Ow.t t) else w a) = some o -> (a ∈ Fo /\ o = .t t) \/ w a = some o := fun a o e => by
    split at e
    · cases e; exact .inl ⟨by assumption, rfl⟩
    · exact .inr e
  refine ⟨⟨fun a o e => ?_, fun a i e => ?_, fun a i e => ?_, g.len, fun i d q e => ?_⟩, ⟨st, fun a o e _ => ⟨(kf a o e).1, by show (if a ∈ Fo then _ else _) = _; rw [if_neg (nw a o e)]; exact e⟩⟩, ?_⟩
  · rcases wv a o e with ⟨m, _⟩ | z
    · exact wl' a _ (r.owns a m)
    · obtain ⟨vs, h⟩ := g.wl a o z
      exact ⟨vs, (kf a o z).1.trans h⟩
  · rcases wv a _ e with ⟨_, z⟩ | z
    · cases z
    · exact g.ws a i z
  · rcases wv a _ e with ⟨_, z⟩ | z
    · cases z; exact Nat.lt_succ_self _
    · exact Nat.lt_succ_of_lt (g.wt a i z)
  · obtain ⟨v, F, h1, h2⟩ := g.slot i d q e
    refine ⟨v, F, h1, Rep.go g.wl st h2 fun a m => ⟨(kf a _ (h2.owns a m)).1, ?_⟩⟩
    show (if a ∈ Fo then _ else _) = _
    rw [if_neg (nw a _ (h2.owns a m))]
    exact h2.owns a m
  · refine Rep.go wl' (fun a x e n => ⟨e, ?_⟩) r fun a m => ⟨rfl, if_pos m⟩
    show (if a ∈ Fo then _ else _) = _
    rw [if_neg (fun m => by have := r.owns a m; rw [n] at this; cases this)]
    cases ew : w a with
    | none => rfl
    | some o => have := (kf a o ew).2; rw [n] at this; cases this
theorem y7u {CX : CXT} {k n : Nat} {fn : Addr} {fd : FuncData} {ps : List Str} {x : Str} {p : Pos} {es : List Expr} {F : List D -> Option (D × Nat)} {g : x1h} {E : XK} (Fk : FnOk X.prog X.w X.K X.mg X.base CX k fn fd ps (spD X.K n F)) (hr : Room k X.A) (hm : X.mg x = some (.ref fn)) (hk : PySem.W.keepIn X.K (.ref fn) = true) (hb : y0d X.K fd ps [])
    (hx : y45 CX X E) (ha : PDA X (e :: es) g) (hg : Gl X x := by rfl) (hdb : (x == ("__debug__" : Str)) = false := by decide) (he : starEach (e :: es) X.env = (false, eval e X.env) :: starEach es X.env := by rfl) (hpl : (backTo pos (starEach es X.env)).any (·.1) = false := by rfl) :
    PD X (.Call (.Name x p) (e :: es) [] pos) (x0k F n g) := PE.imp (y6z Fk hr hg hm hk hb .nil hx ha hdb he hpl) fun σ H Q hh0 => by
  obtain ⟨ρ, w, t, r', q, ρ', gd, ee, k⟩ := hh0
  unfold x0k at ee
  split at ee
  · rename_i ds ρ1 h1
    split at ee
    · rename_i hn
      split at ee
      · rename_i r0 q0 h2
        cases ee
        refine ⟨ρ, w, t, ds, _, gd, h1, fun vs H1 w1 g1 go1 r1 => ?_⟩
        show spD X.K n F (vs ++ []) H1 Q E
        rw [List.append_nil]
        refine ⟨by rw [<- r1.length]; exact hn, ds, fun a => (w1 a).map fun _ => Ow.f, r', q, fun a o e => ?_, fun a o e => ?_, ?_, h2, fun v H2 w2 Fo go2 wl2 rr => ?_⟩
        · dsimp only at e
          cases ew : w1 a with
          | none => rw [ew] at e; cases e
          | some o' => rw [ew] at e; cases e; rfl
        · dsimp only at e
          cases ew : w1 a with
          | none => rw [ew] at e; cases e
          | some o' => exact g1.wl a o' ew
        · exact Reps.freeze (fun a n => by show (w1 a).map _ = _; rw [n]; rfl) r1 (fun _ z => nomatch z)
        · obtain ⟨b1, b2, b3⟩ := j00 g1 go2 wl2 rr
          exact k _ _ _ _ b1 (go1.trans b2) b3
      · cases ee
    · cases ee
  · cases ee
end
noncomputable abbrev x1y := Rho -> Option (Bool × Rho)
noncomputable def tDT (K : PySem.W.Frag) (f : x1y) : TT := fun σ H Q => ∃ ρ w t b ρ', Good K ρ σ H w t /\ f ρ = some (b, ρ') /\ ∀ H' w', Good K ρ' σ H' w' t -> Go H w H' w' -> Q b H'
theorem PT.imp {X : Cx} {e : Expr} {t t' : TT} (h : PT X e t) (i : ∀ σ H Q, t' σ H Q -> t σ H Q) : PT X e t' := fun pins s σ H Q I q => h pins s σ H Q I (i σ H Q q)
theorem PW.imp {X : Cx} {e : Expr} {t t' : TT} (h : PW X e t) (i : ∀ σ H Q, t' σ H Q -> t σ H Q) : PW X e t' := fun whole pins s σ H Q I q => h whole pins s σ H Q I (i σ H Q q)
noncomputable abbrev PDT (X : Cx) (e : Expr) (f : x1y) : Prop := PT X e (tDT X.K f)
noncomputable abbrev PDW (X : Cx) (e : Expr) (f : x1y) : Prop := PW X e (tDT X.K f)
@[simp] noncomputable def z9a : D -> Option Bool
  | .non => some false
  | .bl b => some b
  | .int i => some (i != 0)
  | .tup ds => some (!ds.isEmpty)
  | .lst ds => some (!ds.isEmpty)
  | .str _ => none
  | .dic _ _ => none
  | .exc _ => none
@[simp] noncomputable def y2d (f : Den) : x1y := fun ρ => match f ρ with
  | some (d, _, ρ1) => match z9a d with
    | some b => some (b, ρ1)
    | none => none
  | none => none
section
variable {X : Cx} {a b c e : Expr} {fa fb fc f : Den} {ga gb gc : x1y} {pos : Pos}
theorem x89 {α β : Type} {l : List α} {l' : List β} (h : l.length = l'.length) : (!l.isEmpty) = !l'.isEmpty := by
  cases l <;> cases l' <;> first | rfl | cases h
theorem z34 (ha : PD X a fa) (he : ∀ whole, isTrue a X.env whole = (do let v <- whole; standAt a.pos; holding [v] (truthy v)) := by exact fun _ => rfl) : PDT X a (y2d fa) := PT.imp (y8a ha he) fun σ H Q hh0 => by
  obtain ⟨ρ, w, t, b, ρ', gd, ee, k⟩ := hh0
  unfold y2d at ee
  split at ee
  · rename_i d q ρ1 h1
    split at ee
    · rename_i b' hb
      cases ee
      refine ⟨ρ, w, t, d, q, _, gd, h1, fun v H1 w1 F g1 go1 r1 => ⟨b, ?_, k H1 (x1j t w1) g1.drop (go1.drop gd.wt)⟩⟩
      cases r1 with
      | non => cases hb; rfl
      | bl x => cases hb; rfl
      | int i => cases hb; rfl
      | str x => cases hb
      | tup h r => cases hb; exact .inr (.inl ⟨_, SqT.of h, x89 r.length⟩)
      | dic h r => cases hb
      | exc h x n => cases hb
      | kl h r => cases hb; exact .inl ⟨_, h.sq, x89 r.length⟩
      | shr h _ r => cases hb; exact .inl ⟨_, .inl h, x89 r.length⟩
      | own h _ r _ => cases hb; exact .inl ⟨_, SqL.of h, x89 r.length⟩
    · cases ee
  · cases ee
@[simp] noncomputable def x3d (f : Den) : x1y := fun ρ => match f ρ with
  | some (.bl b, _, ρ1) => some (b, ρ1)
  | _ => none
theorem y93 {K : PySem.W.Frag} {te : TE} (h : ∀ σ H Q, tD K f σ H Q -> te σ H Q) : ∀ σ H Q, tDT K (x3d f) σ H Q -> z5f te σ H Q := fun σ H Q hh0 => by
  obtain ⟨ρ, w, t, b, ρ', gd, ee, k⟩ := hh0
  unfold x3d at ee
  split at ee
  · rename_i b' q ρ1 h1
    cases ee
    refine h σ H _ ⟨ρ, w, t, .bl b, q, _, gd, h1, fun v H1 w1 F g1 go1 r1 => ?_⟩
    cases r1
    exact ⟨b, rfl, k H1 (x1j t w1) g1.drop (go1.drop gd.wt)⟩
  · cases ee
theorem x8o {op : CmpOp} {g : D -> D -> Option D} {r : R2} (ho : OpR X (compareOp op) r) (hr : ∀ σ H Q, tD X.K (e2 g fa fb) σ H Q -> tOp r (tD X.K fa) (tD X.K fb) σ H Q) (ha : PD X a fa) (hb : PD X b fb) (hm : behindInMarks op b = false) :
    PDT X (.Compare a [op] [b] pos) (x3d (e2 g fa fb)) := PT.imp (z2g ho ha hb hm) (y93 hr)
theorem z48 {op : CmpOp} {g : D -> D -> Option D} {r : R2} (ho : OpR X (compareOp op) r) (hr : ∀ σ H Q, tD X.K (e2 g fa fb) σ H Q -> tOp r (tD X.K fa) (tD X.K fb) σ H Q) (ha : PD X a fa) (hb : PD X b fb) (hm : behindInMarks op b = false) :
    PD X (.Compare a [op] [b] pos) (e2 g fa fb) := PE.imp (z3k ho ha hb hm) hr
@[simp] noncomputable def dLt : D -> D -> Option D := gI fun i j => some (.bl (decide (i < j)))
@[simp] noncomputable def dLe : D -> D -> Option D := gI fun i j => some (.bl (decide (i <= j)))
theorem hLt {K : PySem.W.Frag} : ∀ σ H Q, tD K (e2 dLt fa fb) σ H Q -> tOp (rI0 fun i j => .bl (decide (i < j))) (tD K fa) (tD K fb) σ H Q := y42 fun i j d h => by cases h; rfl
theorem z6s (ha : PD X a fa) (hb : PD X b fb) : PDT X (.Compare a [.Lt] [b] pos) (x3d (e2 dLt fa fb)) := x8o z5c hLt ha hb (y12 _)
@[simp] noncomputable def x8q (g : x1y) : x1y := fun ρ => match g ρ with
  | some (b, ρ1) => some (!b, ρ1)
  | none => none
theorem z2j (ha : PDT X a ga) : PDT X (.UnaryOp .Not a pos) (x8q ga) := PT.imp (z5b ha) fun σ H Q hh0 => by
  obtain ⟨ρ, w, t, b, ρ', gd, ee, k⟩ := hh0
  unfold x8q at ee
  split at ee
  · rename_i b' ρ1 h1
    cases ee
    exact ⟨ρ, w, t, b', _, gd, h1, fun H1 w1 g1 go1 => k H1 w1 g1 go1⟩
  · cases ee
@[simp] noncomputable def y7c (g h : x1y) : x1y := fun ρ => match g ρ with
  | some (b, ρ1) => if b = true then some (true, ρ1) else h ρ1
  | none => none
variable {x25 : List Expr}
theorem z0y (ha : PDT X a ga) : PDW X (.BoolOp .Or [a] pos) ga := z4s ha
theorem z3v (ha : PDT X a ga) (hb : PDW X (.BoolOp .Or (b :: x25) pos) gb) : PDW X (.BoolOp .Or (a :: b :: x25) pos) (y7c ga gb) := PW.imp (z8t ha hb) fun σ H Q hh0 => by
  obtain ⟨ρ, w, t, b, ρ', gd, ee, k⟩ := hh0
  unfold y7c at ee
  split at ee
  · rename_i b' ρ1 h1
    refine ⟨ρ, w, t, b', ρ1, gd, h1, fun H1 w1 g1 go1 => ?_⟩
    split at ee
    · rename_i hb; rw [if_pos hb]
      cases ee
      exact k H1 w1 g1 go1
    · rename_i hb; rw [if_neg hb]
      exact ⟨ρ1, w1, t, b, ρ', g1, ee, fun H2 w2 g2 go2 => k H2 w2 g2 (go1.trans go2)⟩
  · cases ee
@[simp] noncomputable def eIf (g : x1y) (fa fb : Den) : Den := fun ρ => match g ρ with
  | some (b, ρ1) => if b = true then fa ρ1 else fb ρ1
  | none => none
theorem y9u (hc : PDT X c gc) (ha : PD X a fa) (hb : PD X b fb) : PD X (.IfExp c a b pos) (eIf gc fa fb) := PE.imp (y9f hc ha hb) fun σ H Q hh0 => by
  obtain ⟨ρ, w, t, r', q, ρ', gd, ee, k⟩ := hh0
  unfold eIf at ee
  split at ee
  · rename_i b' ρ1 h1
    refine ⟨ρ, w, t, b', ρ1, gd, h1, fun H1 w1 g1 go1 => ?_⟩
    split at ee
    · rename_i hb; rw [if_pos hb]
      exact ⟨ρ1, w1, t, r', q, ρ', g1, ee, fun v H2 w2 F g2 go2 => k v H2 w2 F g2 (go1.trans go2)⟩
    · rename_i hb; rw [if_neg hb]
      exact ⟨ρ1, w1, t, r', q, ρ', g1, ee, fun v H2 w2 F g2 go2 => k v H2 w2 F g2 (go1.trans go2)⟩
  · cases ee
end
inductive Out where
  | nx (ρ : Rho) | rt (d : D) (q : Nat) | bk (ρ : Rho) | ct (ρ : Rho)
noncomputable abbrev x1c := Rho -> Option Out
noncomputable def x9h (K : PySem.W.Frag) (Dn : Ends) (n : Nat) (H : Hp) (w : Wn) : Out -> Prop
  | .nx ρ' => ∀ σ' H' w', σ'.length = n -> Good K ρ' σ' H' w' 0 -> Go H w H' w' -> Dn.nx σ' H'
  | .bk ρ' => ∀ σ' H' w', σ'.length = n -> Good K ρ' σ' H' w' 0 -> Go H w H' w' -> Dn.bk σ' H'
  | .ct ρ' => ∀ σ' H' w', σ'.length = n -> Good K ρ' σ' H' w' 0 -> Go H w H' w' -> Dn.ct σ' H'
  | .rt d q => ∀ v H' w' F, WL w' H' -> Go H w H' w' -> Rep K H' w' (.t 0) q d v F -> Dn.rt v H'
noncomputable def tDS (K : PySem.W.Frag) (f : x1c) : TS := fun Dn σ H => ∃ ρ w o, Good K ρ σ H w 0 /\ f ρ = some o /\ x9h K Dn σ.length H w o
theorem PS.imp {X : Cx} {e : Stmt} {t t' : TS} (h : PS X e t) (i : ∀ D σ H, t' D σ H -> t D σ H) : PS X e t' := fun pins s σ H D I q => h pins s σ H D I (i D σ H q)
theorem PSs.imp {X : Cx} {e : List Stmt} {t t' : TS} (h : PSs X e t) (i : ∀ D σ H, t' D σ H -> t D σ H) : PSs X e t' := fun pins s σ H D I q => h pins s σ H D I (i D σ H q)
noncomputable abbrev PDS (X : Cx) (st : Stmt) (f : x1c) : Prop := PS X st (tDS X.K f)
noncomputable abbrev y5g (X : Cx) (st : List Stmt) (f : x1c) : Prop := PSs X st (tDS X.K f)
@[simp] noncomputable def x71 : x1c := fun ρ => some (.nx ρ)
@[simp] noncomputable def x0y (f g : x1c) : x1c := fun ρ => match f ρ with
  | some (.nx ρ1) => g ρ1
  | o => o
theorem x9h.trans {K : PySem.W.Frag} {Dn : Ends} {n : Nat} {H H1 : Hp} {w w1 : Wn} (go : Go H w H1 w1) : ∀ {o : Out}, x9h K Dn n H w o -> x9h K Dn n H1 w1 o
  | .nx _, h => fun σ' H' w' e g go' => h σ' H' w' e g (go.trans go')
  | .bk _, h => fun σ' H' w' e g go' => h σ' H' w' e g (go.trans go')
  | .ct _, h => fun σ' H' w' e g go' => h σ' H' w' e g (go.trans go')
  | .rt _ _, h => fun v H' w' F wl go' => h v H' w' F wl (go.trans go')
section
variable {X : Cx} {a b c e : Expr} {fa fb fc f : Den} {ga gb gc : x1y} {pos : Pos} {st : Stmt} {x25 sa sb : List Stmt} {s s' : x1c}
theorem z2h : y5g X [] x71 := PSs.imp z24 fun D σ H hh0 => by
  obtain ⟨ρ, w, o, g, ee, k⟩ := hh0
  cases ee
  exact k σ H w rfl g Go.refl
theorem y8d (h1 : PDS X st s) (h2 : y5g X x25 s') : y5g X (st :: x25) (x0y s s') := PSs.imp (y9l h1 h2) fun D σ H hh0 => by
  obtain ⟨ρ, w, o, g, ee, k⟩ := hh0
  unfold x0y at ee
  split at ee
  · rename_i ρ1 h1
    exact ⟨ρ, w, .nx ρ1, g, h1, fun σ' H' w' e g' go' => ⟨ρ1, w', o, g', ee, by rw [e]; exact k.trans go'⟩⟩
  · rename_i hne
    refine ⟨ρ, w, o, g, ee, ?_⟩
    cases o with
    | nx ρ1 => exact absurd ee (hne ρ1)
    | bk ρ1 => exact k
    | ct ρ1 => exact k
    | rt d q => exact k
theorem z1j (h1 : PDS X st s) : y5g X [st] s := y2e h1
@[simp] noncomputable def x3f (f : Den) : x1c := fun ρ => match f ρ with
  | some (d, q, _) => some (.rt d q)
  | none => none
theorem z0q (h : PD X e f) : PDS X (.Return (some e) pos) (x3f f) := PS.imp (z6t h) fun D σ H hh0 => by
  obtain ⟨ρ, w, o, g, ee, k⟩ := hh0
  unfold x3f at ee
  split at ee
  · rename_i d q ρ1 h1
    cases ee
    exact ⟨ρ, w, 0, d, q, ρ1, g, h1, fun v H' w' F g' go' r => k v H' w' F g'.wl go' r⟩
  · cases ee
@[simp] noncomputable def sIf (g : x1y) (s s' : x1c) : x1c := fun ρ => match g ρ with
  | some (b, ρ1) => if b = true then s ρ1 else s' ρ1
  | none => none
theorem z40 (hc : PDT X c gc) (ha : y5g X sa s) (hb : y5g X sb s') : PDS X (.If c sa sb pos) (sIf gc s s') := PS.imp (z5d hc ha hb) fun D σ H hh0 => by
  obtain ⟨ρ, w, o, g, ee, k⟩ := hh0
  unfold sIf at ee
  split at ee
  · rename_i b' ρ1 h1
    refine ⟨ρ, w, 0, b', ρ1, g, h1, fun H1 w1 g1 go1 => ?_⟩
    split at ee
    · rename_i hb; rw [if_pos hb]
      exact ⟨ρ1, w1, o, g1, ee, k.trans go1⟩
    · rename_i hb; rw [if_neg hb]
      exact ⟨ρ1, w1, o, g1, ee, k.trans go1⟩
  · cases ee
noncomputable def x7c (t i : Nat) (w : Wn) : Wn := fun a => if w a = some (.t t) then some (.s i) else if w a = some (.s i) then none else w a
theorem Good.set {K : PySem.W.Frag} {ρ : Rho} {σ : St} {H : Hp} {w : Wn} {i q : Nat} {d : D} {v : V} {F : List Addr} (g : Good K ρ σ H w 1) (hi : i < σ.length) (r : Rep K H w (.t 0) q d v F) :
    Good K (ρ.set i (some (d, q))) (σ.set i (some v)) H (x7c 0 i w) 0 /\ ∀ H₀ w₀, Go H₀ w₀ H w -> (∀ a j, w₀ a = some (.t j) -> j < 0) -> Go H₀ w₀ H (x7c 0 i w) := by
  have mN : ∀ a, w a = none -> x7c 0 i w a = none := fun a e => by unfold x7c; rw [e]; rfl
  have mT : ∀ a, w a = some (.t 0) -> x7c 0 i w a = some (.s i) := fun a e => by unfold x7c; rw [if_pos e]
  have mS : ∀ a j, w a = some (.s j) -> j ≠ i -> x7c 0 i w a = some (.s j) := fun a j e n => by
    unfold x7c
    rw [if_neg (by rw [e]; exact fun z => nomatch z), if_neg (by rw [e]; intro z; cases z; exact n rfl)]
    exact e
  have mF : ∀ a, w a = some .f -> x7c 0 i w a = some .f := fun a e => by
    unfold x7c
    rw [if_neg (by rw [e]; exact fun z => nomatch z), if_neg (by rw [e]; exact fun z => nomatch z)]
    exact e
  have mI : ∀ a o, x7c 0 i w a = some o -> (w a = some (.t 0) /\ o = .s i) \/ (w a = some o /\ o ≠ .s i /\ o ≠ .t 0) := fun a o e => by
    unfold x7c at e
    split at e
    · cases e; exact .inl ⟨by assumption, rfl⟩
    · rename_i n1
      split at e
      · cases e
      · rename_i n2; exact .inr ⟨e, fun z => n2 (by rw [e, z]), fun z => n1 (by rw [e, z])⟩
  have st : x7w H w H (x7c 0 i w) := fun a x h n => ⟨h, mN a n⟩
  refine ⟨⟨fun a o e => ?_, fun a j e => ?_, fun a j e => ?_, by rw [List.length_set, List.length_set]; exact g.len, fun j d' q' e' => ?_⟩, fun H₀ w₀ go hw => ⟨fun a x h n => ⟨(go.stab a x h n).1, mN a (go.stab a x h n).2⟩, fun a o e n => ?_⟩⟩
  · rcases mI a o e with ⟨z, _⟩ | ⟨z, _⟩
    · exact g.wl a _ z
    · exact g.wl a _ z
  · rw [List.length_set]
    rcases mI a _ e with ⟨_, z⟩ | ⟨z, _⟩
    · cases z; exact hi
    · exact g.ws a j z
  · rcases mI a _ e with ⟨_, z⟩ | ⟨z, _, n⟩
    · cases z
    · have := g.wt a j z
      have : j = 0 := by omega
      subst this
      exact absurd rfl n
  · by_cases hj : i = j
    · subst hj
      rw [List.getElem?_set_self (by rw [g.len]; exact hi)] at e'
      cases e'
      exact ⟨v, F, List.getElem?_set_self hi, Rep.go g.wl st r fun a m => ⟨rfl, mT a (r.owns a m)⟩⟩
    · rw [List.getElem?_set_ne hj] at e'
      obtain ⟨v', F', h1, h2⟩ := g.slot j d' q' e'
      exact ⟨v', F', by rw [List.getElem?_set_ne hj]; exact h1, Rep.go g.wl st h2 fun a m => ⟨rfl, mS a j (h2.owns a m) (fun z => hj z.symm)⟩⟩
  · obtain ⟨h1, h2⟩ := go.keep a o e n
    refine ⟨h1, ?_⟩
    cases o with
    | s j => exact absurd rfl (n j)
    | f => exact mF a h2
    | t j => exact absurd (hw a j e) (Nat.not_lt_zero _)
@[simp] noncomputable def x1n (i : Nat) (f : Den) : x1c := fun ρ => match f ρ with
  | some (d, q, ρ1) => some (.nx (ρ1.set i (some (d, q))))
  | none => none
theorem y6s {K : PySem.W.Frag} {i : Nat} {D : Ends} {σ : St} {H : Hp} {te : TE} (hi : i < σ.length) (he : ∀ Q, tD K f σ H Q -> te σ H Q) (h : tDS K (x1n i f) D σ H) : te σ H fun x H1 => D.nx (σ.set i (some x)) H1 := by
  obtain ⟨ρ, w, o, g, ee, k⟩ := h
  unfold x1n at ee
  split at ee
  · rename_i d q ρ1 h1
    cases ee
    refine he _ ⟨ρ, w, 0, d, q, ρ1, g, h1, fun v H' w' F g' go' r => ?_⟩
    obtain ⟨a1, a2⟩ := g'.set hi r
    exact k _ _ _ (by rw [List.length_set]) a1 (a2 _ _ go' g.wt)
  · cases ee
theorem z3f {i : Nat} {x : Str} {pos' : Pos} (hN : X.N.Nodup) (hi : X.N[i]? = some x) (hx : Loc X.env.scope x) (he : PD X e f) (hs : swapsWith e (some (.Name x pos')) pos.line X.env = pure false := by rfl) (hf : X.fn x = true \/ X.env.scope.names.lookup x = some .local := by first | exact .inl rfl | exact .inr rfl) :
    PDS X (.Assign [.Name x pos'] e pos) (x1n i f) := by
  intro pins s σ H D I h
  have hl : i < σ.length := by rw [I.len]; exact (List.getElem?_eq_some_iff.mp hi).1
  exact z0b (te := tD X.K f) hN hi hx he hs hf pins s σ H D I (y6s hl (fun _ z => z) h)
@[simp] noncomputable def x34 (f : Den) : x1c := fun ρ => match f ρ with
  | some (_, _, ρ1) => some (.nx ρ1)
  | none => none
theorem y87 (he : PD X e f) (hs : swapsWith e none pos.line X.env = pure false := by rfl) : PDS X (.Expr e pos) (x34 f) := PS.imp (y5y he hs) fun D σ H hh0 => by
  obtain ⟨ρ, w, o, g, ee, k⟩ := hh0
  unfold x34 at ee
  split at ee
  · rename_i d q ρ1 h1
    cases ee
    exact ⟨ρ, w, 0, d, q, ρ1, g, h1, fun v H' w' F g' go' r => k σ H' (x1j 0 w') rfl g'.drop (go'.drop g.wt)⟩
  · cases ee
end
structure ItOk (K : PySem.W.Frag) (J : It) (ds : List D) (P : Hp -> Wn -> Prop) : Prop where
  go : ∀ i H w, P H w -> i < ds.length -> J.go i H
  yld : ∀ i H w x H' d, P H w -> WL w H -> ds[i]? = some d -> J.yld i H x H' -> (∀ a o, H a = some o -> H' a = some o) /\ Rep K H' w .f 0 d x [] /\ P H' w
  stop : ∀ H w, P H w -> J.stop ds.length H
  st : ∀ H w H' w', P H w -> WL w H -> x7w H w H' w' -> P H' w'
noncomputable abbrev y0l := Rho -> Option (List D × Rho)
noncomputable def tDI (K : PySem.W.Frag) (f : y0l) : TI := fun σ H R => ∃ ρ w t ds ρ', Good K ρ σ H w t /\ f ρ = some (ds, ρ') /\
  ∀ J P H' w', Good K ρ' σ H' w' t -> Go H w H' w' -> ItOk K J ds P -> P H' w' -> ds.length < sizeLine -> R J H'
theorem PI.imp {X : Cx} {tg e : Expr} {t t' : TI} (h : PI X tg e t) (i : ∀ σ H R, t' σ H R -> t σ H R) : PI X tg e t' := fun pins s σ H R I q => h pins s σ H R I (i σ H R q)
noncomputable abbrev PDI (X : Cx) (tg e : Expr) (f : y0l) : Prop := PI X tg e (tDI X.K f)
theorem It.list {K : PySem.W.Frag} {a : Addr} {vs : List V} {ds : List D} (hl : ds.length = vs.length) : ItOk K (Itl K a) ds fun H w => (KL K a vs \/ (Rd H a (.lst vs) /\ w a = none)) /\ Reps K H w .f 0 ds vs [] := by
  have sq : ∀ {H : Hp} {w : Wn}, KL K a vs \/ (Rd H a (.lst vs) /\ w a = none) -> SqL K H a vs := fun h => h.elim (fun z => z.sq) fun z => .inl z.1
  refine ⟨fun i H w p hi => ⟨vs, vs[i], sq p.1, by simp [hl ▸ hi]⟩, fun i H w x H' d p wl hd y => ?_, fun H w p => ⟨vs, sq p.1, by omega⟩, fun H w H' w' p wl st => ?_⟩
  · obtain ⟨rfl, hx⟩ := y
    obtain ⟨v, hv, rv⟩ := p.2.get hd
    have := hx vs (sq p.1)
    rw [hv] at this
    cases this
    exact ⟨fun _ _ e => e, rv, p⟩
  · refine ⟨?_, Reps.go wl st p.2 (fun _ z => nomatch z)⟩
    rcases p.1 with p | ⟨p, n⟩
    · exact .inl p
    · exact .inr (RdL.go st n p)
theorem It.tup {K : PySem.W.Frag} {a : Addr} {vs : List V} {ds : List D} (hl : ds.length = vs.length) : ItOk K (Itt K a) ds fun H w => SqT K H a vs /\ Reps K H w .f 0 ds vs [] :=
  ⟨fun i H w p hi => ⟨vs, vs[i], p.1, by simp [hl ▸ hi]⟩, fun i H w x H' d p wl hd y => by
    obtain ⟨rfl, hx⟩ := y
    obtain ⟨v, hv, rv⟩ := p.2.get hd
    have := hx vs p.1
    rw [hv] at this
    cases this
    exact ⟨fun _ _ e => e, rv, p⟩, fun H w p => ⟨vs, p.1, by omega⟩, fun H w H' w' p wl st => ⟨SqT.go wl st p.1, Reps.go wl st p.2 (fun _ z => nomatch z)⟩⟩
noncomputable def x7o (n : Nat) : List V := (List.range n).map fun i => .int (Int.ofNat i)
noncomputable def x16 (n : Nat) : List D := (List.range n).map fun i => .int (Int.ofNat i)
theorem x0q (n : Nat) : (x16 n).length = n := by simp [x16]
theorem x9x (n : Nat) : (x7o n).length = n := by simp [x7o]
theorem It.range {K : PySem.W.Frag} {n : Nat} : ItOk K (Itr 0 n) (x16 n) fun _ _ => True := by
  refine ⟨fun i H w _ hi => by rw [x0q] at hi; exact hi, fun i H w x H' d _ _ hd y => ?_, fun H w _ => by rw [x0q]; exact Nat.le_refl _, fun _ _ _ _ _ _ _ => trivial⟩
  have hi : i < n := by have := (List.getElem?_eq_some_iff.mp hd).1; rw [x0q] at this; exact this
  have e : x = .int (0 + (i : Int)) := y.2
  have ed : d = .int (Int.ofNat i) := by
    have : (x16 n)[i]? = some (.int (Int.ofNat i)) := by simp [x16, hi]
    rw [hd] at this
    exact Option.some.inj this
  obtain ⟨rfl, _⟩ := y
  subst ed
  rw [e, Int.zero_add]
  exact ⟨fun _ _ e => e, .int _, trivial⟩
theorem x6p {K : PySem.W.Frag} {H : Hp} {w : Wn} {o : Ow} : ∀ (ns : List Int), Reps K H w o 0 (ns.map D.int) (ns.map V.int) []
  | [] => .nil
  | n :: r => .cons (F := []) (G := []) (.int n) (x6p r) (fun _ z => nomatch z)
theorem y4s {K : PySem.W.Frag} {H : Hp} {w : Wn} {o : Ow} (n : Nat) : Reps K H w o 0 (x16 n) (x7o n) [] := by
  have := x6p (K := K) (H := H) (w := w) (o := o) ((List.range n).map Int.ofNat)
  rw [List.map_map, List.map_map] at this
  exact this
section
variable {X : Cx} {tg a b c e : Expr} {fa fb fc f : Den} {ga gb gc : x1y} {pos p : Pos}
@[simp] noncomputable def x10 (g : x1h) : y0l := fun ρ => match g ρ with
  | some ([.int n], ρ1) => if -1000 <= n /\ n <= 1000 then some (x16 n.toNat, ρ1) else none
  | _ => none
theorem y5a {g : x1h} (hm : X.mg "range" = none) (ha : PDA X [a] g) (hg : Gl X "range" := by rfl) (hs : starEach [a] X.env = [(false, eval a X.env)] := by rfl) : PDI X tg (.Call (.Name "range" p) [a] [] pos) (x10 g) := PI.imp (y6k hg hm ha hs) fun σ H R hh0 => by
  obtain ⟨ρ, w, t, ds, ρ', gd, ee, k⟩ := hh0
  unfold x10 at ee
  split at ee
  · rename_i n ρ1 h1
    split at ee
    · rename_i hn
      cases ee
      refine ⟨ρ, w, t, [.int n], _, gd, h1, fun vs H1 w1 g1 go1 r1 => ?_⟩
      have hv : vs = [.int n] := by
        have l := r1.length
        match vs, l with
        | [v], _ =>
          obtain ⟨v', h1, h2⟩ := r1.get (i := 0) rfl
          cases h1
          rw [x3k h2]
      subst hv
      refine ⟨n, rfl, by omega, by omega, k _ _ H1 w1 g1 go1 It.range trivial ?_⟩
      rw [x0q]
      exact x48 (by omega)
    · cases ee
  · cases ee
noncomputable def z9p (K : PySem.W.Frag) (tl : TE) : TI := fun σ H R => tl σ H fun x H1 => ∃ a, x = .ref a /\ (((∃ xs, SqL K H1 a xs) /\ R (Itl K a) H1) \/ ((∃ xs, SqT K H1 a xs) /\ R (Itt K a) H1))
theorem z5j {l : Expr} {tl : TE} (hl : PE X l tl) : PI X tg l (z9p X.K tl) := by
  intro pins s σ H R I h
  refine thn (hl pins s σ H _ I h) fun v s1 ⟨x, H1, I1, r1, q1⟩ => ?_
  obtain ⟨a, e, q⟩ := q1
  subst e
  cases r1
  rcases q with ⟨⟨xs, hq⟩, q⟩ | ⟨⟨xs, hq⟩, q⟩
  · obtain ⟨its, rv, p, hz⟩ := I1.list hq
    refine wpAny_pyIter_list p.isList ?_
    refine ⟨s1.heap.objs.size, [s1.heap.objs.size], _, _, H1, rfl, I1.kept (t' := s1.toks) fun b o e => Heap.get?_push_of_some _ e, y5j a _, ⟨_, Heap.get?_push_size _ rfl, rfl, rfl⟩, fun b hb => ?_, q⟩
    have e : b = s1.heap.objs.size := by simpa using hb
    subst e
    exact I1.fpOk (Nat.le_refl _) (I1.hok.fresh (Nat.le_refl _))
  · obtain ⟨its, rv, p, hz⟩ := I1.tuple hq
    refine wpAny_pyIter_tuple (show s1.heap.IsTuple a its.toArray from p) ?_
    refine ⟨s1.heap.objs.size, [s1.heap.objs.size], _, _, H1, rfl, I1.kept (t' := s1.toks) fun b o e => Heap.get?_push_of_some _ e, y53 a _, ⟨_, Heap.get?_push_size _ rfl, rfl, rfl⟩, fun b hb => ?_, q⟩
    have e : b = s1.heap.objs.size := by simpa using hb
    subst e
    exact I1.fpOk (Nat.le_refl _) (I1.hok.fresh (Nat.le_refl _))
@[simp] noncomputable def x9l (f : Den) : y0l := fun ρ => match f ρ with
  | some (.lst ds, _, ρ1) => if ds.length <= 1000 then some (ds, ρ1) else none
  | some (.tup ds, _, ρ1) => if ds.length <= 1000 then some (ds, ρ1) else none
  | _ => none
theorem z0m (ha : PD X a fa) : PDI X tg a (x9l fa) := PI.imp (z5j ha) fun σ H R hh0 => by
  obtain ⟨ρ, w, t, ds, ρ', gd, ee, k⟩ := hh0
  unfold x9l at ee
  split at ee
  · rename_i ds' q ρ1 h1
    split at ee
    · rename_i hl
      cases ee
      refine ⟨ρ, w, t, .lst ds, q, ρ', gd, h1, fun v H1 w1 F g1 go1 r1 => ?_⟩
      have r0 := r1.drop (o := .f) (Nat.le_refl t)
      cases r0 with
      | kl h r => exact ⟨_, rfl, .inl ⟨⟨_, h.sq⟩, k _ _ H1 (x1j t w1) g1.drop (go1.drop gd.wt) (It.list r.length) ⟨.inl h, r⟩ (x48 hl)⟩⟩
      | shr h n r => exact ⟨_, rfl, .inl ⟨⟨_, .inl h⟩, k _ _ H1 (x1j t w1) g1.drop (go1.drop gd.wt) (It.list r.length) ⟨.inr ⟨h, n⟩, r⟩ (x48 hl)⟩⟩
    · cases ee
  · rename_i ds' q ρ1 h1
    split at ee
    · rename_i hl
      cases ee
      refine ⟨ρ, w, t, .tup ds, q, ρ', gd, h1, fun v H1 w1 F g1 go1 r1 => ?_⟩
      have r0 := r1.drop (o := .f) (Nat.le_refl t)
      cases r0 with
      | tup h r => exact ⟨_, rfl, .inr ⟨⟨_, SqT.of h⟩, k _ _ H1 (x1j t w1) g1.drop (go1.drop gd.wt) (It.tup r.length) ⟨SqT.of h, r⟩ (x48 hl)⟩⟩
    · cases ee
  · cases ee
end
noncomputable abbrev x5w := D -> Rho -> Option Rho
noncomputable def tDG (K : PySem.W.Frag) (b : Nat) (pt : x5w) : TG := fun v σ H Q => ∃ d ρ w t ρ', Good K ρ σ H w t /\ Rep K H w .f 0 d v [] /\ pt d ρ = some ρ' /\ ∀ σ' H' w', σ'.length = σ.length -> (∀ i, i < b -> σ'[i]? = σ[i]?) -> Good K ρ' σ' H' w' t -> Go H w H' w' -> Q σ' H'
theorem PG.imp {X : Cx} {tg : Expr} {t t' : TG} (h : PG X tg t) (i : ∀ v σ H Q, t' v σ H Q -> t v σ H Q) : PG X tg t' := fun pins s σ H v u Q I r q => h pins s σ H v u Q I r (i v σ H Q q)
noncomputable abbrev PDG (X : Cx) (b : Nat) (tg : Expr) (pt : x5w) : Prop := PG X tg (tDG X.K b pt)
@[simp] noncomputable def x0o (i : Nat) : x5w := fun d ρ => if i < ρ.length then some (ρ.set i (some (d, x85 d))) else none
theorem Good.setV {K : PySem.W.Frag} {ρ : Rho} {σ : St} {H : Hp} {w : Wn} {t i : Nat} {d : D} {v : V} (g : Good K ρ σ H w t) (hi : i < σ.length) (r : Rep K H w .f 0 d v []) :
    Good K (ρ.set i (some (d, x85 d))) (σ.set i (some v)) H (x4t i w) t /\ Go H w H (x4t i w) := by
  have st : x7w H w H (x4t i w) := fun a x h n => ⟨h, x45 n⟩
  refine ⟨⟨fun a o h => g.wl a o (x2k h).1, fun a j h => by rw [List.length_set]; exact g.ws a j (x2k h).1, fun a j h => g.wt a j (x2k h).1, by rw [List.length_set, List.length_set]; exact g.len, fun j d' q' e' => ?_⟩, ⟨st, fun a o h n => ⟨rfl, x5v h (n i)⟩⟩⟩
  by_cases hj : i = j
  · subst hj
    rw [List.getElem?_set_self (by rw [g.len]; exact hi)] at e'
    cases e'
    exact ⟨v, [], List.getElem?_set_self hi, (Rep.go g.wl st r (fun _ z => nomatch z) : Rep K H (x4t i w) (.s i) 0 d v []).dep⟩
  · rw [List.getElem?_set_ne hj] at e'
    obtain ⟨v', F, h1, h2⟩ := g.slot j d' q' e'
    exact ⟨v', F, by rw [List.getElem?_set_ne hj]; exact h1, Rep.go g.wl st h2 fun a m => ⟨rfl, x5v (h2.owns a m) (fun z => hj (by cases z; rfl))⟩⟩
theorem y86 {X : Cx} {b i : Nat} {x : Str} {pos : Pos} (hb : b <= i) (hN : X.N.Nodup) (hi : X.N[i]? = some x) (hx : Loc X.env.scope x) (hf : X.fn x = true \/ X.env.scope.names.lookup x = some .local := by first | exact .inl rfl | exact .inr rfl) : PDG X b (.Name x pos) (x0o i) := PG.imp (z3q hN hi hx hf) fun v σ H Q hh0 => by
  obtain ⟨d, ρ, w, t, ρ', g, r, e, k⟩ := hh0
  unfold x0o at e
  split at e
  · rename_i hl
    cases e
    obtain ⟨a1, a2⟩ := g.setV (by rw [<- g.len]; exact hl) r
    exact k _ _ _ (by rw [List.length_set]) (fun j hj => List.getElem?_set_ne (by omega)) a1 a2
  · cases e
noncomputable def x98 (pt : x5w) (body : x1c) : List D -> Rho -> Option Out
  | [], ρ => some (.nx ρ)
  | d :: ds, ρ => match pt d ρ with
    | none => none
    | some ρ1 => match body ρ1 with
      | some (.nx ρ2) => x98 pt body ds ρ2
      | some (.ct ρ2) => x98 pt body ds ρ2
      | some (.bk ρ2) => some (.nx ρ2)
      | o => o
@[simp] noncomputable def x7i (it : y0l) (pt : x5w) (body : x1c) : x1c := fun ρ => match it ρ with
  | some (ds, ρ1) => x98 pt body ds ρ1
  | none => none
theorem Reps.go0 {K : PySem.W.Frag} {H H' : Hp} {w w' : Wn} {ds : List D} {vs : List V} (r : Reps K H w .f 0 ds vs []) (wl : WL w H) (st : x7w H w H' w') : Reps K H' w' .f 0 ds vs [] := Reps.go wl st r (fun _ z => nomatch z)
theorem Rep.go0 {K : PySem.W.Frag} {H H' : Hp} {w w' : Wn} {ds : D} {vs : V} (r : Rep K H w .f 0 ds vs []) (wl : WL w H) (st : x7w H w H' w') : Rep K H' w' .f 0 ds vs [] := Rep.go wl st r (fun _ z => nomatch z)
theorem Reps.drop0 {K : PySem.W.Frag} {H : Hp} {w : Wn} : ∀ {ds : List D} {vs : List V} (i : Nat), Reps K H w .f 0 ds vs [] -> Reps K H w .f 0 (ds.drop i) (vs.drop i) []
  | _, _, 0, r => r
  | ds, vs, i + 1, r => by
    generalize hF : ([] : List Addr) = F at r
    cases r with
    | nil => exact .nil
    | cons r s _ =>
      have h2 := s.zero
      have h1 := r.zero
      subst h2
      subst h1
      exact Reps.drop0 i s
theorem Good.more {K : PySem.W.Frag} {ρ : Rho} {σ : St} {H H' : Hp} {w : Wn} {t : Nat} (g : Good K ρ σ H w t) (h : ∀ a o, H a = some o -> H' a = some o) : Good K ρ σ H' w t /\ Go H w H' w := by
  have st : x7w H w H' w := fun a x e n => ⟨h a x e, n⟩
  have kp : ∀ a o, w a = some o -> H' a = H a := fun a o e => by
    obtain ⟨vs, q⟩ := g.wl a o e
    rw [q, h a _ q]
  refine ⟨⟨fun a o e => ?_, g.ws, g.wt, g.len, fun i d q e => ?_⟩, st, fun a o e _ => ⟨kp a o e, e⟩⟩
  · obtain ⟨vs, q⟩ := g.wl a o e
    exact ⟨vs, h a _ q⟩
  · obtain ⟨v, F, h1, h2⟩ := g.slot i d q e
    exact ⟨v, F, h1, Rep.go g.wl st h2 fun a m => ⟨kp a _ (h2.owns a m), h2.owns a m⟩⟩
theorem z2p {X : Cx} {tg iter : Expr} {body : List Stmt} {it : y0l} {pt : x5w} {s : x1c} {pos : Pos} (hp : PassesOwn (model X.prog X.w) X.A X.env X.xe) (hc : X.calm = true) (hi : PDI X tg iter it) (hg : PDG X 0 tg pt) (hb : y5g X body s)
    (hs : ∀ x, foldedSetIterable iter X.env x = pure x := by intro _; rfl) : PDS X (.For tg iter body [] pos) (x7i it pt s) := PS.imp (z6c hp hc hi hg hb hs) fun D σ H hh0 => by
  obtain ⟨ρ, w, o, g, ee, k⟩ := hh0
  unfold x7i at ee
  split at ee
  · rename_i ds ρ1 h1
    refine ⟨ρ, w, 0, ds, ρ1, g, h1, fun J P H1 w1 g1 go1 ok p1 hl => ?_⟩
    refine ⟨fun i m σ' H' => m = ds.length - i /\ i <= ds.length /\ σ'.length = σ.length /\ ∃ ρ' w', Good X.K ρ' σ' H' w' 0 /\ P H' w' /\ x98 pt s (ds.drop i) ρ' = some o /\ x9h X.K D σ.length H' w' o,
      ⟨ds.length, by simp, Nat.zero_le _, rfl, ρ1, w1, g1, p1, ee, k.trans go1⟩, ?_⟩
    rintro i m σ' H' ⟨rfl, hile, hσ, ρ', w', g', p', e', k'⟩
    by_cases hlt : i < ds.length
    · refine .inr ⟨ok.go i H' w' p' hlt, fun σ2 H2 => ds.length - (i + 1) = ds.length - (i + 1) /\ i + 1 <= ds.length /\ σ2.length = σ.length /\ ∃ ρ2 w2, Good X.K ρ2 σ2 H2 w2 0 /\ P H2 w2 /\ x98 pt s (ds.drop (i + 1)) ρ2 = some o /\ x9h X.K D σ.length H2 w2 o,
        fun σ2 H2 n2 => ⟨ds.length - (i + 1), by omega, n2⟩, fun x H2 hy => ?_⟩
      obtain ⟨mo, rx, p2⟩ := ok.yld i H' w' x H2 ds[i] p' g'.wl (List.getElem?_eq_getElem hlt) hy
      obtain ⟨g2, go2⟩ := g'.more mo
      have ed : ds.drop i = ds[i] :: ds.drop (i + 1) := List.drop_eq_getElem_cons hlt
      rw [ed] at e'
      unfold x98 at e'
      split at e'
      · cases e'
      · rename_i ρ3 h3
        refine ⟨ds[i], ρ', w', 0, ρ3, g2, rx, h3, fun σ4 H4 w4 l4 _ g4 go4 => ?_⟩
        have p4 := ok.st _ _ _ _ p2 g2.wl go4.stab
        have nx : ∀ {ρ5 : Rho}, x98 pt s (ds.drop (i + 1)) ρ5 = some o -> ∀ σ5 H5 w5, σ5.length = σ4.length -> Good X.K ρ5 σ5 H5 w5 0 -> Go H4 w4 H5 w5 -> ds.length - (i + 1) = ds.length - (i + 1) /\ i + 1 <= ds.length /\ σ5.length = σ.length /\ ∃ ρ2 w2, Good X.K ρ2 σ5 H5 w2 0 /\ P H5 w2 /\ x98 pt s (ds.drop (i + 1)) ρ2 = some o /\ x9h X.K D σ.length H5 w2 o := fun {ρ5} e5 σ5 H5 w5 l5 g5 go5 =>
          ⟨rfl, hlt, by rw [l5, l4, hσ], ρ5, w5, g5, ok.st _ _ _ _ p4 g4.wl go5.stab, e5, k'.trans ((go2.trans go4).trans go5)⟩
        cases h6 : s ρ3 with
        | none => rw [h6] at e'; cases e'
        | some o6 =>
          rw [h6] at e'
          refine ⟨ρ3, w4, o6, g4, h6, ?_⟩
          cases o6 with
          | nx ρ5 => exact nx e'
          | ct ρ5 => exact nx e'
          | bk ρ5 =>
            cases e'
            exact fun σ5 H5 w5 l5 g5 go5 => k' σ5 H5 w5 (by rw [l5, l4, hσ]) g5 ((go2.trans go4).trans go5)
          | rt d q =>
            cases e'
            exact fun v H5 w5 F wl5 go5 r5 => k' v H5 w5 F wl5 ((go2.trans go4).trans go5) r5
    · have hi' : i = ds.length := Nat.le_antisymm hile (Nat.not_lt.mp hlt)
      subst hi'
      refine .inl ⟨ok.stop H' w' p', ?_⟩
      have ed : ds.drop ds.length = [] := by simp
      rw [ed] at e'
      cases e'
      exact k' σ' H' w' hσ g' Go.refl
  · cases ee
@[simp] noncomputable def x69 (n : Nat) (ds : List D) : Rho := ds.map (fun d => some (d, x85 d)) ++ List.replicate (n - ds.length) none
@[simp] noncomputable def fnD (n : Nat) (body : x1c) : List D -> Option (D × Nat) := fun ds => match body (x69 n ds) with
  | some (.rt d q) => some (d, q)
  | some (.nx _) => some (.non, 9)
  | _ => none
theorem x7g {K : PySem.W.Frag} {H : Hp} {w : Wn} {N : List Str} {ds : List D} {vs : List V} (hw : ∀ a o, w a = some o -> o = .f) (wl : WL w H) (r : Reps K H w .f 0 ds vs []) : Good K (x69 N.length ds) (x9b N vs) H w 0 := by
  refine ⟨wl, (fun a i e => by cases (hw a _ e)), (fun a i e => by cases (hw a _ e)), ?_, fun i d q e => ?_⟩
  · unfold x69 L2.x9b
    rw [List.length_append, List.length_append, List.length_map, List.length_map, List.length_replicate, List.length_replicate, r.length]
  · unfold x69 at e
    by_cases hi : i < ds.length
    · rw [List.getElem?_append_left (by simpa using hi), List.getElem?_map] at e
      cases h : ds[i]? with
      | none => rw [h] at e; cases e
      | some d' =>
        rw [h] at e
        cases e
        obtain ⟨v, hv, rv⟩ := r.get h
        refine ⟨v, [], ?_, (rv.any wl : Rep K H w (.s i) 0 d v []).dep⟩
        unfold L2.x9b
        rw [List.getElem?_append_left (by rw [List.length_map, <- r.length]; exact hi), List.getElem?_map, hv]
        rfl
    · rw [List.getElem?_append_right (by simpa using hi), List.getElem?_replicate] at e
      split at e <;> cases e
theorem y9t {K : PySem.W.Frag} {N : List Str} {n : Nat} {body : x1c} {vs : List V} {H : Hp} {Q : VK} {E : XK} (h : spD K n (fnD N.length body) vs H Q E) : tDS K body { nx := fun _ H' => Q .non H', rt := Q } (x9b N vs) H := by
  obtain ⟨hn, ds, w, r, q, hw, wl, rs, e, k⟩ := h
  unfold fnD at e
  split at e
  · rename_i d q' h1
    cases e
    exact ⟨_, w, _, x7g hw wl rs, h1, fun v H' w' F wl' go' r' => k v H' w' F go' wl' r'⟩
  · rename_i ρ' h1
    cases e
    exact ⟨_, w, _, x7g hw wl rs, h1, fun σ' H' w' _ g' go' => k .non H' w' [] go' g'.wl .non⟩
  · cases e
theorem z3z {P : Program} {wd : World} {K : PySem.W.Frag} {mg : Str -> Option Value} {base : Heap} {x qual : Str} {st : Stmt} {f : Addr} {fd : FuncData} {N ps : List Str} {k : Nat} {body : x1c} (F : Fun K x qual st f fd) (S : FnScope N ps (x0d st))
    (h : ∀ (cdv : Value) (A : Around) (outer : List Env) (s : Shared) (H : Hp) (E : XK), Room k (A.deeper (envOfC qual (x0d st) s.heap.objs.size f cdv)) -> y5g (y5e CX0 P wd K mg base N qual (x0d st) f cdv A outer s H E).nox (x2r st) body) :
    FnOk P wd K mg base CX0 (k + 1) f fd ps (spD K ps.length (fnD N.length body)) :=
  F.ok S (fun vs H Q E h => h.1) fun cdv A outer s H vs Q E hr hsp => ⟨_, h cdv A outer s H E hr, y9t hsp⟩
noncomputable def x6t (k : Nat) (pt : x5w) (tt : x1y) (te : Den) (deep : Bool) : List D -> Rho -> Option (List D × Rho)
  | [], ρ => some ([], ρ)
  | d :: ds, ρ => match pt d (ρ ++ List.replicate k none) with
    | none => none
    | some ρ1 => match tt ρ1 with
      | none => none
      | some (b, ρ2) => if b = true then (match te ρ2 with
          | none => none
          | some (v, q, ρ3) => if deep = true /\ v.isL = true /\ q ≠ 1 then none else match x6t k pt tt te deep ds (ρ3.take ρ.length) with
            | none => none
            | some (vs, ρ4) => some (v :: vs, ρ4))
        else x6t k pt tt te deep ds (ρ2.take ρ.length)
@[simp] noncomputable def x3a (k : Nat) (it : y0l) (pt : x5w) (tt : x1y) (te : Den) (deep : Bool) : Den := fun ρ => match it ρ with
  | some (ds, ρ1) => match x6t k pt tt te deep ds ρ1 with
    | some (vs, ρ2) => some (.lst vs, if deep = true then 2 else 1, ρ2)
    | none => none
  | none => none
@[simp] noncomputable def x2m : x1y := fun ρ => some (true, ρ)
theorem Good.ext {K : PySem.W.Frag} {ρ : Rho} {σ : St} {H : Hp} {w : Wn} {t : Nat} (g : Good K ρ σ H w t) (k : Nat) : Good K (ρ ++ List.replicate k none) (σ ++ List.replicate k none) H w t := by
  refine ⟨g.wl, fun a i e => by rw [List.length_append]; exact Nat.lt_of_lt_of_le (g.ws a i e) (Nat.le_add_right _ _), g.wt, by rw [List.length_append, List.length_append, List.length_replicate, List.length_replicate, g.len], fun i d q e => ?_⟩
  by_cases hi : i < ρ.length
  · rw [List.getElem?_append_left hi] at e
    obtain ⟨v, F, h1, h2⟩ := g.slot i d q e
    exact ⟨v, F, by rw [List.getElem?_append_left (by rw [<- g.len]; exact hi)]; exact h1, h2⟩
  · rw [List.getElem?_append_right (by omega), List.getElem?_replicate] at e
    split at e <;> cases e
noncomputable def x33 (n : Nat) (w : Wn) : Wn := fun a => match w a with
  | some (.s i) => if n <= i then none else some (.s i)
  | x => x
theorem y0e {n : Nat} {w : Wn} {a : Addr} (h : w a = none) : x33 n w a = none := by unfold x33; rw [h]
theorem y3b {n : Nat} {w : Wn} {a : Addr} {i : Nat} (h : w a = some (.s i)) (hi : i < n) : x33 n w a = some (.s i) := by unfold x33; rw [h]; exact if_neg (by omega)
theorem y38 {n : Nat} {w : Wn} {a : Addr} {o : Ow} (h : w a = some o) (hn : ∀ i, o ≠ .s i) : x33 n w a = some o := by
  unfold x33; rw [h]
  cases o with
  | s i => exact absurd rfl (hn i)
  | t i => rfl
  | f => rfl
theorem x4z {n : Nat} {w : Wn} {a : Addr} {o : Ow} (h : x33 n w a = some o) : w a = some o /\ ∀ i, o = .s i -> i < n := by
  unfold x33 at h
  cases e : w a with
  | none => rw [e] at h; cases h
  | some o' =>
    rw [e] at h
    cases o' with
    | t i => cases h; exact ⟨rfl, fun i z => nomatch z⟩
    | f => cases h; exact ⟨rfl, fun i z => nomatch z⟩
    | s i =>
      dsimp only at h
      split at h
      · cases h
      · cases h; exact ⟨rfl, fun j z => by cases z; omega⟩
theorem Good.cut {K : PySem.W.Frag} {ρ : Rho} {σ τ : St} {H : Hp} {w : Wn} {t : Nat} (g : Good K ρ (σ ++ τ) H w t) : Good K (ρ.take σ.length) σ H (x33 σ.length w) t /\ Go H w H (x33 σ.length w) := by
  have st : x7w H w H (x33 σ.length w) := fun a x h n => ⟨h, y0e n⟩
  refine ⟨⟨fun a o e => g.wl a o (x4z e).1, fun a i e => (x4z e).2 i rfl, fun a i e => g.wt a i (x4z e).1, ?_, fun i d q e => ?_⟩, ⟨st, fun a o e n => ⟨rfl, y38 e n⟩⟩⟩
  · rw [List.length_take, g.len, List.length_append]
    omega
  · by_cases hi : i < σ.length
    · rw [List.getElem?_take_of_lt hi] at e
      obtain ⟨v, F, h1, h2⟩ := g.slot i d q e
      rw [List.getElem?_append_left hi] at h1
      exact ⟨v, F, h1, Rep.go g.wl st h2 fun a m => ⟨rfl, y3b (h2.owns a m) hi⟩⟩
    · rw [List.getElem?_take_eq_none (by omega)] at e
      cases e
theorem z8i {σ σ' τ : St} (l : σ'.length = (σ ++ τ).length) (h : ∀ i, i < σ.length -> σ'[i]? = (σ ++ τ)[i]?) : ∃ τ', σ' = σ ++ τ' /\ τ'.length = τ.length := by
  refine ⟨σ'.drop σ.length, ?_, by rw [List.length_drop, l, List.length_append]; omega⟩
  have e : σ'.take σ.length = σ := by
    apply List.ext_getElem?
    intro i
    by_cases hi : i < σ.length
    · rw [List.getElem?_take_of_lt hi, h i hi, List.getElem?_append_left hi]
    · rw [List.getElem?_take_eq_none (by omega), List.getElem?_eq_none (by omega)]
  conv => lhs; rw [<- List.take_append_drop σ.length σ', e]
noncomputable def dq (deep : Bool) : Nat := if deep = true then 1 else 0
noncomputable def x5y (deep : Bool) (t : Nat) (w : Wn) : Wn := fun a => if w a = some (.t (t + 1)) then (if deep = true then some (.t t) else none) else w a
theorem z9o {K : PySem.W.Frag} {ρ : Rho} {σ : St} {H : Hp} {w : Wn} {t q : Nat} {d : D} {v : V} {F : List Addr} {deep : Bool} (g : Good K ρ σ H w (t + 2)) (r : Rep K H w (.t (t + 1)) q d v F) (hq : ¬ (deep = true /\ d.isL = true /\ q ≠ 1)) :
    Good K ρ σ H (x5y deep t w) (t + 1) /\ (∃ F', Rep K H (x5y deep t w) (.t t) (dq deep) d v F' /\ ∀ a ∈ F', w a = some (.t (t + 1))) /\ x7w H w H (x5y deep t w) /\ (∀ a o, w a = some o -> o ≠ .t (t + 1) -> x5y deep t w a = some o) := by
  have hN : ∀ a, w a = none -> x5y deep t w a = none := fun a e => by unfold x5y; rw [e]; rfl
  have hO : ∀ a o, w a = some o -> o ≠ .t (t + 1) -> x5y deep t w a = some o := fun a o e n => by
    unfold x5y
    rw [if_neg (by rw [e]; exact fun z => n (Option.some.inj z))]
    exact e
  have hI : ∀ a o, x5y deep t w a = some o -> (w a = some (.t (t + 1)) /\ o = .t t) \/ (w a = some o /\ o ≠ .t (t + 1)) := fun a o e => by
    unfold x5y at e
    split at e
    · split at e
      · cases e; exact .inl ⟨by assumption, rfl⟩
      · cases e
    · rename_i n; exact .inr ⟨e, fun z => n (by rw [e, z])⟩
  have st : x7w H w H (x5y deep t w) := fun a x h n => ⟨h, hN a n⟩
  refine ⟨⟨fun a o e => ?_, fun a i e => ?_, fun a i e => ?_, g.len, fun i d' q' e' => ?_⟩, ?_, st, hO⟩
  · rcases hI a o e with ⟨z, _⟩ | ⟨z, _⟩ <;> exact g.wl a _ z
  · rcases hI a _ e with ⟨_, z⟩ | ⟨z, _⟩
    · cases z
    · exact g.ws a i z
  · rcases hI a _ e with ⟨_, z⟩ | ⟨z, n⟩
    · cases z; exact Nat.lt_succ_self _
    · have := g.wt a i z
      have : i ≠ t + 1 := fun z => n (by rw [z])
      omega
  · obtain ⟨v', F', h1, h2⟩ := g.slot i d' q' e'
    exact ⟨v', F', h1, Rep.go g.wl st h2 fun a m => ⟨rfl, hO a _ (h2.owns a m) (fun z => nomatch z)⟩⟩
  · cases deep with
    | false =>
      refine ⟨[], Rep.freeze hN r fun a m => ?_, fun _ z => nomatch z⟩
      unfold x5y
      rw [if_pos (r.owns a m)]
      rfl
    | true =>
      have hT : ∀ a, w a = some (.t (t + 1)) -> x5y true t w a = some (.t t) := fun a e => by unfold x5y; rw [if_pos e]; rfl
      cases hl : d.isL with
      | false =>
        obtain ⟨_, hr⟩ := r.nolist hl
        exact ⟨[], Rep.go g.wl st (hr 1) (fun _ z => nomatch z), fun _ z => nomatch z⟩
      | true =>
        have : q = 1 := by
          by_cases h : q = 1
          · exact h
          · exact absurd ⟨rfl, hl, h⟩ hq
        subst this
        exact ⟨F, Rep.go g.wl st r fun a m => ⟨rfl, hT a (r.owns a m)⟩, r.owns⟩
theorem z65 {K : PySem.W.Frag} {ρ : Rho} {σ : St} {H1 : Hp} {w1 : Wn} {t q : Nat} {p : Addr} {vs : List V} {ds : List D} {F : List Addr} (g : Good K ρ σ H1 w1 (t + 1)) (hp : H1 p = none) (r : Reps K H1 w1 (.t t) q ds vs F) :
    Good K ρ σ (upd H1 p (.lst vs)) (y7d p (.t t) w1) (t + 1) /\ Go H1 w1 (upd H1 p (.lst vs)) (y7d p (.t t) w1) /\ Rep K (upd H1 p (.lst vs)) (y7d p (.t t) w1) (.t t) (q + 1) (.lst ds) (.ref p) (p :: F) := by
  have ne : ∀ a x, H1 a = some x -> a ≠ p := fun a x e => x1i e hp
  have nw : ∀ a o, w1 a = some o -> a ≠ p := fun a o e => by obtain ⟨vs, q⟩ := g.wl a o e; exact ne a _ q
  have st : x7w H1 w1 (upd H1 p (.lst vs)) (y7d p (.t t) w1) := fun a x e n => ⟨by rw [x0p (ne a x e)]; exact e, by rw [x3b (ne a x e)]; exact n⟩
  refine ⟨⟨fun a o e => ?_, fun a i e => ?_, fun a i e => ?_, g.len, fun i d q e => ?_⟩, ⟨st, fun a o e _ => ⟨x0p (nw a o e), (x3b (nw a o e)).trans e⟩⟩, ?_⟩
  · by_cases h : a = p
    · subst h; exact ⟨vs, x26⟩
    · rw [x3b h] at e
      obtain ⟨us, q⟩ := g.wl a o e
      exact ⟨us, by rw [x0p h]; exact q⟩
  · by_cases h : a = p
    · subst h; rw [x4a] at e; cases e
    · rw [x3b h] at e; exact g.ws a i e
  · by_cases h : a = p
    · subst h; rw [x4a] at e; cases e; exact Nat.lt_succ_self _
    · rw [x3b h] at e; exact g.wt a i e
  · obtain ⟨v, F, h1, h2⟩ := g.slot i d q e
    exact ⟨v, F, h1, Rep.go g.wl st h2 fun a m => ⟨x0p (nw a _ (h2.owns a m)), (x3b (nw a _ (h2.owns a m))).trans (h2.owns a m)⟩⟩
  · exact .own x26 x4a (Reps.go g.wl st r fun a m => ⟨x0p (nw a _ (r.owns a m)), (x3b (nw a _ (r.owns a m))).trans (r.owns a m)⟩) fun m => absurd rfl (nw p _ (r.owns p m))
theorem y03 {K : PySem.W.Frag} {k : Nat} {it : y0l} {pt : x5w} {tt : x1y} {te : Den} {deep : Bool} : ∀ σ H Q, tD K (x3a k it pt tt te deep) σ H Q -> y9m k (tDI K it) (tDG K σ.length pt) (tDT K tt) (tD K te) σ H Q := fun σ H Q hh0 => by
  obtain ⟨ρ, w, t, r', q, ρ', g, ee, kk⟩ := hh0
  unfold x3a at ee
  split at ee
  · rename_i ds ρ1 h1
    split at ee
    · rename_i all ρ2 h2
      cases ee
      refine ⟨ρ, w, t, ds, ρ1, g, h1, fun J P H1 w1 g1 go1 ok p1 hl => ?_⟩
      refine ⟨fun i m ys H' => m = ds.length - i /\ i <= ds.length /\ ys.length <= i /\ ∃ ρ3 w3 zs F x25, Good K ρ3 σ H' w3 (t + 1) /\ Go H w H' w3 /\ P H' w3 /\ Reps K H' w3 (.t t) (dq deep) zs ys F /\
          x6t k pt tt te deep (ds.drop i) ρ3 = some (x25, ρ') /\ zs ++ x25 = all,
        ⟨ds.length, by simp, Nat.zero_le _, Nat.le_refl _, ρ1, w1, [], [], all, g1.up, go1, p1, .nil, h2, rfl⟩, ?_⟩
      rintro i m ys H' ⟨rfl, hile, hys, ρ3, w3, zs, F, x25, g0, go0, p0, rz0, e3, ez⟩
      have hsz : ys.length < sizeLine := by omega
      refine ⟨Nat.le_of_lt hsz, ?_⟩
      by_cases hlt : i < ds.length
      · refine .inr ⟨ok.go i H' w3 p0 hlt, hsz, fun x H2 hy => ?_⟩
        obtain ⟨mo, rx, p3⟩ := ok.yld i H' w3 x H2 ds[i] p0 g0.wl (List.getElem?_eq_getElem hlt) hy
        obtain ⟨g3, go2⟩ := g0.more mo
        have go3 := go0.trans go2
        have rz := rz0.gone g0.wl go2
        have ed : ds.drop i = ds[i] :: ds.drop (i + 1) := List.drop_eq_getElem_cons hlt
        rw [ed] at e3
        unfold x6t at e3
        split at e3
        · cases e3
        · rename_i ρ4 h4
          split at e3
          · cases e3
          · rename_i b ρ5 h5
            have gx := g3.ext k
            have lρ : ρ3.length = σ.length := g3.len
            refine ⟨ds[i], _, w3, t + 1, ρ4, gx, rx, h4, fun σ4 H4 w4 l4 s4 g4 go4 => ?_⟩
            obtain ⟨τ, rfl, lτ⟩ := z8i l4 s4
            refine ⟨⟨τ, rfl, by rw [lτ, List.length_replicate]⟩, ρ4, w4, t + 1, b, ρ5, g4, h5, fun H5 w5 g5 go5 => ?_⟩
            have p5 := ok.st _ _ _ _ (ok.st _ _ _ _ p3 g3.wl go4.stab) g4.wl go5.stab
            have z5 : Reps K H5 w5 (.t t) (dq deep) zs ys F := (rz.gone g3.wl go4).gone g4.wl go5
            cases b with
            | false =>
              rw [if_neg (by decide)] at e3
              dsimp only
              rw [if_neg (by decide)]
              obtain ⟨gc, goc⟩ := g5.cut
              rw [lρ] at e3
              refine ⟨ds.length - (i + 1), by omega, rfl, hlt, by omega, _, _, zs, F, x25, gc, (go3.trans go4).trans (go5.trans goc), ok.st _ _ _ _ p5 g5.wl goc.stab, z5.gone g5.wl goc, e3, ez⟩
            | true =>
              rw [if_pos rfl] at e3
              dsimp only
              rw [if_pos rfl]
              split at e3
              · cases e3
              · rename_i d6 q6 ρ6 h6
                split at e3
                · cases e3
                · rename_i hq6
                  split at e3
                  · cases e3
                  · rename_i vs7 ρ7 h7
                    cases e3
                    refine ⟨ρ5, w5, t + 1, d6, q6, ρ6, g5, h6, fun v H6 w6 F6 g6 go6 r6 => ?_⟩
                    obtain ⟨gs, ⟨F', rs, hF'⟩, sts, hOs⟩ := z9o g6 r6 hq6
                    obtain ⟨gc, goc⟩ := gs.cut
                    rw [lρ] at h7
                    have zs6 := z5.gone g5.wl go6
                    have zF : ∀ a ∈ F, w6 a = some (.t t) := zs6.owns
                    have zs7 : Reps K H6 (x5y deep t w6) (.t t) (dq deep) zs ys F := Reps.go g6.wl sts zs6 fun a m => ⟨rfl, hOs a _ (zF a m) (by intro z; cases z)⟩
                    have gos : Go H w H6 (x5y deep t w6) := by
                      have go : Go H w H6 w6 := (go3.trans go4).trans (go5.trans go6)
                      refine ⟨fun a x h n => ⟨(go.stab a x h n).1, (sts a x (go.stab a x h n).1 (go.stab a x h n).2).2⟩, fun a o h n => ⟨(go.keep a o h n).1, hOs a o (go.keep a o h n).2 fun z => ?_⟩⟩
                      subst z
                      have := g.wt a _ h
                      omega
                    refine ⟨ds.length - (i + 1), by omega, rfl, hlt, by rw [List.length_append]; simp; omega, _, _, zs ++ [d6], F ++ F', vs7, gc, gos.trans goc, ok.st _ _ _ _ (ok.st _ _ _ _ p5 g5.wl go6.stab |> fun q => ok.st _ _ _ _ q g6.wl sts) gs.wl goc.stab,
                      ?_, h7, by rw [List.append_assoc]; exact ez⟩
                    refine (Reps.snoc rs zs7 fun a m m' => ?_).gone gs.wl goc
                    have h1 := zF a m
                    rw [hF' a m'] at h1
                    cases h1
      · have hi' : i = ds.length := Nat.le_antisymm hile (Nat.not_lt.mp hlt)
        subst hi'
        refine .inl ⟨ok.stop H' w3 p0, fun p hp => ?_⟩
        have ed : ds.drop ds.length = [] := by simp
        rw [ed] at e3
        cases e3
        rw [List.append_nil] at ez
        subst ez
        obtain ⟨a1, a2, a3⟩ := z65 g0 hp rz0
        refine kk _ _ _ (p :: F) a1 (go0.trans a2) ?_
        cases deep <;> exact a3
    · cases ee
  · cases ee
section
variable {X : Cx} {k : Nat} {N' : List Str} {scope : Scope} {elt tg iter : Expr} {ifs : List Expr} {pos : Pos} {it : y0l} {pt : x5w} {tt : x1y} {te : Den}
noncomputable abbrev z5l (X : Cx) (ifs : List Expr) (f : x1y) : Prop := PTs X ifs (tDT X.K f)
theorem y7g : z5l X [] x2m := fun pins s σ H Q I hh0 => by
  obtain ⟨ρ, w, t, b, ρ', gd, ee, k⟩ := hh0
  cases ee
  exact z3d pins s σ H Q I (k H w gd Go.refl)
theorem y88 {c : Expr} {g : x1y} (h : PDT X c g) : z5l X [c] g := z2y h
theorem z0p (deep : Bool) (hc : X.calm = true) (S : CompOk X k N' scope) (hi : PDI X tg iter it) (hg : ∀ C s H fp, PDG (x1o X N' scope C s H fp) X.N.length tg pt) (ht : ∀ C s H fp, z5l (x1o X N' scope C s H fp) ifs tt) (he : ∀ C s H fp, PD (x1o X N' scope C s H fp) elt te)
    (hs : ∀ x, foldedSetIterable iter X.env x = pure x := by intro _; rfl) : PD X (.ListComp elt [⟨tg, iter, ifs, 0⟩] scope pos) (x3a k it pt tt te deep) := by
  intro pins s σ H Q I h
  have := y03 σ H Q h
  rw [I.len] at this
  exact z22 (N' := N') hc S hi hg ht he hs pins s σ H Q I this
theorem y92 {i : Nat} {y : Str} {py spos : Pos} (deep : Bool) (hN : X.N.Nodup) (hy : X.N[i]? = some y) (hx : Loc X.env.scope y) (hsw : swapsWith (.ListComp elt [⟨tg, iter, ifs, 0⟩] scope pos) (some (.Name y py)) spos.line X.env = pure true)
    (hc : X.calm = true) (S : CompOk X k N' scope) (hi : PDI X tg iter it) (hg : ∀ C s H fp, PDG (x1o X N' scope C s H fp) X.N.length tg pt) (ht : ∀ C s H fp, z5l (x1o X N' scope C s H fp) ifs tt) (he : ∀ C s H fp, PD (x1o X N' scope C s H fp) elt te)
    (hs : ∀ x, foldedSetIterable iter X.env x = pure x := by intro _; rfl) (hf : X.fn y = true \/ X.env.scope.names.lookup y = some .local := by first | exact .inl rfl | exact .inr rfl | assumption) :
    PDS X (.Assign [.Name y py] (.ListComp elt [⟨tg, iter, ifs, 0⟩] scope pos) spos) (x1n i (x3a k it pt tt te deep)) := by
  intro pins s σ H D I h
  have hl : i < σ.length := by rw [I.len]; exact (List.getElem?_eq_some_iff.mp hy).1
  refine z3c (N' := N') (te := tD X.K te) (tt := tDT X.K tt) (g := tDG X.K X.N.length pt) (wi := tDI X.K it) hN hy hx hsw hc S hi hg ht he hs hf pins s σ H D I ?_
  have z := y6s (te := y9m k (tDI X.K it) (tDG X.K σ.length pt) (tDT X.K tt) (tD X.K te)) hl (fun Q q => y03 σ H Q q) h
  rw [I.len] at z
  exact z
end
mutual
noncomputable def toP : D -> PyData
  | .non => .none
  | .bl b => .bool b
  | .int i => .int i
  | .str x => .str x
  | .tup ds => .tuple (x57 ds)
  | .lst ds => .list (x57 ds)
  | .dic _ _ => .none
  | .exc _ => .none
noncomputable def x57 : List D -> List PyData
  | [] => []
  | d :: ds => toP d :: x57 ds
end
mutual
noncomputable def x6a : D -> Bool
  | .dic _ _ => false
  | .exc _ => false
  | .tup ds => x8u ds
  | .lst ds => x8u ds
  | _ => true
noncomputable def x8u : List D -> Bool
  | [] => true
  | d :: ds => x6a d && x8u ds
end
noncomputable def okD (d : D) : Bool := x6a d && SeqAt.shaped (toP d)
theorem x81 {d : D} (h : okD d = true) : x6a d = true := (Bool.and_eq_true_iff.mp h).1
theorem x80 {d : D} (h : okD d = true) : SeqAt.shaped (toP d) = true := (Bool.and_eq_true_iff.mp h).2
noncomputable def eqD (d e : D) : Bool := PyData.eqv (toP d) (toP e)
section
variable {X : Cx} {pins : List (Addr × Obj)} {σ : St} {H : Hp} {s : Shared}
theorem Rep.reads (I : Inv X pins σ H s) {w : Wn} {o : Ow} : ∀ {q : Nat} {d : D} {v : V} {F : List Addr} {u : Value}, Rep X.K H w o q d v F -> x36 v u -> x6a d = true -> ∃ as, Reads s.heap u (toP d) as := by
  intro q d v F u r
  refine (Rep.rec (motive_1 := fun q d v F _ => ∀ u, x36 v u -> x6a d = true -> ∃ as, Reads s.heap u (toP d) as) (motive_2 := fun q ds vs F _ => ∀ us, x2a vs us -> x8u ds = true -> ∃ as, ReadsAll s.heap us (x57 ds) as) ?_ ?_ ?_ ?_ ?_ ?_ ?_ ?_ ?_ ?_ ?_ ?_ r : ∀ u, x36 v u -> x6a d = true -> ∃ as, Reads s.heap u (toP d) as) u
  · intro q u ru hn; cases ru; exact ⟨_, by unfold toP; exact .none⟩
  · intro q b u ru hn; cases ru; exact ⟨_, by unfold toP; exact .bool b⟩
  · intro q i u ru hn; obtain ⟨t, rfl⟩ := ru; exact ⟨_, by unfold toP; exact .int i t⟩
  · intro q x u ru hn; obtain ⟨t, rfl⟩ := ru; exact ⟨_, by unfold toP; exact .str x t⟩
  · intro q a vs ds h r ih u ru hn
    cases ru
    obtain ⟨its, rv, p, hz⟩ := I.tuple (SqT.of h)
    obtain ⟨as, ra⟩ := ih its rv (by unfold x6a at hn; exact hn)
    obtain ⟨ob, ho, hc, n, hd⟩ := p
    exact ⟨_, by unfold toP; exact .tuple ho hc hd ra⟩
  · intro q a ks vs ds h r ih u ru hn; cases hn
  · intro q a nm ob v h x n u ru hn; cases hn
  · intro a vs ds h r ih u ru hn
    cases ru
    obtain ⟨its, rv, p, hz⟩ := I.list h.sq
    obtain ⟨as, ra⟩ := ih its rv (by unfold x6a at hn; exact hn)
    obtain ⟨ob, ho, hc, n, hd⟩ := p.isList
    exact ⟨_, by unfold toP; exact .list ho hc hd ra⟩
  · intro a vs ds h n0 r ih u ru hn
    cases ru
    obtain ⟨its, rv, p, hz⟩ := I.list (.inl h)
    obtain ⟨as, ra⟩ := ih its rv (by unfold x6a at hn; exact hn)
    obtain ⟨ob, ho, hc, n, hd⟩ := p.isList
    exact ⟨_, by unfold toP; exact .list ho hc hd ra⟩
  · intro q a vs ds F h e r ne ih u ru hn
    cases ru
    obtain ⟨its, rv, p, hz⟩ := I.list (SqL.of h)
    obtain ⟨as, ra⟩ := ih its rv (by unfold x6a at hn; exact hn)
    obtain ⟨ob, ho, hc, n, hd⟩ := p.isList
    exact ⟨_, by unfold toP; exact .list ho hc hd ra⟩
  · intro q us ru hn; cases ru; exact ⟨_, by unfold x57; exact .nil⟩
  · intro q d v ds vs F G r s' ne ih1 ih2 us ru hn
    cases ru with
    | cons rv rvs =>
      unfold x8u at hn
      obtain ⟨as, ra⟩ := ih1 _ rv (Bool.and_eq_true_iff.mp hn).1
      obtain ⟨bs, rb⟩ := ih2 _ rvs (Bool.and_eq_true_iff.mp hn).2
      exact ⟨_, by unfold x57; exact .cons ra rb⟩
end
noncomputable def Is (K : PySem.W.Frag) (H : Hp) (d : D) (v : V) : Prop := ∃ w o q F, Rep K H w o q d v F
noncomputable def z8x (K : PySem.W.Frag) : R2 := fun x y H Q => ∃ d e, Is K H d x /\ Is K H e y /\ okD d = true /\ okD e = true /\ Q (.bl (eqD d e)) H
noncomputable def z8y (K : PySem.W.Frag) : R2 := fun x y H Q => ∃ d e, Is K H d x /\ Is K H e y /\ okD d = true /\ okD e = true /\ Q (.bl (!eqD d e)) H
noncomputable def inD (d : D) : D -> Option Bool
  | .lst ds => some ((x57 ds).any fun y => PyData.eqv y (toP d))
  | .tup ds => some ((x57 ds).any fun y => PyData.eqv y (toP d))
  | _ => none
noncomputable def z96 (K : PySem.W.Frag) (neg : Bool) : R2 := fun x y H Q => ∃ d e b, Is K H d x /\ Is K H e y /\ okD d = true /\ okD e = true /\ inD d e = some b /\ Q (.bl (if neg then !b else b)) H
section
variable {X : Cx} {a b c e : Expr} {fa fb fc f : Den} {pos : Pos}
theorem z0k (hu : X.A.units + 64 < cLine) : OpR X (compareOp .Eq) (z8x X.K) := by
  intro pins s σ H x y v u Q I rx ry ⟨d, e, ⟨w, o, q, F, h1⟩, ⟨w', o', q', F', h2⟩, k1, k2, hq⟩
  obtain ⟨as, ra⟩ := h1.reads I rx (x81 k1)
  obtain ⟨bs, rb⟩ := h2.reads I ry (x81 k2)
  exact eq_dataH ra rb (x80 k1) (x80 k2) hu ⟨.bl _, H, I, rfl, hq⟩
theorem z5a (hu : X.A.units + 64 < cLine) : OpR X (compareOp .NotEq) (z8y X.K) := by
  intro pins s σ H x y v u Q I rx ry ⟨d, e, ⟨w, o, q, F, h1⟩, ⟨w', o', q', F', h2⟩, k1, k2, hq⟩
  obtain ⟨as, ra⟩ := h1.reads I rx (x81 k1)
  obtain ⟨bs, rb⟩ := h2.reads I ry (x81 k2)
  exact ne_dataH ra rb (x80 k1) (x80 k2) hu ⟨.bl _, H, I, rfl, hq⟩
theorem z5n (hu : X.A.units + 65 < cLine) : OpR X (compareOp .In) (z96 X.K false) := by
  intro pins s σ H x y v u Q I rx ry ⟨d, e, b, ⟨w, o, q, F, h1⟩, ⟨w', o', q', F', h2⟩, k1, k2, hb, hq⟩
  obtain ⟨as, ra⟩ := h1.reads I rx (x81 k1)
  obtain ⟨bs, rb⟩ := h2.reads I ry (x81 k2)
  replace k1 := x80 k1
  replace k2 := x80 k2
  cases e with
  | lst ds =>
    cases hb
    unfold toP at rb k2
    exact SeqAt.in_list_reads rb ra (SeqAt.canLay_of_shaped k2) (SeqAt.canLay_of_shaped k1) (room_in_shaped k1 hu) ⟨.bl _, H, I, rfl, hq⟩
  | tup ds =>
    cases hb
    unfold toP at rb k2
    exact SeqAt.in_tuple_reads rb ra (SeqAt.canLay_of_shaped k2) (SeqAt.canLay_of_shaped k1) (room_in_shaped k1 hu) ⟨.bl _, H, I, rfl, hq⟩
  | _ => cases hb
noncomputable def dEq (x y : D) : Option D := if okD x = true /\ okD y = true then some (.bl (eqD x y)) else none
noncomputable def dNe (x y : D) : Option D := if okD x = true /\ okD y = true then some (.bl (!eqD x y)) else none
noncomputable def dIn (x y : D) : Option D := if okD x = true /\ okD y = true then (inD x y).map fun b => .bl b else none
theorem hEq {K : PySem.W.Frag} : ∀ σ H Q, tD K (e2 dEq fa fb) σ H Q -> tOp (z8x K) (tD K fa) (tD K fb) σ H Q := y04 fun x y d h => by
  unfold dEq at h
  split at h
  · rename_i hk
    cases h
    exact ⟨_, rfl, fun H w o o' q q' u u' F F' r1 r2 _ Q hq => ⟨x, y, ⟨_, _, _, _, r1⟩, ⟨_, _, _, _, r2⟩, hk.1, hk.2, hq⟩⟩
  · cases h
theorem hNe {K : PySem.W.Frag} : ∀ σ H Q, tD K (e2 dNe fa fb) σ H Q -> tOp (z8y K) (tD K fa) (tD K fb) σ H Q := y04 fun x y d h => by
  unfold dNe at h
  split at h
  · rename_i hk
    cases h
    exact ⟨_, rfl, fun H w o o' q q' u u' F F' r1 r2 _ Q hq => ⟨x, y, ⟨_, _, _, _, r1⟩, ⟨_, _, _, _, r2⟩, hk.1, hk.2, hq⟩⟩
  · cases h
theorem hIn {K : PySem.W.Frag} : ∀ σ H Q, tD K (e2 dIn fa fb) σ H Q -> tOp (z96 K false) (tD K fa) (tD K fb) σ H Q := y04 fun x y d h => by
  unfold dIn at h
  split at h
  · rename_i hk
    cases hi : inD x y with
    | none => rw [hi] at h; cases h
    | some b =>
      rw [hi] at h
      cases h
      exact ⟨_, rfl, fun H w o o' q q' u u' F F' r1 r2 _ Q hq => ⟨x, y, b, ⟨_, _, _, _, r1⟩, ⟨_, _, _, _, r2⟩, hk.1, hk.2, hi, hq⟩⟩
  · cases h
theorem z7x {k : Nat} (hr : Room k X.A) (ha : PD X a fa) (hb : PD X b fb) : PD X (.Compare a [.Eq] [b] pos) (e2 dEq fa fb) := z48 (z0k hr.units) hEq ha hb (y12 _)
theorem z4l {k : Nat} (hr : Room k X.A) (ha : PD X a fa) (hb : PD X b fb) : PDT X (.Compare a [.Eq] [b] pos) (x3d (e2 dEq fa fb)) := x8o (z0k hr.units) hEq ha hb (y12 _)
theorem z4b {k : Nat} (hr : Room k X.A) (ha : PD X a fa) (hb : PD X b fb) : PDT X (.Compare a [.NotEq] [b] pos) (x3d (e2 dNe fa fb)) := x8o (z5a hr.units) hNe ha hb (y12 _)
theorem u65 {k : Nat} {A : Around} (r : Room k A) : A.units + 65 < cLine := by have := r.un; omega
theorem z69 {k : Nat} (hr : Room k X.A) (ha : PD X a fa) (hb : PD X b fb) (hm : behindInMarks .In b = false := by with_unfolding_all rfl) : PDT X (.Compare a [.In] [b] pos) (x3d (e2 dIn fa fb)) := x8o (z5n (u65 hr)) hIn ha hb hm
end
@[simp] noncomputable def eB (h : List D -> Option D) (g : x1h) : Den := fun ρ => match g ρ with
  | some (ds, ρ1) => match h ds with
    | some d => some (d, 9, ρ1)
    | none => none
  | none => none
section
variable {X : Cx} {a b c e : Expr} {es : List Expr} {fa fb fc f : Den} {g : x1h} {pos p p1 p2 : Pos}
theorem y79 {K : PySem.W.Frag} {h : List D -> Option D} {r : List V -> Hp -> VK -> Prop} (hh : ∀ ds d, h ds = some d -> ∃ v, y0g d = some v /\ ∀ H w vs, WL w H -> Reps K H w .f 0 ds vs [] -> ∀ Q : VK, Q v H -> r vs H Q) :
    ∀ σ H Q, tD K (eB h g) σ H Q -> tCB r (tDA K g) σ H Q := fun σ H Q hh0 => by
  obtain ⟨ρ, w, t, r', q, ρ', gd, ee, k⟩ := hh0
  unfold eB at ee
  split at ee
  · rename_i ds ρ1 h1
    split at ee
    · rename_i d hd
      cases ee
      obtain ⟨v, hv, hr⟩ := hh ds _ hd
      exact ⟨ρ, w, t, ds, _, gd, h1, fun vs H1 w1 g1 go1 r1 => hr H1 w1 vs g1.wl r1 Q (k v H1 w1 [] g1.up go1 (y11 hv))⟩
    · cases ee
  · cases ee
theorem one {K : PySem.W.Frag} {H : Hp} {w : Wn} {o : Ow} {d : D} {vs : List V} (r : Reps K H w o 0 [d] vs []) : ∃ v, vs = [v] /\ Rep K H w o 0 d v [] := by
  have l := r.length
  match vs, l with
  | [v], _ =>
    obtain ⟨v', h1, h2⟩ := r.get (i := 0) rfl
    cases h1
    exact ⟨v, rfl, h2⟩
theorem two {K : PySem.W.Frag} {H : Hp} {w : Wn} {o : Ow} {d d' : D} {vs : List V} (r : Reps K H w o 0 [d, d'] vs []) : ∃ v v', vs = [v, v'] /\ Rep K H w o 0 d v [] /\ Rep K H w o 0 d' v' [] := by
  have l := r.length
  match vs, l with
  | [v, v'], _ =>
    obtain ⟨u, h1, h2⟩ := r.get (i := 0) rfl
    obtain ⟨u', h3, h4⟩ := r.get (i := 1) rfl
    cases h1
    cases h3
    exact ⟨v, v', rfl, h2, h4⟩
noncomputable def x56 : D -> Option Nat
  | .lst ds => some ds.length
  | .tup ds => some ds.length
  | _ => none
@[simp] noncomputable def y0i : List D -> Option D
  | [d] => (x56 d).map fun n => .int (Int.ofNat n)
  | _ => none
theorem Rep.len {K : PySem.W.Frag} {H : Hp} {w : Wn} {o : Ow} {q : Nat} {d : D} {v : V} {F : List Addr} {n : Nat} (r : Rep K H w o q d v F) (h : x56 d = some n) : ∃ p ys, v = .ref p /\ (SqL K H p ys \/ SqT K H p ys) /\ ys.length = n := by
  cases d with
  | lst ds =>
    cases h
    obtain ⟨p, vs, q', G, rfl, hq, rs⟩ := r.seqL
    exact ⟨p, vs, rfl, .inl hq, rs.length.symm⟩
  | tup ds =>
    cases h
    obtain ⟨p, vs, rfl, hq, rs⟩ := r.seqT
    exact ⟨p, vs, rfl, .inr hq, rs.length.symm⟩
  | _ => cases h
theorem z64 (hm : X.mg "len" = none) (ha : PDA X [a] g) (hg : Gl X "len" := by rfl) (he : starEach [a] X.env = (false, eval a X.env) :: starEach [] X.env := by rfl) (hpl : (backTo pos (starEach [] X.env)).any (·.1) = false := by rfl) : PD X (.Call (.Name "len" p) [a] [] pos) (eB y0i g) :=
  PE.imp (x3y x5l hg hm PySem.boot_len ha (by decide) (by decide) he hpl) (y79 fun ds d h => by
    match ds, h with
    | [d0], h =>
      cases hl : x56 d0 with
      | none => simp only [y0i, hl, Option.map_none] at h; cases h
      | some n =>
        simp only [y0i, hl, Option.map_some, Option.some.injEq] at h
        subst h
        refine ⟨_, rfl, fun H w vs wl r Q hq => ?_⟩
        obtain ⟨v, rfl, rv⟩ := one r
        obtain ⟨p, ys, rfl, hs, hn⟩ := rv.len hl
        exact ⟨p, ys, rfl, hs, by rw [hn]; exact hq⟩)
@[simp] noncomputable def x13 (i : Nat) : Den := fun ρ => match ρ[i]? with
  | some (some (d, _)) => match x56 d with
    | some n => some (.int (Int.ofNat n), 9, ρ)
    | none => none
  | _ => none
theorem z20 {i : Nat} {x : Str} (hm : X.mg "len" = none) (h : PE X (.Name x p1) (x8p i)) (hg : Gl X "len" := by rfl) (he : starEach [.Name x p1] X.env = (false, eval (.Name x p1) X.env) :: starEach [] X.env := by rfl) (hpl : (backTo pos (starEach [] X.env)).any (·.1) = false := by rfl) : PD X (.Call (.Name "len" p) [.Name x p1] [] pos) (x13 i) :=
  PE.imp (x3y x5l hg hm PySem.boot_len (x3g h x6f he) (by decide) (by decide) he hpl) fun σ H Q hh0 => by
  obtain ⟨ρ, w, t, r', q, ρ', gd, ee, k⟩ := hh0
  unfold x13 at ee
  split at ee
  · rename_i d q0 e0
    split at ee
    · rename_i n hn
      cases ee
      obtain ⟨v, F, h1, h2⟩ := gd.slot i d q0 e0
      obtain ⟨p, ys, rfl, hs, hl⟩ := h2.len hn
      exact ⟨_, h1, p, ys, rfl, hs, by rw [hl]; exact k _ H w [] gd.up Go.refl (.int _)⟩
    · cases ee
  · cases ee
@[simp] noncomputable def z6l : List D -> Option D
  | [.int i, .int j] => some (.int (if j > i then j else i))
  | _ => none
theorem z37 (hc : X.calm = true) (hm : X.mg "max" = none) (hb : bootBuiltins "max" = some (.builtin "max")) (ha : PDA X (a :: es) g) (hg : Gl X "max" := by rfl) (he : starEach (a :: es) X.env = (false, eval a X.env) :: starEach es X.env := by rfl) (hpl : (backTo pos (starEach es X.env)).any (·.1) = false := by rfl) : PD X (.Call (.Name "max" p) (a :: es) [] pos) (eB z6l g) :=
  PE.imp (x3y (y6e hc) hg hm hb ha (by decide) (by decide) he hpl) (y79 fun ds d h => by
    unfold z6l at h
    split at h
    · rename_i i j
      cases h
      refine ⟨_, rfl, fun H w vs wl r Q hq => ?_⟩
      obtain ⟨v, v', rfl, r1, r2⟩ := two r
      exact ⟨i, j, by rw [x3k r1, x3k r2], hq⟩
    · cases h)
@[simp] noncomputable def x7f (g : x1h) : Den := fun ρ => match g ρ with
  | some ([.lst ds], ρ1) => some (.lst ds, 1, ρ1)
  | some ([.tup ds], ρ1) => some (.lst ds, 1, ρ1)
  | _ => none
theorem y5p (hm : X.mg "list" = none) (hb : bootBuiltins "list" = some (.type "list")) (ha : PDA X [a] g) (hg : Gl X "list" := by rfl) (he : starEach [a] X.env = (false, eval a X.env) :: starEach [] X.env := by rfl) (hpl : (backTo pos (starEach [] X.env)).any (·.1) = false := by rfl) : PD X (.Call (.Name "list" p) [a] [] pos) (x7f g) :=
  PE.imp (x6k y22 hg hm hb ha (by decide) (by decide) he hpl) fun σ H Q hh0 => by
  obtain ⟨ρ, w, t, r', q, ρ', gd, ee, k⟩ := hh0
  unfold x7f at ee
  split at ee
  · rename_i ds ρ1 h1
    cases ee
    refine ⟨ρ, w, t, _, _, gd, h1, fun vs H1 w1 g1 go1 r1 => ?_⟩
    obtain ⟨v, rfl, rv⟩ := one r1
    obtain ⟨p, ys, rfl, hs, rs⟩ := rv.seqL0
    refine ⟨p, ys, rfl, .inl hs, fun l hl => ?_⟩
    obtain ⟨a1, a2, a3⟩ := y2g g1 hl rs
    exact k _ _ _ _ a1 (go1.trans a2) a3
  · rename_i ds ρ1 h1
    cases ee
    refine ⟨ρ, w, t, _, _, gd, h1, fun vs H1 w1 g1 go1 r1 => ?_⟩
    obtain ⟨v, rfl, rv⟩ := one r1
    obtain ⟨p, ys, rfl, hs, rs⟩ := rv.seqT
    refine ⟨p, ys, rfl, .inr hs, fun l hl => ?_⟩
    obtain ⟨a1, a2, a3⟩ := y2g g1 hl rs
    exact k _ _ _ _ a1 (go1.trans a2) a3
  · cases ee
@[simp] noncomputable def x3i (g : x1h) : Den := fun ρ => match g ρ with
  | some ([.lst ds], ρ1) => some (.tup ds, 9, ρ1)
  | some ([.tup ds], ρ1) => some (.tup ds, 9, ρ1)
  | _ => none
theorem y9k (hm : X.mg "tuple" = none) (hb : bootBuiltins "tuple" = some (.type "tuple")) (ha : PDA X [a] g) (hg : Gl X "tuple" := by rfl) (he : starEach [a] X.env = (false, eval a X.env) :: starEach [] X.env := by rfl) (hpl : (backTo pos (starEach [] X.env)).any (·.1) = false := by rfl) : PD X (.Call (.Name "tuple" p) [a] [] pos) (x3i g) :=
  PE.imp (x6k y0w hg hm hb ha (by decide) (by decide) he hpl) fun σ H Q hh0 => by
  obtain ⟨ρ, w, t, r', q, ρ', gd, ee, k⟩ := hh0
  unfold x3i at ee
  split at ee
  · rename_i ds ρ1 h1
    cases ee
    refine ⟨ρ, w, t, _, _, gd, h1, fun vs H1 w1 g1 go1 r1 => ?_⟩
    obtain ⟨v, rfl, rv⟩ := one r1
    obtain ⟨p, ys, rfl, hs, rs⟩ := rv.seqL0
    refine ⟨p, ys, rfl, .inl ⟨hs, fun l hl => ?_⟩⟩
    obtain ⟨a1, a2, a3⟩ := x9r g1 hl rs
    exact k _ _ _ _ a1 (go1.trans a2) a3
  · rename_i ds ρ1 h1
    cases ee
    refine ⟨ρ, w, t, _, _, gd, h1, fun vs H1 w1 g1 go1 r1 => ?_⟩
    obtain ⟨v, rfl, rv⟩ := one r1
    have rr := rv
    obtain ⟨p, ys, rfl, hs, rs⟩ := rv.seqT
    refine ⟨p, ys, rfl, .inr ⟨hs, ?_⟩⟩
    exact k _ H1 w1 [] g1.up go1 (((rr.nolist rfl).2 9).any g1.wl)
  · cases ee
noncomputable def z02 (ta : TA) : TE := fun σ H Q => ta σ H fun vs H1 => ∃ j : Int, vs = [.int j] /\ -(2 ^ 62) <= j /\ j < 2 ^ 62 /\ ∀ p, H1 p = none -> Q (.ref p) (upd H1 p (.rng 0 j))
theorem y46 {ta : TA} (hg : Gl X "range") (hm : X.mg "range" = none) (ha : PA X [a] ta) (hs : starEach [a] X.env = [(false, eval a X.env)] := by rfl) : PE X (.Call (.Name "range" p) [a] [] pos) (z02 ta) := by
  intro pins s σ H Q I h
  refine Call_ (y17 I hg hm boot_range (PyProof.Rows.callWith_type1 (thn (ha pos pins s σ H _ I h) fun us s1 ⟨vs, H1, I1, r1, q1⟩ => ?_) hs rfl))
  obtain ⟨j, e, q1, q2, q⟩ := q1
  subst e
  cases r1 with
  | cons r rr =>
    cases rr
    obtain ⟨t, rfl⟩ := r
    refine call_range_1 ?_
    exact ⟨.ref s1.heap.objs.size, upd H1 s1.heap.objs.size (.rng 0 j), I1.laid (fun b u e => Heap.get?_push_of_some _ e) (Nat.le_refl _) ⟨_, _, _, Heap.get?_push_size _ rfl⟩, rfl, q _ (I1.hok.fresh (Nat.le_refl _))⟩
end
end L3
namespace L3
open PySem PySem.Spec PyProof.Rows L2
theorem x8c {j : Int} (h1 : -(2 ^ 62) <= j) (h2 : j < 2 ^ 62) : Builtin.Range.small 0 j 1 = true := by
  have hs : Builtin.Range.rangeSize 0 j 1 = ((j.toNat : Nat) : Int) := by
    simp [Builtin.Range.rangeSize] <;> split <;> omega
  simp only [Builtin.Range.small, hs, Builtin.Range.rangeFitsLong]
  simp
  omega
theorem y07 (j : Int) : Builtin.Range.rangeSize 0 j 1 = ((j.toNat : Nat) : Int) := by
  simp [Builtin.Range.rangeSize] <;> split <;> omega
theorem x9z {n : Nat} {acc : Array Value} (h : ItemsOf (fun i v => ∃ t, v = Value.int (0 + (i : Nat) * 1) t) acc n) : x2a (x7o n) acc.toList := by
  have key : ∀ (us : List Value) (k : Nat), (∀ j v, us[j]? = some v -> ∃ t, v = Value.int (((k + j : Nat)) : Int) t) -> x2a ((List.range' k us.length).map fun i => V.int (Int.ofNat i)) us := by
    intro us
    induction us with
    | nil => intro k _; exact .nil
    | cons u r ih =>
      intro k hk
      obtain ⟨t, e⟩ := hk 0 u rfl
      refine .cons ⟨t, by rw [e]; rfl⟩ (ih (k + 1) fun j v hv => ?_)
      obtain ⟨t', e'⟩ := hk (j + 1) v (by simpa using hv)
      exact ⟨t', by rw [e']; congr 2; omega⟩
  have := key acc.toList 0 fun j v hv => by
    obtain ⟨t, e⟩ := h.2 j v (by simpa using hv)
    exact ⟨t, by rw [e]; congr 1; omega⟩
  have hl : acc.toList.length = n := by simpa using h.1
  rw [hl] at this
  unfold x7o
  rw [List.range_eq_range']
  exact this
section
variable {prog : Program} {w : World} {A : Around} {E : Value -> Shared -> Prop} {s : Shared}
open AutoSeq1 (wpAny_loadPart')
theorem y0f {Q : List Value -> Shared -> Prop} {r : Addr} {a b c : Int} {t u v : Tok} {n : Nat} (hh : A.handled = none) (hr : IsRange s.heap r a b c t u v) (hsmall : Builtin.Range.small a b c = true) (hn : Builtin.Range.rangeSize a b c = n) (hlen : n <= 2 ^ 24)
    (hQ : ∀ h' tk acc', (∀ b o', s.heap.get? b = some o' -> h'.get? b = some o') -> ItemsOf (fun i v => ∃ t, v = .int (a + i * c) t) acc' n -> Q acc'.toList { s with heap := h', toks := tk }) :
    wpAny (model prog w) A (collect (.ref r)) Q E s := by
  unfold collect
  refine wpAny_bind (wpAny_runValue (codeAny_builtin F.entry_proto_collect ?_))
  rw [Around.under_plainId F.plain_proto_collect _]
  show wpAny _ A.in1 (newList [] >>= fun l => again (.builtin "list.__iadd__" ⟨[l, .ref r], []⟩)) _ _ s
  refine wpAny_bind (wpAny_newObj_type ?_)
  refine wpAny_pure ⟨plainId_quiet F.plain_list_iadd _, codeAny_builtin F.entry_list_iadd ?_⟩
  rw [Around.under_plainId F.plain_list_iadd _]
  show wpAny _ A.in1 (Builtin.List.listExtendWith (.ref s.heap.objs.size) (.ref r) (.ref s.heap.objs.size)) _ _ _
  have hS : (s.heap.push { cls := .type "list", data := .seq ([] : List Value).toArray }).get? s.heap.objs.size = some { cls := .type "list", data := .seq #[] 0 } := Heap.get?_push_size _ rfl
  have fin' : ∀ (h' : Heap) (tk : Nat) (acc' : Array Value) (c' : Nat), (∀ b o, b ≠ s.heap.objs.size -> (s.heap.push { cls := .type "list", data := .seq ([] : List Value).toArray }).get? b = some o -> h'.get? b = some o) ->
      h'.get? s.heap.objs.size = some { cls := .type "list", dict := none, data := .seq acc' c', slots := #[] } -> ItemsOf (fun i v => ∃ t, v = .int (a + i * c) t) acc' n -> wpAny (model prog w) A (match Value.ref s.heap.objs.size with
      | Value.ref a => do
        match (<- load a).data with
          | Data.seq xs _ => pure xs.toList
          | _ => unsupported "internal:collect"
      | _ => unsupported "internal:collect") Q E { s with heap := h', toks := tk } := fun h' tk acc' c' hk hS' hacc => by
    show wpAny _ A (load s.heap.objs.size >>= _) _ _ _
    refine wpAny_bind (wpAny_load hS' ?_)
    refine wpAny_pure (hQ h' tk acc' (fun b o' hb => ?_) hacc)
    exact hk b o' (Nat.ne_of_lt (Heap.lt_size hb)) (Heap.get?_push_of_some _ hb)
  refine wpAny_mono (wpAny_extend_range (A := A) (R := fun rs s' => rs = .ok (.ret (.ref s.heap.objs.size)) /\ ∃ h' tk acc' c', s' = { s with heap := h', toks := tk } /\ (∀ b o, b ≠ s.heap.objs.size -> (s.heap.push { cls := .type "list", data := .seq ([] : List Value).toArray }).get? b = some o -> h'.get? b = some o) /\
      h'.get? s.heap.objs.size = some { cls := .type "list", dict := none, data := .seq acc' c', slots := #[] } /\ ItemsOf (fun i v => ∃ t, v = .int (a + i * c) t) acc' n)
    (s := { s with heap := s.heap.push { cls := .type "list", data := .seq ([] : List Value).toArray } }) hh (Heap.get?_push_of_some _ hr) hsmall hn hlen s.heap.objs.size (.ref s.heap.objs.size) 0 hS (fun h' tk acc' c' hk hS' hacc => ⟨rfl, h', tk, acc', c', rfl, hk, hS', hacc⟩)) (fun fin s' h => ?_) (fun e s' h => ?_)
  · cases fin with
    | done f =>
      obtain ⟨e, h', tk, acc', c', rfl, hk, hS', hacc⟩ := h
      cases e
      exact fin' h' tk acc' c' hk hS' hacc
    | again c' => exact ⟨h.1, codeAny_mono h.2 fun r s'' hr => by
        obtain ⟨rfl, h', tk, acc', c', rfl, hk, hS', hacc⟩ := hr
        exact fin' h' tk acc' c' hk hS' hacc⟩
  · exact absurd h.1 (by simp)
end
theorem x5g (r : Addr) (a b c : Int) (t u v : Tok) (n : Nat) (hsmall : Builtin.Range.small a b c = true) (hn : Builtin.Range.rangeSize a b c = n) (hlen : n <= 2 ^ 24) :
    Meets (Builtin.«tuple.__new__» ⟨[.type "tuple", .ref r], []⟩)
      (fun A R s => A.handled = none /\ IsRange s.heap r a b c t u v /\ ∀ (h' : Heap) tk acc', (∀ b o', s.heap.get? b = some o' -> h'.get? b = some o') -> ItemsOf (fun i v => ∃ t, v = .int (a + i * c) t) acc' n -> R (.ok (.ret (.ref h'.objs.size))) { s with heap := h'.push { cls := .type "tuple", data := .seq acc' }, toks := tk }) :=
  .of_wp fun prog w A R s h => by
    obtain ⟨hp, g, d, tk, os⟩ := s; obtain ⟨hh, hr, h⟩ := h
    have hsub := sub_tuple_self
    have hinit := init_tuple_lookup
    have hmh := madeHere_tuple
    have hT : Shared.TypeIs ⟨hp, g, d, tk, os⟩ (.ref r) "range" := ⟨_, hr, rfl⟩
    have hh1 : A.in1.handled = none := hh
    wp_walk using AutoSeq1.wpAny_loadPart' hr, wpAny_typeOf hT, y0f hh1 hr hsmall hn hlen
    intro h' tk' acc' hk hacc
    show wpAny _ _ (Builtin.Tuple.tupleExact acc'.toList.toArray >>= fun v => ret v) _ _ _
    unfold Builtin.Tuple.tupleExact
    have hsz : acc'.size <= sizeLine := by rw [hacc.1]; exact hlen
    refine wpAny_bind (wpAny_newObj_type ?_ (by show acc'.toList.toArray.size <= sizeLine; simpa using hsz))
    refine wpAny_pure ⟨_, rfl, ?_⟩
    have e : acc'.toList.toArray = acc' := by simp
    rw [e]
    exact h h' tk' acc' hk hacc
theorem x83 {prog : Program} {w : World} {A : Around} {E : Value -> Shared -> Prop} {s : Shared} {r : Addr} {a b c : Int} {t u v : Tok} {n : Nat} {Q : Value -> Shared -> Prop} (hh : A.handled = none) (hr : IsRange s.heap r a b c t u v) (hsmall : Builtin.Range.small a b c = true) (hn : Builtin.Range.rangeSize a b c = n) (hlen : n <= 2 ^ 24)
    (h : ∀ (h' : Heap) tk acc', (∀ b o', s.heap.get? b = some o' -> h'.get? b = some o') -> ItemsOf (fun i v => ∃ t, v = .int (a + i * c) t) acc' n -> Q (.ref h'.objs.size) { s with heap := h'.push { cls := .type "tuple", data := .seq acc' }, toks := tk }) :
    wpAny (model prog w) A (call (.type "tuple") [.ref r]) Q E s :=
  callType_new F.called_tuple (by decide) (F.typeCall_tuple_1 _) (F.newCall_tuple_1 _) (fun obj => F.args_object_init_2 obj _) F.entry_tuple_new
    (x5g r a b c t u v n hsmall hn hlen) ⟨hh, hr, fun h' tk acc' hk hacc => ⟨⟨_, Heap.get?_push_size _ rfl, rfl⟩, h h' tk acc' hk hacc⟩⟩
section
variable {X : Cx}
noncomputable def z7u (mk : List V -> HO) : List V -> Hp -> VK -> Prop := fun xs H Q => ∃ a j, xs = [.ref a] /\ H a = some (.rng 0 j) /\ -1000 <= j /\ j <= 1000 /\ ∀ p, H p = none -> Q (.ref p) (upd H p (mk (x7o j.toNat)))
theorem y0v (hc : X.calm = true) : x7z X (.type "list") (z7u .lst) := by
  intro pins s σ H xs us Q I r h
  obtain ⟨a, j, rfl, hr, j1, j2, q⟩ := h
  obtain ⟨u, rfl, rx⟩ := y0t r
  cases rx
  obtain ⟨t, u, v, ho⟩ := (show x2d X.prog X.w H s.heap a (.rng 0 j) from I.hok a _ hr)
  refine call_list_range (I.ok.hd hc) ho (x8c (by omega) (by omega)) (y07 j) (by omega) fun h' tk acc' c' hk hS' hacc => ?_
  refine ⟨.ref s.heap.objs.size, _, I.laid (t' := tk) (o := .lst (x7o j.toNat)) hk (Nat.le_refl _) ⟨by rw [x9x]; exact Nat.le_trans (by omega : j.toNat <= 1000) (by decide), acc'.toList, c', x9z hacc, by simpa using hS'⟩, rfl, q _ (I.hok.fresh (Nat.le_refl _))⟩
theorem x9i (hc : X.calm = true) : x7z X (.type "tuple") (z7u .tup) := by
  intro pins s σ H xs us Q I r h
  obtain ⟨a, j, rfl, hr, j1, j2, q⟩ := h
  obtain ⟨u, rfl, rx⟩ := y0t r
  cases rx
  obtain ⟨t, u, v, ho⟩ := (show x2d X.prog X.w H s.heap a (.rng 0 j) from I.hok a _ hr)
  refine x83 (I.ok.hd hc) ho (x8c (by omega) (by omega)) (y07 j) (by omega) fun h' tk acc' hk hacc => ?_
  have I1 : Inv X pins σ H { s with heap := h', toks := tk } := I.kept hk
  have I2 : Inv X pins σ (upd H h'.objs.size (.tup (x7o j.toNat))) { s with heap := h'.push { cls := .type "tuple", data := .seq acc' }, toks := tk } :=
    I1.laid (t' := tk) (fun b o e => Heap.get?_push_of_some _ e) (Nat.le_refl _) (show x2d X.prog X.w _ _ _ (.tup _) from ⟨by rw [x9x]; exact Nat.le_trans (by omega : j.toNat <= 1000) (by decide), acc'.toList, x9z hacc, by simpa using x52.new h' acc'⟩)
  exact ⟨.ref h'.objs.size, _, I2, rfl, q _ (I1.hok.fresh (Nat.le_refl _))⟩
variable {a : Expr} {g : x1h} {pos p p1 pos1 : Pos}
@[simp] noncomputable def x6e (g : x1h) : Den := fun ρ => match x10 g ρ with
  | some (ds, ρ1) => some (.lst ds, 1, ρ1)
  | none => none
@[simp] noncomputable def z1c (g : x1h) : Den := fun ρ => match x10 g ρ with
  | some (ds, ρ1) => some (.tup ds, 9, ρ1)
  | none => none
theorem y1w {K : PySem.W.Frag} {mk : List V -> HO} {q0 : Nat} {md : List D -> D} (al : ∀ {ρ : Rho} {σ : St} {H1 : Hp} {w1 : Wn} {t : Nat} {p : Addr} {vs : List V} {ds : List D}, Good K ρ σ H1 w1 t -> H1 p = none -> Reps K H1 w1 .f 0 ds vs [] -> ∃ w' F, Good K ρ σ (upd H1 p (mk vs)) w' (t + 1) /\ Go H1 w1 (upd H1 p (mk vs)) w' /\ Rep K (upd H1 p (mk vs)) w' (.t t) q0 (md ds) (.ref p) F) :
    ∀ σ H Q, tD K (fun ρ => match x10 g ρ with
      | some (ds, ρ1) => some (md ds, q0, ρ1)
      | none => none) σ H Q -> tCB (z7u mk) (z4g (z02 (tDA K g)) z98) σ H Q := fun σ H Q hh0 => by
  obtain ⟨ρ, w, t, r', q, ρ', gd, ee, k⟩ := hh0
  dsimp only at ee
  split at ee
  · rename_i ds ρ1 h1
    cases ee
    unfold x10 at h1
    split at h1
    · rename_i n ρ2 h2
      split at h1
      · rename_i hn
        cases h1
        refine ⟨ρ, w, t, _, _, gd, h2, fun vs H1 w1 g1 go1 r1 => ?_⟩
        obtain ⟨v, rfl, rv⟩ := one r1
        have hv := x3k rv
        subst hv
        refine ⟨n, rfl, by omega, by omega, fun p hp => ⟨p, n, rfl, x26, hn.1, hn.2, fun l hl => ?_⟩⟩
        have ne : ∀ a x, H1 a = some x -> a ≠ p := fun a x e => x1i e hp
        have st : x7w H1 w1 (upd H1 p (.rng 0 n)) w1 := fun a x e nn => ⟨by rw [x0p (ne a x e)]; exact e, nn⟩
        have nw : ∀ a o, w1 a = some o -> a ≠ p := fun a o e => by obtain ⟨vs, q⟩ := g1.wl a o e; exact ne a _ q
        have g2 : Good K ρ' σ (upd H1 p (.rng 0 n)) w1 t := ⟨fun a o e => by
          obtain ⟨us, q⟩ := g1.wl a o e
          exact ⟨us, by rw [x0p (nw a o e)]; exact q⟩, g1.ws, g1.wt, g1.len, fun i d q e => by
          obtain ⟨v, F, h1, h2⟩ := g1.slot i d q e
          exact ⟨v, F, h1, Rep.go g1.wl st h2 fun a m => ⟨x0p (nw a _ (h2.owns a m)), h2.owns a m⟩⟩⟩
        have go2 : Go H1 w1 (upd H1 p (.rng 0 n)) w1 := ⟨st, fun a o e _ => ⟨x0p (nw a o e), e⟩⟩
        obtain ⟨w', F, a1, a2, a3⟩ := al g2 hl (y4s n.toNat)
        exact k _ _ _ _ a1 ((go1.trans go2).trans a2) a3
      · cases h1
    · cases h1
  · cases ee
theorem y8o (hc : X.calm = true) (hm : X.mg "list" = none) (hb : bootBuiltins "list" = some (.type "list")) (hmr : X.mg "range" = none) (ha : PDA X [a] g) (hg : Gl X "list" := by rfl) (hgr : Gl X "range" := by rfl) (hs : starEach [a] X.env = [(false, eval a X.env)] := by rfl)
    (he : starEach [.Call (.Name "range" p1) [a] [] pos1] X.env = (false, eval (.Call (.Name "range" p1) [a] [] pos1) X.env) :: starEach [] X.env := by rfl) (hpl : (backTo pos (starEach [] X.env)).any (·.1) = false := by rfl) : PD X (.Call (.Name "list" p) [.Call (.Name "range" p1) [a] [] pos1] [] pos) (x6e g) :=
  PE.imp (x6k (y0v hc) hg hm hb (x3g (y46 hgr hmr ha hs) x6f he) (by decide) (by decide) he hpl) (y1w fun g hp r => by
    obtain ⟨a1, a2, a3⟩ := y2g g hp r
    exact ⟨_, _, a1, a2, a3⟩)
theorem z3o (hc : X.calm = true) (hm : X.mg "tuple" = none) (hb : bootBuiltins "tuple" = some (.type "tuple")) (hmr : X.mg "range" = none) (ha : PDA X [a] g) (hg : Gl X "tuple" := by rfl) (hgr : Gl X "range" := by rfl) (hs : starEach [a] X.env = [(false, eval a X.env)] := by rfl)
    (he : starEach [.Call (.Name "range" p1) [a] [] pos1] X.env = (false, eval (.Call (.Name "range" p1) [a] [] pos1) X.env) :: starEach [] X.env := by rfl) (hpl : (backTo pos (starEach [] X.env)).any (·.1) = false := by rfl) : PD X (.Call (.Name "tuple" p) [.Call (.Name "range" p1) [a] [] pos1] [] pos) (z1c g) :=
  PE.imp (x6k (x9i hc) hg hm hb (x3g (y46 hgr hmr ha hs) x6f he) (by decide) (by decide) he hpl) (y1w fun g hp r => by
    obtain ⟨a1, a2, a3⟩ := x9r g hp r
    exact ⟨_, _, a1, a2, a3⟩)
end
end L3
namespace L3
open PySem PySem.Spec PyProof.Rows L2
theorem x84 {M : Model} {A : Around} {E : Value -> Shared -> Prop} {s : Shared} {β : Type} {n : Nat} (f : Nat -> β -> Sem (ForInStep β)) (I : List Nat -> β -> Shared -> Prop) (Q : β -> Shared -> Prop) (b : β)
    (turn : ∀ x x25 b s, I (x :: x25) b s -> wpAny M A (f x b) (fun r s' => match r with | .yield b' => I x25 b' s' | .done b' => Q b' s') E s)
    (fin : ∀ b s, I [] b s -> Q b s) (h : I (List.range' 0 n 1) b s) : wpAny M A (forIn [0:n] b f) Q E s := by
  rw [Std.Legacy.Range.forIn_eq_forIn_range']
  refine wpAny_forIn_list f I Q turn fin _ b ?_
  have e : (Std.Legacy.Range.size [0:n]) = n := by simp [Std.Legacy.Range.size]
  show I (List.range' 0 (Std.Legacy.Range.size [0:n]) 1) b s
  rw [e]
  exact h
open AutoSeq1 (wpAny_loadPart') in
theorem y0k (l : Addr) (items : Array Value) (n : Nat) (dd : Option Addr) (sl : Array (Option Value)) (x : Value) (e : Value -> Bool) (j : Nat) (hj : j < items.size) (hit : e items[j] = true) (hno : ∀ m (hm : m < items.size), m < j -> e items[m] = false) :
    Meets (Builtin.«tuple.index» ⟨[.ref l, x], []⟩)
      (fun A R s => s.heap.get? l = some { cls := .type "tuple", dict := dd, data := .seq items n, slots := sl } /\ (∀ y, y ∈ items -> SeqAt.EqAt A.in1 s y x (e y)) /\ R (.ok (.ret (.int j s.toks))) { s with toks := s.toks + 1 }) :=
  .of_wp fun prog w A R s h => by
    obtain ⟨hp, g, d, tk, os⟩ := s; obtain ⟨hl, he, h⟩ := h
    wp_walk using wpAny_loadPart' hl, x84 _ (fun x25 b s' => b.1 = none /\ s' = ⟨hp, g, d, tk, os⟩ /\ ∃ i k, x25 = List.range' i k 1 /\ i + k = items.size /\ i <= j) _
    case turn =>
      rintro y x25 b s' ⟨hb, rfl, i, k, hr, hik, hij⟩
      cases k with
      | zero => simp at hr
      | succ k =>
        rw [List.range'_succ] at hr
        obtain ⟨rfl, rfl⟩ := List.cons.inj hr
        have hlt : y < items.size := by omega
        have hget : items[y]? = some items[y] := by simp [hlt]
        rw [hget]
        refine wpAny_bind (he _ (Array.getElem_mem hlt) prog w _ _ ?_)
        by_cases hyj : y = j
        · subst hyj
          rw [hit]
          wp_walk
          exact ⟨_, rfl, h⟩
        · rw [hno y hlt (by omega)]
          wp_walk
          exact ⟨rfl, rfl, y + 1, k, rfl, by omega, by omega⟩
    case fin =>
      rintro ⟨b1, b2⟩ s' ⟨hb, rfl, i, k, hr, hik, hij⟩
      cases k with
      | zero => omega
      | succ k => simp [List.range'_succ] at hr
    case h =>
      exact ⟨rfl, rfl, 0, items.size, by simp, by omega, by omega⟩
end L3
namespace L3
open PySem PySem.Spec PyProof.Rows L2
noncomputable def z3r (d : D) (ds : List D) : Option Nat := (x57 ds).findIdx? fun y => PyData.eqv y (toP d)
noncomputable def z3g (K : PySem.W.Frag) : V -> List V -> Hp -> VK -> Prop := fun x xs H Q => ∃ ds d y j, xs = [y] /\ Is K H (.tup ds) x /\ Is K H d y /\ okD (.tup ds) = true /\ okD d = true /\ z3r d ds = some j /\ Q (.int (Int.ofNat j)) H
section
variable {X : Cx} {a b c e : Expr} {es : List Expr} {fa fb fc f : Den} {g : x1h} {pos p p1 p2 cpos apos : Pos}
theorem y5l (hu : X.A.units + 65 < cLine) : MtR X "tuple.index" (z3g X.K) := by
  intro pins s σ H x xs v us Q I rx rs ⟨ds, d, y, j, e, ⟨w, o, q, F, h1⟩, ⟨w', o', q', F', h2⟩, k1, k2, hj, hq⟩
  subst e
  obtain ⟨u, rfl, ru⟩ := y0t rs
  obtain ⟨as, ra⟩ := h1.reads I rx (x81 k1)
  obtain ⟨bs, rb⟩ := h2.reads I ru (x81 k2)
  replace k1 := x80 k1
  replace k2 := x80 k2
  unfold toP at ra k1
  have hc1 : PyData.canLayAll0 (x57 ds) = true := SeqAt.canLay_of_shaped k1
  have hc2 := SeqAt.canLay_of_shaped k2
  cases ra with
  | @tuple a ob vs n _ _ ho hcl hd hrs =>
    obtain ⟨cls, dd, data, sl⟩ := ob
    simp only at hcl hd
    subst hcl hd
    have hmap := SeqAt.readsAll_map _ _ _ hc1 hrs
    have hfi := List.findIdx?_eq_some_iff_getElem.mp hj
    obtain ⟨hjl, hjt, hjf⟩ := hfi
    have hlen : vs.size = (x57 ds).length := by rw [<- hmap]; simp
    have hat : ∀ m (hm : m < vs.size) (hm' : m < (x57 ds).length), SeqAt.readOf s.heap vs[m] = (x57 ds)[m] := fun m hm hm' => by
      have : (vs.toList.map (SeqAt.readOf s.heap))[m]? = (x57 ds)[m]? := by rw [hmap]
      simpa [hm, hm'] using this
    refine call_meets PySem.F.slot_tuple_index ⟨_, ho, rfl⟩ PySem.F.entry_tuple_index (PySem.F.args_tuple_index_2 _ _)
      (y0k a vs n dd sl u (fun y => PyData.eqv (SeqAt.readOf s.heap y) (toP d)) j (by omega) (by rw [hat j (by omega) hjl]; simpa using hjt) (fun m hm hmj => by rw [hat m hm (by omega)]; simpa using hjf m hmj)) ⟨ho, SeqAt.items_eqAt hrs rb hc1 hc2 (room_in_shaped k2 hu), ?_⟩
    exact ⟨.int (Int.ofNat j), H, I.tok _, ⟨_, rfl⟩, hq⟩
@[simp] noncomputable def y4d (fo : Den) (g : x1h) : Den := fun ρ => match fo ρ with
  | some (.tup ds, _, ρ1) => match g ρ1 with
    | some ([d], ρ2) => if okD (.tup ds) = true /\ okD d = true then match z3r d ds with
      | some j => some (.int (Int.ofNat j), 9, ρ2)
      | none => none
      else none
    | _ => none
  | _ => none
theorem y7t {k : Nat} (hr : Room k X.A) (ho : PD X a fa) (ha : PDA X [e] g)
    (hbase : attributeBase a "index" X.env (eval a X.env) = eval a X.env := by rfl)
    (hfew : ((backTo cpos (starEach [e] X.env)).all (fun x => !x.1) && (backToKw cpos (keywordEach [] X.env)).all (fun x => x.1.isSome)
      && decide ([e].length + ([] : List Keyword).length + (if ([] : List Keyword).isEmpty then 0 else 1) < 30)) = true := by rfl)
    (hline : (apos.endLine == cpos.line) = true := by rfl) (hs : starEach [e] X.env = (false, eval e X.env) :: starEach [] X.env := by rfl) (hplain : (backTo cpos (starEach [] X.env)).any (·.1) = false := by rfl) :
    PD X (.Call (.Attribute a "index" apos) [e] [] cpos) (y4d fa g) :=
  PE.imp (y5c PySem.F.plainAttrs_tuple PySem.F.slot_tuple_index PySem.F.type_tuple_index (y5l (u65 hr)) ho ha hbase hfew hline hs hplain) fun σ H Q hh0 => by
  obtain ⟨ρ, w, t, r', q, ρ', gd, ee, k⟩ := hh0
  unfold y4d at ee
  split at ee
  · rename_i ds q1 ρ1 h1
    split at ee
    · rename_i d ρ2 h2
      split at ee
      · rename_i hok
        split at ee
        · rename_i j hj
          cases ee
          refine ⟨ρ, w, t, _, _, _, gd, h1, fun v H1 w1 F1 g1 go1 r1 => ?_⟩
          have r0 := r1.drop (o := .f) (Nat.le_refl t)
          have gg := g1.drop (t' := t)
          obtain ⟨p0, vs, rfl, hq, rs⟩ := r0.tupAt
          refine ⟨?_, ρ1, x1j t w1, t, _, _, gg, h2, fun vs2 H2 w2 g2 go2 r2 => ?_⟩
          · exact .inr (.inl ⟨rfl, .inr ⟨_, hq⟩⟩)
          · obtain ⟨v2, rfl, rv2⟩ := one r2
            have r3 : Rep X.K H2 w2 .f 0 (.tup ds) (.ref p0) [] := r0.go0 gg.wl go2.stab
            exact ⟨ds, d, v2, j, rfl, ⟨_, _, _, _, r3⟩, ⟨_, _, _, _, rv2⟩, hok.1, hok.2, hj, k _ H2 w2 [] g2.up ((go1.drop gd.wt).trans go2) (.int _)⟩
        · cases ee
      · cases ee
    · cases ee
  · cases ee
theorem Good.mut {K : PySem.W.Frag} {ρ : Rho} {σ : St} {H : Hp} {w : Wn} {t i : Nat} {ds : List D} (g : Good K ρ σ H w t) (e : ρ[i]? = some (some (.lst ds, 1))) :
    ∃ l vs, σ[i]? = some (some (.ref l)) /\ H l = some (.lst vs) /\ Reps K H w .f 0 ds vs [] /\ ∀ ds' vs', Reps K H w .f 0 ds' vs' [] ->
      Good K (ρ.set i (some (.lst ds', 1))) σ (upd H l (.lst vs')) w t /\ Go H w (upd H l (.lst vs')) w := by
  obtain ⟨v, F, h1, h2⟩ := g.slot i _ _ e
  cases h2 with
  | @own _ l vs _ F' hl hw rs ne =>
    have hF := rs.zero
    subst hF
    refine ⟨l, vs, h1, hl, rs.any g.wl, fun ds' vs' r' => ?_⟩
    have nl : ∀ a o, w a = some o -> o ≠ .s i -> a ≠ l := fun a o e n z => by subst z; rw [hw] at e; exact n (Option.some.inj e).symm
    have nn : ∀ a, w a = none -> a ≠ l := fun a e z => by subst z; rw [hw] at e; cases e
    have st : x7w H w (upd H l (.lst vs')) w := fun a x h n => ⟨by rw [x0p (nn a n)]; exact h, n⟩
    refine ⟨⟨fun a o h => ?_, g.ws, g.wt, by rw [List.length_set]; exact g.len, fun j d' q' e' => ?_⟩, ⟨st, fun a o h n => ⟨x0p (nl a o h (n i)), h⟩⟩⟩
    · by_cases z : a = l
      · subst z; exact ⟨_, x26⟩
      · obtain ⟨us, q⟩ := g.wl a o h
        exact ⟨us, by rw [x0p z]; exact q⟩
    · by_cases hj : i = j
      · subst hj
        rw [List.getElem?_set_self (List.getElem?_eq_some_iff.mp e).1] at e'
        cases e'
        exact ⟨_, _, h1, .own x26 hw (Reps.go g.wl st r' (fun _ z => nomatch z)) (fun z => nomatch z)⟩
      · rw [List.getElem?_set_ne hj] at e'
        obtain ⟨v', F', h1', h2'⟩ := g.slot j d' q' e'
        exact ⟨v', F', h1', Rep.go g.wl st h2' fun a m => ⟨x0p (nl a _ (h2'.owns a m) (fun z => hj (by cases z; rfl))), h2'.owns a m⟩⟩
@[simp] noncomputable def y36 : Option (Option (D × Nat)) -> Bool
  | some (some (.lst _, _)) => true
  | _ => false
theorem Good.isL {K : PySem.W.Frag} {ρ : Rho} {σ : St} {H : Hp} {w : Wn} {t i : Nat} (g : Good K ρ σ H w t) (h : y36 ρ[i]? = true) : ∃ l, σ[i]? = some (some (.ref l)) /\ ∃ vs, SqL K H l vs := by
  unfold y36 at h
  split at h
  · rename_i ds q e
    obtain ⟨v, F, h1, h2⟩ := g.slot i _ _ e
    obtain ⟨p, vs, _, _, rfl, hq, _⟩ := h2.seqL
    exact ⟨p, h1, vs, hq⟩
  · cases h
@[simp] noncomputable def x7q (i : Nat) (g : x1h) : Den := fun ρ => if y36 ρ[i]? = true then match g ρ with
  | some ([d], ρ1) => match ρ1[i]? with
    | some (some (.lst ds, 1)) => if ds.length <= 1000 then some (.non, 9, ρ1.set i (some (.lst (ds ++ [d]), 1))) else none
    | _ => none
  | _ => none
  else none
theorem y6v {i : Nat} {x : Str} (h : PE X (.Name x p1) (x8p i)) (ha : PDA X [e] g)
    (hbase : attributeBase (.Name x p1) "append" X.env (eval (.Name x p1) X.env) = eval (.Name x p1) X.env := by rfl)
    (hfew : ((backTo cpos (starEach [e] X.env)).all (fun x => !x.1) && (backToKw cpos (keywordEach [] X.env)).all (fun x => x.1.isSome)
      && decide ([e].length + ([] : List Keyword).length + (if ([] : List Keyword).isEmpty then 0 else 1) < 30)) = true := by rfl)
    (hline : (apos.endLine == cpos.line) = true := by rfl) (hs : starEach [e] X.env = (false, eval e X.env) :: starEach [] X.env := by rfl) (hplain : (backTo cpos (starEach [] X.env)).any (·.1) = false := by rfl) :
    PD X (.Call (.Attribute (.Name x p1) "append" apos) [e] [] cpos) (x7q i g) :=
  PE.imp (y5c PySem.F.plainAttrs_list PySem.F.slot_list_append PySem.F.type_list_append y6b h ha hbase hfew hline hs hplain) fun σ H Q hh0 => by
  obtain ⟨ρ, w, t, r', q, ρ', gd, ee, k⟩ := hh0
  unfold x7q at ee
  split at ee
  · rename_i hl
    obtain ⟨l, hσ, us, hq⟩ := gd.isL hl
    split at ee
    · rename_i d ρ1 h1
      split at ee
      · rename_i ds e1
        split at ee
        · rename_i hlen
          cases ee
          refine ⟨_, hσ, .inl ⟨rfl, us, hq⟩, ρ, w, t, _, _, gd, h1, fun vs H1 w1 g1 go1 r1 => ?_⟩
          obtain ⟨v, rfl, rv⟩ := one r1
          obtain ⟨l', ws, hσ', hH, rs, mk⟩ := g1.mut e1
          rw [hσ] at hσ'
          cases hσ'
          have r2 : Reps X.K H1 w1 .f 0 (ds ++ [d]) (ws ++ [v]) [] := Reps.snoc (F := []) (G := []) rv rs (fun _ z => nomatch z)
          obtain ⟨m1, m2⟩ := mk _ _ r2
          refine ⟨l, ws, v, rfl, rfl, hH, by rw [<- rs.length]; exact x48 hlen, ?_⟩
          exact k .non _ w1 [] m1.up (go1.trans m2) .non
        · cases ee
      · cases ee
    · cases ee
  · cases ee
theorem Reps.eraseIdx {K : PySem.W.Frag} {H : Hp} {w : Wn} : ∀ {ds : List D} {vs : List V} (i : Nat), Reps K H w .f 0 ds vs [] -> Reps K H w .f 0 (ds.eraseIdx i) (vs.eraseIdx i) []
  | ds, vs, i, r => by
    generalize hF : ([] : List Addr) = F at r
    cases r with
    | nil => exact .nil
    | @cons _ d v ds vs F G r s _ =>
      have h1 : F = [] := r.zero
      have h2 : G = [] := s.zero
      subst h1 h2
      cases i with
      | zero => exact s
      | succ j => exact .cons (F := []) (G := []) r (Reps.eraseIdx j s) (fun _ z => nomatch z)
@[simp] noncomputable def y75 (i : Nat) (g : x1h) : Den := fun ρ => if y36 ρ[i]? = true then match g ρ with
  | some ([.int n], ρ1) => match ρ1[i]? with
    | some (some (.lst ds, 1)) => if -1000 <= n /\ n <= 1000 then match seqIndex? n ds.length with
      | some j => match ds[j]? with
        | some d => some (d, x85 d, ρ1.set i (some (.lst (ds.eraseIdx j), 1)))
        | none => none
      | none => none
      else none
    | _ => none
  | _ => none
  else none
theorem z49 {i : Nat} {x : Str} (h : PE X (.Name x p1) (x8p i)) (ha : PDA X [e] g)
    (hbase : attributeBase (.Name x p1) "pop" X.env (eval (.Name x p1) X.env) = eval (.Name x p1) X.env := by rfl)
    (hfew : ((backTo cpos (starEach [e] X.env)).all (fun x => !x.1) && (backToKw cpos (keywordEach [] X.env)).all (fun x => x.1.isSome)
      && decide ([e].length + ([] : List Keyword).length + (if ([] : List Keyword).isEmpty then 0 else 1) < 30)) = true := by rfl)
    (hline : (apos.endLine == cpos.line) = true := by rfl) (hs : starEach [e] X.env = (false, eval e X.env) :: starEach [] X.env := by rfl) (hplain : (backTo cpos (starEach [] X.env)).any (·.1) = false := by rfl) :
    PD X (.Call (.Attribute (.Name x p1) "pop" apos) [e] [] cpos) (y75 i g) :=
  PE.imp (y5c PySem.F.plainAttrs_list PySem.F.slot_list_pop PySem.F.type_list_pop y7n h ha hbase hfew hline hs hplain) fun σ H Q hh0 => by
  obtain ⟨ρ, w, t, r', q, ρ', gd, ee, k⟩ := hh0
  unfold y75 at ee
  split at ee
  · rename_i hl
    obtain ⟨l, hσ, us, hq⟩ := gd.isL hl
    split at ee
    · rename_i n ρ1 h1
      split at ee
      · rename_i ds e1
        split at ee
        · rename_i hn
          split at ee
          · rename_i j hj
            split at ee
            · rename_i d hd
              cases ee
              refine ⟨_, hσ, .inl ⟨rfl, us, hq⟩, ρ, w, t, _, _, gd, h1, fun vs H1 w1 g1 go1 r1 => ?_⟩
              obtain ⟨v, rfl, rv⟩ := one r1
              have hv := x3k rv
              subst hv
              obtain ⟨l', ws, hσ', hH, rs, mk⟩ := g1.mut e1
              rw [hσ] at hσ'
              cases hσ'
              obtain ⟨y, hy, ry⟩ := rs.get hd
              obtain ⟨m1, m2⟩ := mk _ _ (rs.eraseIdx j)
              refine ⟨l, ws, n, j, y, rfl, rfl, hH, by omega, by omega, by rw [<- rs.length]; exact hj, hy, ?_⟩
              have ry' : Rep X.K _ w1 (.t t) 0 r' y [] := Rep.go g1.wl m2.stab ry (fun _ z => nomatch z)
              exact k y _ w1 [] m1.up (go1.trans m2) ry'.dep
            · cases ee
          · cases ee
        · cases ee
      · cases ee
    · cases ee
  · cases ee
end
theorem Reps.getQ {K : PySem.W.Frag} {H : Hp} {w : Wn} {o : Ow} {q : Nat} : ∀ {ds : List D} {vs : List V} {F : List Addr} {i : Nat} {d : D}, Reps K H w o q ds vs F -> ds[i]? = some d -> ∃ v G, vs[i]? = some v /\ Rep K H w o q d v G /\ ∀ a ∈ G, a ∈ F
  | _, _, _, _, _, .nil, e => by simp at e
  | _, _, _, 0, _, .cons r _ _, e => by
    simp at e; subst e; exact ⟨_, _, rfl, r, fun a m => List.mem_append_left _ m⟩
  | _, _, _, i + 1, d, .cons _ s _, e => by
    obtain ⟨v, G, h1, h2, h3⟩ := Reps.getQ (i := i) (d := d) s (by simpa using e)
    exact ⟨v, G, by simpa using h1, h2, fun a m => List.mem_append_right _ (h3 a m)⟩
theorem Reps.atQ {K : PySem.W.Frag} {H : Hp} {w : Wn} {o : Ow} {q : Nat} {ds : List D} {vs : List V} {F : List Addr} {i : Int} {d : D} (r : Reps K H w o q ds vs F) (h : L2.atI ds i = some d) : ∃ v G, L2.atI vs i = some v /\ Rep K H w o q d v G /\ ∀ a ∈ G, a ∈ F := by
  unfold L2.atI at h ⊢
  rw [<- r.length]
  cases e : ixN ds.length i with
  | none => rw [e] at h; cases h
  | some j =>
    rw [e] at h
    exact r.getQ h
@[simp] noncomputable def x1q (n : Nat) (fb : Den) : Den := fun ρ => match ρ[n]? with
  | some (some _) => match fb ρ with
    | some (.int i, _, ρ2) => match ρ2[n]? with
      | some (some (x, q)) => match atD x i with
        | some d => if d.isL = true /\ 1 < q /\ x.isL = true then none else some (d, x85 d, ρ2)
        | none => none
      | _ => none
    | _ => none
  | _ => none
section
variable {X : Cx} {a b c e : Expr} {es : List Expr} {fa fb fc f : Den} {g : x1h} {pos p p1 p2 cpos apos : Pos}
theorem z4j {n : Nat} {x : Str} (h : PE X (.Name x p1) (x8p n)) (hb : PD X b fb) (hs : x3u b := by exact fun _ _ => rfl) : PD X (.Subscript (.Name x p1) b pos) (x1q n fb) := PE.imp (y77 y25 h hb hs) fun σ H Q hh0 => by
  obtain ⟨ρ, w, t, r', q, ρ', gd, ee, k⟩ := hh0
  unfold x1q at ee
  split at ee
  · rename_i z0 e0
    obtain ⟨d0, q0⟩ := z0
    obtain ⟨v, F, hσ, _⟩ := gd.slot n d0 q0 e0
    split at ee
    · rename_i i q2 ρ2 h2
      split at ee
      · rename_i x q e2
        split at ee
        · rename_i d hd
          split at ee
          · cases ee
          · rename_i hn
            cases ee
            refine ⟨v, hσ, ρ, w, t, _, _, _, gd, h2, fun y H2 w2 F2 g2 go r2 => ?_⟩
            have hy := x3k r2
            subst hy
            have gg := g2.drop (t' := t)
            obtain ⟨v', F', hσ', rr⟩ := gg.slot n x q e2
            rw [hσ] at hσ'
            cases hσ'
            have fin : ∀ u, Rep X.K H2 (x1j t w2) (.t t) 0 r' u [] -> Q u H2 := fun u ru => k u H2 (x1j t w2) [] gg.up (go.drop gd.wt) ru.dep
            cases x with
            | lst ds =>
              by_cases hq0 : q = 0
              · subst hq0
                obtain ⟨p0, vs, rfl, hq, rs⟩ := rr.seqL0
                obtain ⟨u, hu, ru⟩ := rs.atI hd
                exact .inl ⟨p0, vs, i, u, rfl, rfl, hq, hu, fin u (ru.any gg.wl)⟩
              · by_cases hq1 : q = 1
                · subst hq1
                  cases rr with
                  | own h0 _ rs _ =>
                    have z0 := rs.zero
                    subst z0
                    obtain ⟨u, hu, ru⟩ := rs.atI hd
                    exact .inl ⟨_, _, i, u, rfl, rfl, SqL.of h0, hu, fin u (ru.any gg.wl)⟩
                · obtain ⟨p0, vs, q', G, rfl, hq, rs⟩ := rr.seqL
                  obtain ⟨u, G', hu, ru, _⟩ := rs.atQ hd
                  refine .inl ⟨p0, vs, i, u, rfl, rfl, hq, hu, fin u ?_⟩
                  cases hL : r'.isL with
                  | false => exact ((ru.nolist hL).2 0).any gg.wl
                  | true => exact absurd ⟨hL, by omega, rfl⟩ hn
            | tup ds =>
              obtain ⟨p0, vs, rfl, hq, rs⟩ := rr.seqT
              obtain ⟨u, hu, ru⟩ := rs.atI hd
              exact .inr (.inl ⟨p0, vs, i, u, rfl, rfl, hq, hu, fin u (ru.any gg.wl)⟩)
            | _ => cases hd
        · cases ee
      · cases ee
    · cases ee
  · cases ee
@[simp] noncomputable def y2x (fa fb : Den) : Den := fun ρ => match fa ρ with
  | some (.lst ds, 1, ρ1) => match fb ρ1 with
    | some (.int n, _, ρ2) => if -1000 <= n /\ n <= 1000 /\ ds.length * n.toNat <= 1000 then some (.lst (List.replicate n.toNat ds).flatten, 1, ρ2) else none
    | _ => none
  | _ => none
theorem Reps.app {K : PySem.W.Frag} {H : Hp} {w : Wn} {es : List D} {us : List V} (s : Reps K H w .f 0 es us []) : ∀ {ds : List D} {vs : List V}, Reps K H w .f 0 ds vs [] -> Reps K H w .f 0 (ds ++ es) (vs ++ us) []
  | ds, vs, r => by
    generalize hF : ([] : List Addr) = F at r
    cases r with
    | nil => rw [<- hF]; exact s
    | @cons _ d v ds vs F G r t _ =>
      have h1 : F = [] := r.zero
      have h2 : G = [] := t.zero
      subst h1 h2
      exact .cons (F := []) (G := []) r (Reps.app s t) (fun _ z => nomatch z)
theorem Reps.times {K : PySem.W.Frag} {H : Hp} {w : Wn} {ds : List D} {vs : List V} (r : Reps K H w .f 0 ds vs []) : ∀ n : Nat, Reps K H w .f 0 (List.replicate n ds).flatten (List.replicate n vs).flatten []
  | 0 => .nil
  | n + 1 => by
    rw [List.replicate_succ, List.replicate_succ, List.flatten_cons, List.flatten_cons]
    exact Reps.app (Reps.times r n) r
theorem z0z (ha : PD X a fa) (hb : PD X b fb) : PD X (.BinOp a .Mult b pos) (y2x fa fb) := PE.imp (y15 z4p ha hb) fun σ H Q hh0 => by
  obtain ⟨ρ, w, t, r', q, ρ', gd, ee, k⟩ := hh0
  unfold y2x at ee
  split at ee
  · rename_i ds ρ1 h1
    split at ee
    · rename_i n q2 ρ2 h2
      split at ee
      · rename_i hn
        cases ee
        refine z17 gd h1 h2 fun u u' H2 w2 F1 F2 g2 go r1 r2 => ?_
        have hu' := x3k r2
        subst hu'
        cases r1 with
        | @own _ l vs _ F hl hw rs ne =>
          have hF := rs.zero
          subst hF
          have gg := g2.drop (t' := t)
          have rs' : Reps X.K H2 (x1j t w2) .f 0 ds vs [] := Reps.go g2.wl (fun a x h n => ⟨h, x5q n⟩) rs (fun _ z => nomatch z)
          refine ⟨l, n, vs, rfl, rfl, hl, by omega, by omega, ?_, fun p hp => ?_⟩
          · rw [<- rs.length]; exact x7n hn.2.2
          · obtain ⟨a1, a2, a3⟩ := y2g gg hp (rs'.times n.toNat)
            exact k _ _ _ _ a1 ((go.drop gd.wt).trans a2) a3
      · cases ee
    · cases ee
  · cases ee
end
theorem Reps.row {K : PySem.W.Frag} {H : Hp} {w : Wn} {o : Ow} (wl : WL w H) : ∀ {rows : List D} {vs : List V} {F : List Addr} {i : Nat} {row : List D}, Reps K H w o 1 rows vs F -> rows[i]? = some (.lst row) ->
    ∃ b ws, vs[i]? = some (.ref b) /\ H b = some (.lst ws) /\ w b = some o /\ b ∈ F /\ Reps K H w .f 0 row ws [] /\
      ∀ row' ws', Reps K H w .f 0 row' ws' [] -> Reps K (upd H b (.lst ws')) w o 1 (rows.set i (.lst row')) vs F
  | _, _, _, _, _, .nil, e => by simp at e
  | _, _, _, 0, row, .cons r s ne, e => by
    simp at e
    subst e
    cases r with
    | @own _ b ws _ F' hb hw rs nb =>
      have hF := rs.zero
      subst hF
      refine ⟨b, ws, rfl, hb, hw, by simp, rs.any wl, fun row' ws' r' => ?_⟩
      have nn : ∀ a, w a = none -> a ≠ b := fun a e z => by subst z; rw [hw] at e; cases e
      have st : x7w H w (upd H b (.lst ws')) w := fun a x h n => ⟨by rw [x0p (nn a n)]; exact h, n⟩
      refine .cons (.own x26 hw (Reps.go wl st r' (fun _ z => nomatch z)) (fun z => nomatch z)) (Reps.go wl st s fun a m => ⟨x0p fun z => ?_, s.owns a m⟩) ne
      subst z
      exact ne a (by simp) m
  | _, _, _, i + 1, row, .cons (d := d) (v := v) (F := F) (G := G) r s ne, e => by
    obtain ⟨b, ws, h1, h2, h3, h4, h5, mk⟩ := Reps.row wl (i := i) (row := row) s (by simpa using e)
    refine ⟨b, ws, by simpa using h1, h2, h3, List.mem_append_right _ h4, h5, fun row' ws' r' => ?_⟩
    have nn : ∀ a, w a = none -> a ≠ b := fun a e z => by subst z; rw [h3] at e; cases e
    have st : x7w H w (upd H b (.lst ws')) w := fun a x h n => ⟨by rw [x0p (nn a n)]; exact h, n⟩
    refine .cons (Rep.go wl st r fun a m => ⟨x0p fun z => ?_, r.owns a m⟩) (mk row' ws' r') ne
    subst z
    exact ne a m h4
theorem Good.mut2 {K : PySem.W.Frag} {ρ : Rho} {σ : St} {H : Hp} {w : Wn} {t i m : Nat} {rows row : List D} (g : Good K ρ σ H w t) (e : ρ[i]? = some (some (.lst rows, 2))) (em : rows[m]? = some (.lst row)) :
    ∃ l vs b ws, σ[i]? = some (some (.ref l)) /\ SqL K H l vs /\ vs.length = rows.length /\ vs[m]? = some (.ref b) /\ H b = some (.lst ws) /\ Reps K H w .f 0 row ws [] /\ ∀ row' ws', Reps K H w .f 0 row' ws' [] ->
      Good K (ρ.set i (some (.lst (rows.set m (.lst row')), 2))) σ (upd H b (.lst ws')) w t /\ Go H w (upd H b (.lst ws')) w := by
  obtain ⟨v, F, h1, h2⟩ := g.slot i _ _ e
  cases h2 with
  | @own _ l vs _ F' hl hw rs nl =>
    obtain ⟨b, ws, b1, b2, b3, b4, b5, mk⟩ := Reps.row g.wl rs em
    have hbl : l ≠ b := fun z => by subst z; exact nl b4
    refine ⟨l, vs, b, ws, h1, SqL.of hl, rs.length.symm, b1, b2, b5, fun row' ws' r' => ?_⟩
    have nl' : ∀ a o, w a = some o -> o ≠ .s i -> a ≠ b := fun a o e n z => by subst z; rw [b3] at e; exact n (Option.some.inj e).symm
    have nn : ∀ a, w a = none -> a ≠ b := fun a e z => by subst z; rw [b3] at e; cases e
    have st : x7w H w (upd H b (.lst ws')) w := fun a x h n => ⟨by rw [x0p (nn a n)]; exact h, n⟩
    refine ⟨⟨fun a o h => ?_, g.ws, g.wt, by rw [List.length_set]; exact g.len, fun j d' q' e' => ?_⟩, ⟨st, fun a o h n => ⟨x0p (nl' a o h (n i)), h⟩⟩⟩
    · by_cases z : a = b
      · subst z; exact ⟨_, x26⟩
      · obtain ⟨us, q⟩ := g.wl a o h
        exact ⟨us, by rw [x0p z]; exact q⟩
    · by_cases hj : i = j
      · subst hj
        rw [List.getElem?_set_self (List.getElem?_eq_some_iff.mp e).1] at e'
        cases e'
        exact ⟨_, _, h1, .own (by rw [x0p hbl]; exact hl) hw (mk row' ws' r') nl⟩
      · rw [List.getElem?_set_ne hj] at e'
        obtain ⟨v', F', h1', h2'⟩ := g.slot j d' q' e'
        exact ⟨v', F', h1', Rep.go g.wl st h2' fun a m => ⟨x0p (nl' a _ (h2'.owns a m) (fun z => hj (by cases z; rfl))), h2'.owns a m⟩⟩
theorem Reps.set0 {K : PySem.W.Frag} {H : Hp} {w : Wn} {d : D} {v : V} (rv : Rep K H w .f 0 d v []) : ∀ {ds : List D} {vs : List V} (i : Nat), Reps K H w .f 0 ds vs [] -> Reps K H w .f 0 (ds.set i d) (vs.set i v) []
  | ds, vs, i, r => by
    generalize hF : ([] : List Addr) = F at r
    cases r with
    | nil => rw [<- hF]; exact .nil
    | @cons _ d' v' ds vs F G r s _ =>
      have h1 : F = [] := r.zero
      have h2 : G = [] := s.zero
      subst h1 h2
      cases i with
      | zero => exact .cons (F := []) (G := []) rv s (fun _ z => nomatch z)
      | succ j => exact .cons (F := []) (G := []) r (Reps.set0 rv j s) (fun _ z => nomatch z)
noncomputable abbrev x97 := Rho -> Option Int
noncomputable def tQ (K : PySem.W.Frag) (f : x97) : TE := fun σ H Q => ∃ ρ w t i, Good K ρ σ H w t /\ f ρ = some i /\ Q (.int i) H
noncomputable abbrev PQ (X : Cx) (e : Expr) (f : x97) : Prop := PE X e (tQ X.K f)
@[simp] noncomputable def z00 (n : Nat) : x97 := fun ρ => match ρ[n]? with
  | some (some (.int i, _)) => some i
  | _ => none
@[simp] noncomputable def qIx (n : Nat) (f : x97) : x97 := fun ρ => match f ρ with
  | some i => match ρ[n]? with
    | some (some (x, _)) => match atD x i with
      | some (.int j) => some j
      | _ => none
    | _ => none
  | none => none
section
variable {X : Cx} {a b c e : Expr} {es : List Expr} {fa fb fc f : Den} {qa qb : x97} {g : x1h} {pos p p1 p2 cpos apos : Pos}
theorem z4a {n : Nat} {x : Str} (h : PE X (.Name x p1) (x8p n)) : PQ X (.Name x p1) (z00 n) := PE.imp h fun σ H Q hh0 => by
  obtain ⟨ρ, w, t, i, gd, ee, k⟩ := hh0
  unfold z00 at ee
  split at ee
  · rename_i j q e0
    cases ee
    obtain ⟨v, F, h1, h2⟩ := gd.slot n _ _ e0
    rw [x3k h2] at h1
    exact ⟨_, h1, k⟩
  · cases ee
theorem z8n {n : Nat} {x : Str} (h : PE X (.Name x p1) (x8p n)) (hb : PQ X b qb) (hs : x3u b := by exact fun _ _ => rfl) : PQ X (.Subscript (.Name x p1) b pos) (qIx n qb) := PE.imp (y77 y25 h hb hs) fun σ H Q hh0 => by
  obtain ⟨ρ, w, t, i, gd, ee, k⟩ := hh0
  unfold qIx at ee
  split at ee
  · rename_i i0 h0
    split at ee
    · rename_i x q e0
      split at ee
      · rename_i j hj
        cases ee
        obtain ⟨v, F, h1, h2⟩ := gd.slot n _ _ e0
        refine ⟨v, h1, ρ, w, t, i0, gd, h0, ?_⟩
        cases x with
        | lst ds =>
          obtain ⟨p0, vs, q', G, rfl, hq, rs⟩ := h2.seqL
          obtain ⟨u, G', hu, ru, _⟩ := rs.atQ hj
          rw [x3k ru] at hu
          exact .inl ⟨p0, vs, i0, _, rfl, rfl, hq, hu, k⟩
        | tup ds =>
          obtain ⟨p0, vs, rfl, hq, rs⟩ := h2.seqT
          obtain ⟨u, hu, ru⟩ := rs.atI hj
          rw [x3k ru] at hu
          exact .inr (.inl ⟨p0, vs, i0, _, rfl, rfl, hq, hu, k⟩)
        | _ => cases hj
      · cases ee
    · cases ee
  · cases ee
@[simp] noncomputable def y5d (n : Nat) (qi qj : x97) (fe : Den) : x1c := fun ρ => match fe ρ with
  | some (d, _, ρ1) => match qi ρ1, qj ρ1, ρ1[n]? with
    | some i, some j, some (some (.lst rows, 2)) => match ixN rows.length i with
      | some m => match rows[m]? with
        | some (.lst row) => match ixN row.length j with
          | some k => some (.nx (ρ1.set n (some (.lst (rows.set m (.lst (row.set k d))), 2))))
          | none => none
        | _ => none
      | none => none
    | _, _, _ => none
  | none => none
theorem y9p {n : Nat} {x : Str} (h : PE X (.Name x p1) (x8p n)) (ha : PQ X a qa) (hb : PQ X b qb) (he : PD X e f) (hi : x3u a := by exact fun _ _ => rfl)
    (hasg : ∀ v, assign (.Subscript (.Subscript (.Name x p1) a p2) b p) X.env v = (do
      let ov <- holding [v] (eval (.Subscript (.Name x p1) a p2) X.env)
      let iv <- holding [v, ov] (eval b X.env)
      standAt p
      holding [v, ov, iv] (setItem ov iv v)
      release [v, ov, iv] []) := by exact fun _ => rfl)
    (hs : swapsWithSole [.Subscript (.Subscript (.Name x p1) a p2) b p] e pos.line X.env = pure false := by rfl) :
    PDS X (.Assign [.Subscript (.Subscript (.Name x p1) a p2) b p] e pos) (y5d n qa qb f) := by
  refine PS.imp (z0f he (z6f (y77 y25 h ha hi) hb y8m hasg) hs) fun D σ H ⟨ρ, w, o, gd, ee, k⟩ => ?_
  unfold y5d at ee
  split at ee
  · rename_i d q0 ρ1 h1
    split at ee
    · rename_i i j rows hi hj er
      split at ee
      · rename_i m hm
        split at ee
        · rename_i row erow
          split at ee
          · rename_i kk hk
            cases ee
            refine ⟨ρ, w, 0, d, q0, ρ1, gd, h1, fun v H1 w1 F1 g1 go1 r1 => ?_⟩
            have rv := r1.drop (o := .f) (Nat.le_refl 0)
            have gg := g1.drop (t' := 0)
            obtain ⟨l, vs, b0, ws, m1, m2, m3, m4, m5, m6, mk⟩ := gg.mut2 er erow
            refine ⟨_, m1, ρ1, x1j 0 w1, 0, i, gg, hi, .inl ⟨l, vs, i, .ref b0, rfl, rfl, m2, ?_, ρ1, x1j 0 w1, 0, j, gg, hj, b0, ws, j, kk, rfl, rfl, m5, ?_, ?_⟩⟩
            · unfold atI; rw [m3, hm]; exact m4
            · rw [<- m6.length]; exact hk
            · obtain ⟨n1, n2⟩ := mk _ _ (m6.set0 rv kk)
              exact k _ _ _ rfl n1 ((go1.drop gd.wt).trans n2)
          · cases ee
        · cases ee
      · cases ee
    · cases ee
  · cases ee
end
@[simp] noncomputable def z5e (fa fb : Den) : Den := fun ρ => match fa ρ with
  | some (.bl b, _, ρ1) => if b = true then fb ρ1 else some (.bl false, 9, ρ1)
  | _ => none
@[simp] noncomputable def z77 (fa : Den) : Den := fun ρ => match fa ρ with
  | some (.bl b, _, ρ1) => some (.bl (!b), 9, ρ1)
  | _ => none
section
variable {X : Cx} {a b c e : Expr} {es x25 : List Expr} {fa fb fc f : Den} {g : x1h} {pos p p1 p2 cpos apos : Pos}
theorem z60 {op} (h : PD X a fa) : PD X (.BoolOp op [a] pos) fa := z5t h
theorem z5q (ha : PD X a fa) (hb : PD X (.BoolOp .And (b :: x25) pos) fb) : PD X (.BoolOp .And (a :: b :: x25) pos) (z5e fa fb) := PE.imp (z6y ha hb) fun σ H Q hh0 => by
  obtain ⟨ρ, w, t, r', q, ρ', gd, ee, k⟩ := hh0
  unfold z5e at ee
  split at ee
  · rename_i b' q1 ρ1 h1
    refine ⟨ρ, w, t, _, _, _, gd, h1, fun v H1 w1 F1 g1 go1 r1 => ?_⟩
    cases r1
    refine ⟨b', rfl, ?_⟩
    split at ee
    · rename_i hb; rw [if_pos hb]
      exact ⟨ρ1, x1j t w1, t, r', q, ρ', g1.drop, ee, fun v H2 w2 F g2 go2 => k v H2 w2 F g2 ((go1.drop gd.wt).trans go2)⟩
    · rename_i hb; rw [if_neg hb]
      cases ee
      exact k _ H1 w1 [] g1 go1 (.bl false)
  · cases ee
theorem z45 (ha : PD X a fa) : PD X (.UnaryOp .Not a pos) (z77 fa) := PE.imp (z6u ha) fun σ H Q hh0 => by
  obtain ⟨ρ, w, t, r', q, ρ', gd, ee, k⟩ := hh0
  unfold z77 at ee
  split at ee
  · rename_i b' q1 ρ1 h1
    cases ee
    refine ⟨ρ, w, t, _, _, _, gd, h1, fun v H1 w1 F1 g1 go1 r1 => ?_⟩
    cases r1
    exact ⟨b', rfl, k _ H1 w1 [] g1 go1 (.bl _)⟩
  · cases ee
end
section
variable {es x25 : List Expr} {a b c e : Expr} {pos : Pos} {env : Env}
theorem x0v {op} : starEach (.BinOp a op b pos :: x25) env = (false, eval (.BinOp a op b pos) env) :: starEach x25 env := by simp only [starEach]
theorem y4x {op} : starEach (.UnaryOp op a pos :: x25) env = (false, eval (.UnaryOp op a pos) env) :: starEach x25 env := by simp only [starEach]
theorem y90 : starEach (.IfExp a b c pos :: x25) env = (false, eval (.IfExp a b c pos) env) :: starEach x25 env := by simp only [starEach]
theorem x3r {g sc} : starEach (.ListComp a g sc pos :: x25) env = (false, eval (.ListComp a g sc pos) env) :: starEach x25 env := by simp only [starEach]
theorem x0i {k} : starEach (.Call a es k pos :: x25) env = (false, eval (.Call a es k pos) env) :: starEach x25 env := by simp only [starEach]
theorem x06 {v k} : starEach (.Constant v k pos :: x25) env = (false, eval (.Constant v k pos) env) :: starEach x25 env := by simp only [starEach]
theorem x0u : starEach (.Subscript a b pos :: x25) env = (false, eval (.Subscript a b pos) env) :: starEach x25 env := by simp only [starEach]
theorem x05 {x} : starEach (.Name x pos :: x25) env = (false, eval (.Name x pos) env) :: starEach x25 env := by simp only [starEach]
theorem x94 : starEach (.List es pos :: x25) env = (false, eval (.List es pos) env) :: starEach x25 env := by simp only [starEach]
theorem x5s {k} : starEach (.Tuple es k pos :: x25) env = (false, eval (.Tuple es k pos) env) :: starEach x25 env := by simp only [starEach]
end
noncomputable def At (K : PySem.W.Frag) (mg : Str -> Option Value) (x : Str) (st : Stmt) (ps : List Str) : Prop :=
  ∃ f fd, Fun K x x st f fd /\ mg x = some (.ref f) /\ y0d K fd ps []
noncomputable def Cal (P : Program) (w : World) (K : PySem.W.Frag) (mg : Str -> Option Value) (base : Heap) (k : Nat) (x : Str) (n : Nat) (F : List D -> Option (D × Nat)) : Prop :=
  ∃ f fd ps, FnOk P w K mg base CX0 k f fd ps (spD K n F) /\ mg x = some (.ref f) /\ PySem.W.keepIn K (.ref f) = true /\ y0d K fd ps []
theorem Cal.mk {P : Program} {w : World} {K : PySem.W.Frag} {mg : Str -> Option Value} {base : Heap} {k : Nat} {x : Str} {st : Stmt} {N ps : List Str} {body : x1c} (a : At K mg x st ps) (S : FnScope N ps (x0d st))
    (h : ∀ (f : Addr) (cdv : Value) (A : Around) (outer : List Env) (s : Shared) (H : Hp) (E : XK), Room k (A.deeper (envOfC x (x0d st) s.heap.objs.size f cdv)) -> y5g (y5e CX0 P w K mg base N x (x0d st) f cdv A outer s H E).nox (x2r st) body) :
    Cal P w K mg base (k + 1) x ps.length (fnD N.length body) := by
  obtain ⟨f, fd, F, m, b⟩ := a
  exact ⟨f, fd, ps, z3z F S (h f), m, F.kp, b⟩
section
variable {X : Cx} {a b c e : Expr} {es x25 : List Expr} {fa fb fc f : Den} {g : x1h} {pos p p1 p2 cpos apos : Pos}
theorem y95 {j k n : Nat} {x : Str} {F : List D -> Option (D × Nat)} (C : Cal X.prog X.w X.K X.mg X.base k x n F) (hr : Room j X.A) (hk : k <= j) (ha : PDA X (e :: es) g)
    (hg : Gl X x := by rfl) (hdb : (x == ("__debug__" : Str)) = false := by decide) (he : starEach (e :: es) X.env = (false, eval e X.env) :: starEach es X.env := by rfl) (hpl : (backTo pos (starEach es X.env)).any (·.1) = false := by rfl) :
    PD X (.Call (.Name x p) (e :: es) [] pos) (x0k F n g) := by
  obtain ⟨f, fd, ps, G, hm, hkp, hb⟩ := C
  exact y7u G (hr.mono hk) hm hkp hb z7r ha hg hdb he hpl
end
theorem z70 {K : PySem.W.Frag} {F : List D -> Option (D × Nat)} (h : ∀ ns : List Int, ns.length <= 63 -> ∃ q, F [.lst (ns.map D.int)] = some (.bl true, q)) {H : Hp} {a : Addr} {ns : List Int} (hl : ns.length <= 63) (hS : SqL K H a (ns.map V.int)) {E : XK} :
    spD K 1 F [.ref a] H (fun v _ => v = .bl true) E := by
  obtain ⟨q, e⟩ := h ns hl
  have r : Rep K H (fun _ => none) .f 0 (.lst (ns.map D.int)) (.ref a) [] := by
    rcases SqL.cases hS with z | z
    · exact .shr z rfl (x6p ns)
    · exact .kl z (x6p ns)
  exact ⟨rfl, [.lst (ns.map D.int)], fun _ => none, .bl true, q, (fun a o z => nomatch z), (fun a o z => nomatch z), .cons (F := []) (G := []) r .nil (fun _ z => nomatch z), e, fun v H' w' Fo _ _ rr => by cases rr; rfl⟩
theorem z5p {P : Program} {w : World} {K : PySem.W.Frag} {mg : Str -> Option Value} {base : Heap} {k : Nat} {x : Str} {st : Stmt} {N ps : List Str} {body : x1c} {f : Addr} {fd : FuncData} (F : Fun K x x st f fd) (S : FnScope N ps (x0d st))
    (h : ∀ (f : Addr) (cdv : Value) (A : Around) (outer : List Env) (s : Shared) (H : Hp) (E : XK), Room k (A.deeper (envOfC x (x0d st) s.heap.objs.size f cdv)) -> y5g (y5e CX0 P w K mg base N x (x0d st) f cdv A outer s H E).nox (x2r st) body) :
    FnOk P w K mg base CX0 (k + 1) f fd ps (spD K ps.length (fnD N.length body)) := z3z F S (h f)
end L3
namespace L3
open PySem PySem.Spec PyProof.Rows L2
end L3
namespace L3
open PySem PySem.Spec PyProof.Rows L2
section
variable {X : Cx} {a b c e : Expr} {es elts : List Expr} {fa fb fc f : Den} {g : x1h} {pos p p1 p2 tp : Pos} {kt : Nat}
@[simp] noncomputable def z9t (g : x1h) : y0l := fun ρ => match g ρ with
  | some ([.tup ds, .tup es], ρ1) => if ds.length <= 1000 then some ((ds.zip es).map fun x => .tup [x.1, x.2], ρ1) else none
  | _ => none
end
noncomputable abbrev x7h := List D -> Rho -> Option Rho
noncomputable def z99 (K : PySem.W.Frag) (b : Nat) (pt : x7h) : TGs := fun vs σ H Q => ∃ ds ρ w t ρ', Good K ρ σ H w t /\ Reps K H w .f 0 ds vs [] /\ pt ds ρ = some ρ' /\ ∀ σ' H' w', σ'.length = σ.length -> (∀ i, i < b -> σ'[i]? = σ[i]?) -> Good K ρ' σ' H' w' t -> Go H w H' w' -> Q σ' H'
theorem PGs.imp {X : Cx} {tg : List Expr} {t t' : TGs} (h : PGs X tg t) (i : ∀ v σ H Q, t' v σ H Q -> t v σ H Q) : PGs X tg t' := fun pins s σ H v u Q I r q => h pins s σ H v u Q I r (i v σ H Q q)
noncomputable abbrev z71 (X : Cx) (b : Nat) (tg : List Expr) (pt : x7h) : Prop := PGs X tg (z99 X.K b pt)
@[simp] noncomputable def y0y : x7h := fun ds ρ => match ds with
  | [] => some ρ
  | _ => none
@[simp] noncomputable def x2e (pt : x5w) (ps : x7h) : x7h := fun ds ρ => match ds with
  | [] => none
  | d :: r => match pt d ρ with
    | some ρ1 => ps r ρ1
    | none => none
@[simp] noncomputable def z1h (ps : x7h) : x5w := fun d ρ => match d with
  | .tup ds => ps ds ρ
  | _ => none
section
variable {X : Cx} {k b : Nat} {e : Expr} {es : List Expr} {pt : x5w} {ps : x7h} {pos : Pos}
theorem y8w : z71 X b [] y0y := PGs.imp z35 fun v σ H Q hh0 => by
  obtain ⟨ds, ρ, w, t, ρ', g, r, e, k⟩ := hh0
  unfold y0y at e
  split at e
  · cases e
    generalize hF : ([] : List Addr) = F at r
    cases r
    exact ⟨rfl, k σ H w rfl (fun _ _ => rfl) g Go.refl⟩
  · cases e
theorem y74 (h1 : PDG X b e pt) (h2 : z71 X b es ps) (hs : (assignEach (e :: es) X.env).map (·.2) = assign e X.env :: (assignEach es X.env).map (·.2) := by rfl) : z71 X b (e :: es) (x2e pt ps) := PGs.imp (y7y h1 h2 hs) fun v σ H Q hh0 => by
  obtain ⟨ds, ρ, w, t, ρ', g, r, e, k⟩ := hh0
  unfold x2e at e
  split at e
  · cases e
  · rename_i d x25
    split at e
    · rename_i ρ1 h1
      generalize hF : ([] : List Addr) = F at r
      cases r with
      | cons ra rb _ =>
        have z1 := ra.zero
        have z2 := rb.zero
        subst z1 z2
        refine ⟨_, _, rfl, d, ρ, w, t, ρ1, g, ra, h1, fun σ1 H1 w1 l1 s1 g1 go1 => ⟨x25, ρ1, w1, t, ρ', g1, rb.go0 g.wl go1.stab, e, fun σ2 H2 w2 l2 s2 g2 go2 => k σ2 H2 w2 (l2.trans l1) (fun i hi => (s2 i hi).trans (s1 i hi)) g2 (go1.trans go2)⟩⟩
    · cases e
theorem z2x {n : Nat} (hc : X.calm = true) (h : z71 X b es ps) (hl : ∀ ds ρ ρ', ps ds ρ = some ρ' -> ds.length = n) (hn : (assignEach es X.env).length = n := by rfl) (hst : (assignEach es X.env).findIdx? (·.1) = none := by rfl) : PDG X b (.Tuple es k pos) (z1h ps) := PG.imp (z4f hc h hn hst) fun v σ H Q hh0 => by
  obtain ⟨d, ρ, w, t, ρ', g, r, e, k⟩ := hh0
  unfold z1h at e
  split at e
  · rename_i ds
    obtain ⟨a, vs, rfl, hq, rs⟩ := r.seqT
    exact ⟨a, vs, rfl, hq, by rw [<- rs.length]; exact hl _ _ _ e, ds, ρ, w, t, ρ', g, rs, e, k⟩
  · cases e
theorem z1a {p q : x5w} : ∀ ds ρ ρ', x2e p (x2e q y0y) ds ρ = some ρ' -> ds.length = 2 := fun ds ρ ρ' h => by
  match ds with
  | [] => cases h
  | [_] => unfold x2e at h; simp at h; split at h <;> cases h
  | [_, _] => rfl
  | _ :: _ :: _ :: _ =>
    exfalso
    unfold x2e at h
    simp at h
    split at h
    · split at h <;> cases h
    · cases h
end
theorem y1a : ∀ {bs : List Bool} {us : List Value}, x2a (bs.map V.bl) us -> LSm.BoolsAre us bs
  | [], _, h => by cases h; exact .nil
  | b :: bs, _, h => by
    cases h with
    | cons r rr =>
      cases r
      exact .cons b (y1a rr)
section
variable {X : Cx} {a b c e : Expr} {es : List Expr} {fa fb fc f : Den} {g : x1h} {pos p p1 p2 : Pos}
theorem y8t (hc : X.calm = true) : x7z X (.builtin "all") (fun xs H Q => ∃ (a : Addr) (bs : List Bool), xs = [.ref a] /\ SqL X.K H a (bs.map V.bl) /\ Q (.bl (bs.all id)) H) := by
  intro pins s σ H xs us Q I r h
  obtain ⟨l, bs, rfl, hq, q⟩ := h
  obtain ⟨u, rfl, ru⟩ := y0t r
  cases ru
  obtain ⟨its, rv, pl, hz⟩ := I.list hq
  have hb := y1a rv
  have hl : s.heap.IsList l its.toArray := pl.isList
  have lt : l < s.heap.objs.size := by obtain ⟨_, e, _⟩ := hl; exact Heap.lt_size e
  refine call_all_walk (wpAny_pyIter_list hl ⟨s.heap.objs.size, [s.heap.objs.size, l], [s.heap.objs.size], its.toArray.size, _, _, fun i => (bs[i]?).getD true, rfl, Walks.list (A := X.A.in1) (I.ok.hd hc) _ l (Nat.ne_of_lt lt) its.toArray,
    ⟨⟨_, Heap.get?_push_size _ rfl, rfl, rfl⟩, hl.push _⟩, fun i v s' Q' E' hP hQ => ?_, fun h' tk hk => ?_⟩)
  · obtain ⟨b, e, rfl⟩ := hb.get i v (by simpa using hP)
    simp only [e, Option.getD_some] at hQ
    exact wpAny_truthy_bool hQ
  · have e : ((List.range its.toArray.size).all fun i => (bs[i]?).getD true) = bs.all id := by
      rw [List.size_toArray, hb.length]; exact LSm.range_all bs
    rw [e]
    exact ⟨.bl (bs.all id), H, I.kept fun b o z => hk b o (fun m => by rw [List.mem_singleton.mp m] at z; exact Nat.lt_irrefl _ (Heap.lt_size z)) (Heap.get?_push_of_some _ z), rfl, q⟩
noncomputable def y9y : List D -> Option (List Bool)
  | [] => some []
  | .bl b :: r => (y9y r).map (b :: ·)
  | _ => none
noncomputable def z0g : List D -> Option D
  | [.lst ds] => (y9y ds).map fun bs => .bl (bs.all id)
  | _ => none
theorem y1u {K : PySem.W.Frag} {H : Hp} {w : Wn} {o : Ow} : ∀ {ds : List D} {vs : List V} {bs : List Bool}, Reps K H w o 0 ds vs [] -> y9y ds = some bs -> vs = bs.map V.bl
  | ds, vs, bs, r, e => by
    generalize hF : ([] : List Addr) = F at r
    cases r with
    | nil => cases e; rfl
    | @cons _ d v ds' vs' F' G' r1 r2 _ =>
      have h2 : G' = [] := r2.zero
      subst h2
      cases r1 with
      | bl b =>
        unfold y9y at e
        cases e' : y9y ds' with
        | none => rw [e'] at e; cases e
        | some bs' =>
          rw [e'] at e
          cases e
          rw [y1u r2 e']
          rfl
      | _ => cases e
theorem z5o (hc : X.calm = true) (hm : X.mg "all" = none) (ha : PDA X [a] g) (hg : Gl X "all" := by rfl) (he : starEach [a] X.env = (false, eval a X.env) :: starEach [] X.env := by rfl) (hpl : (backTo pos (starEach [] X.env)).any (·.1) = false := by rfl) : PD X (.Call (.Name "all" p) [a] [] pos) (eB z0g g) :=
  PE.imp (x3y (y8t hc) hg hm PyProof.Rows.boot_all ha (by decide) (by decide) he hpl) (y79 fun ds d h => by
    unfold z0g at h
    split at h
    · rename_i ds0
      cases e : y9y ds0 with
      | none => rw [e] at h; cases h
      | some bs =>
        rw [e] at h
        cases h
        refine ⟨_, rfl, fun H w vs wl r Q hq => ?_⟩
        obtain ⟨v, rfl, rv⟩ := one r
        obtain ⟨p, ys, rfl, hs, rs⟩ := rv.seqL0
        rw [y1u rs e] at hs
        exact ⟨p, bs, rfl, hs, hq⟩
    · cases h)
theorem y8p {α : Type} (l : List α) (f : α -> Bool) : y9y (l.map fun i => .bl (f i)) = some (l.map f) := by
  induction l with
  | nil => rfl
  | cons a l ih => rw [List.map_cons, y9y, ih]; rfl
end
inductive IT where
  | int | bool | tuple | list | str
noncomputable def IT.nm : IT -> String
  | .int => "int"
  | .bool => "bool"
  | .tuple => "tuple"
  | .list => "list"
  | .str => "str"
noncomputable def isD : IT -> D -> Bool
  | .int, .int _ => true
  | .int, .bl _ => true
  | .bool, .bl _ => true
  | .tuple, .tup _ => true
  | .list, .lst _ => true
  | .str, .str _ => true
  | _, _ => false
noncomputable def tyD : D -> String
  | .non => "NoneType"
  | .bl _ => "bool"
  | .int _ => "int"
  | .str _ => "str"
  | .tup _ => "tuple"
  | .dic _ _ => "dict"
  | .exc _ => "object"
  | .lst _ => "list"
section
variable {X : Cx} {pins : List (Addr × Obj)} {σ : St} {H : Hp} {s : Shared}
theorem z6o {w : Wn} {o : Ow} {q : Nat} {F : List Addr} {d : D} {x : V} {u c : Value} {b : Bool} {A : Around} {E : Value -> Shared -> Prop} {Q : Value -> Shared -> Prop} (I : Inv X pins σ H s) (rx : x36 x u) (r : Rep X.K H w o q d x F)
    (e : PySem.W.kitOne X.K (.type (tyD d)) c = some b) (hx : ∀ nm, d ≠ .exc nm) (h : ∀ tk, Q (.bool b) { s with toks := tk }) : wpAny (model X.prog X.w) A (call (.builtin "isinstance") [u, c]) Q E s := by
  cases r with
  | exc _ _ _ => exact absurd rfl (hx _)
  | non => exact x2z I rx .non e h
  | bl y => exact x2z I rx (.bl y) e h
  | int i => exact x2z I rx (.int i) e h
  | str y => exact x2z I rx (.str y) e h
  | tup ha _ => exact x2z I rx (.tup ha) e h
  | dic ha _ => exact x2z I rx (.dK ha) e h
  | kl ha _ =>
    obtain ⟨ob, its, n, hk, hc, hd, _⟩ := ha
    cases rx
    exact PySem.W.kia_one PySem.W.kitx_list I.kIn ⟨ob, I.kIn _ _ hk, hc⟩ e (fun z => nomatch z) h
  | shr ha _ _ =>
    rcases ha with ha | ⟨ob, ha⟩
    · exact x2z I rx (.lst ha) e h
    · exact x2z I rx (.frz ha) e h
  | own ha _ _ _ => exact x2z I rx (.lst ha) e h
theorem z1q {K : PySem.W.Frag} (T : IT) (d : D) (hx : ∀ nm, d ≠ .exc nm) : PySem.W.kitOne K (.type (tyD d)) (.type T.nm) = some (isD T d) := by
  cases T <;> cases d <;> first | rfl | exact absurd rfl (hx _)
end
section
variable {X : Cx} {a b c e : Expr} {es : List Expr} {fa fb fc f : Den} {ga gb : x1y} {g : x1h} {pos p p1 p2 pT : Pos}
theorem y97 (T : IT) : x7z X (.builtin "isinstance") (fun xs H Q => ∃ x w o q F d, xs = [x, .ty T.nm] /\ Rep X.K H w o q d x F /\ Q (.bl (isD T d)) H) := by
  intro pins s σ H xs us Q I r h
  obtain ⟨x, w, o, q, F, d, rfl, rd, hq⟩ := h
  obtain ⟨u, v, rfl, ru, rv⟩ := y8x r
  cases rv
  by_cases hx : ∃ nm, d = .exc nm
  · obtain ⟨nm, rfl⟩ := hx
    cases rd with
    | exc ha xo _ =>
      obtain ⟨C, hc, k⟩ := xo
      cases ru
      obtain ⟨e1, _⟩ := (show x2d X.prog X.w H s.heap _ (.frz _ _) from I.hok _ _ ha)
      have hT : isD T (.exc nm) = false := by cases T <;> rfl
      rw [hT] at hq
      refine z6d (x := _) I.kIn ⟨e1, hc⟩ k.xc (by cases T <;> kernel_rfl) (k.no _ (by cases T <;> simp [IT.nm])) ⟨.bl false, H, I.tok _, rfl, hq⟩
  · exact z6o I ru rd (z1q T d fun nm z => hx ⟨nm, z⟩) (fun nm z => hx ⟨nm, z⟩) fun tk => ⟨.bl (isD T d), H, I.tok _, rfl, hq⟩
@[simp] noncomputable def z3e (T : IT) (fa : Den) : Den := fun ρ => match fa ρ with
  | some (d, _, ρ1) => some (.bl (isD T d), 9, ρ1)
  | none => none
theorem z4n (T : IT) {t : Str} (hm : X.mg "isinstance" = none) (hmT : X.mg t = none) (hbT : bootBuiltins t = some (.type T.nm)) (ha : PD X a fa) (hg : Gl X "isinstance" := by rfl) (hgT : Gl X t := by rfl) (hnT : t ≠ "__name__" := by decide) (hdT : (t == ("__debug__" : Str)) = false := by decide)
    (hs : starEach [a, .Name t pT] X.env = (false, eval a X.env) :: starEach [.Name t pT] X.env := by rfl) (hpl : (backTo pos (starEach [.Name t pT] X.env)).any (·.1) = false := by rfl) : PD X (.Call (.Name "isinstance" p) [a, .Name t pT] [] pos) (z3e T fa) :=
  PE.imp (x3y (y97 T) hg hm PyProof.Rows.boot_isinstance (x3g ha (x3g (y5i (v := .ty T.nm) hgT hmT hbT rfl hnT hdT) x6f x05) hs) (by decide) (by decide) hs hpl) fun σ H Q hh0 => by
  obtain ⟨ρ, w, t, r', q, ρ', gd, ee, k⟩ := hh0
  unfold z3e at ee
  split at ee
  · rename_i d q1 ρ1 h1
    cases ee
    refine ⟨ρ, w, t, _, _, _, gd, h1, fun v H1 w1 F1 g1 go1 r1 => ?_⟩
    exact ⟨v, w1, _, _, F1, d, rfl, r1, k _ H1 (x1j t w1) [] g1.drop.up (go1.drop gd.wt) (.bl _)⟩
  · cases ee
@[simp] noncomputable def eCh (g1 g2 : D -> D -> Option D) (fa fb fc : Den) : Den := fun ρ => match fa ρ with
  | some (x, _, ρ1) => match fb ρ1 with
    | some (y, _, ρ2) => match g1 x y with
      | some (.bl true) => match fc ρ2 with
        | some (z, _, ρ3) => match g2 y z with
          | some d => some (d, 9, ρ3)
          | none => none
        | none => none
      | some (.bl false) => some (.bl false, 9, ρ2)
      | _ => none
    | none => none
  | none => none
theorem z6h {op op' : CmpOp} {g1 g2 : Int -> Int -> Option D} {h1 h2 : Int -> Int -> V} (ho : OpR X (compareOp op) (rI0 h1)) (ho' : OpR X (compareOp op') (rI0 h2)) (e1 : ∀ i j d, g1 i j = some d -> y0g d = some (h1 i j)) (e2' : ∀ i j d, g2 i j = some d -> y0g d = some (h2 i j))
    (ha : PD X a fa) (hb : PD X b fb) (hc : PD X c fc) (hm : lastMarks [op, op'] [b, c] = false := by with_unfolding_all rfl) : PD X (.Compare a [op, op'] [b, c] pos) (eCh (gI g1) (gI g2) fa fb fc) := PE.imp (y8s ho ho' ha hb hc hm) fun σ H Q hh0 => by
  obtain ⟨ρ, w, t, r', q, ρ', gd, ee, k⟩ := hh0
  unfold eCh at ee
  split at ee
  · rename_i x q1 ρ1 a1
    split at ee
    · rename_i y q2 ρ2 a2
      refine z17 gd a1 a2 fun u v H2 w2 F1 F2 g2' go2 r1 r2 => ?_
      have gg := g2'.drop (t' := t)
      split at ee
      · rename_i hg
        obtain ⟨i, j, rfl, rfl, hg'⟩ := x8y hg
        refine ⟨i, j, x3k r1, x3k r2, true, by have := e1 i j _ hg'; simpa [y0g] using this.symm, ?_⟩
        rw [if_pos rfl]
        split at ee
        · rename_i z q3 ρ3 a3
          refine ⟨ρ2, x1j t w2, t, z, q3, ρ3, gg, a3, fun v3 H3 w3 F3 g3 go3 r3 => ?_⟩
          split at ee
          · rename_i d hd
            cases ee
            obtain ⟨j', l, ej, rfl, hd'⟩ := x8y hd
            cases ej
            exact ⟨j, l, x3k r2, x3k r3, z13 k gd g3 ((go2.drop gd.wt).trans go3) (y11 (e2' j l _ hd'))⟩
          · cases ee
        · cases ee
      · rename_i hg
        obtain ⟨i, j, rfl, rfl, hg'⟩ := x8y hg
        cases ee
        refine ⟨i, j, x3k r1, x3k r2, false, by have := e1 i j _ hg'; simpa [y0g] using this.symm, ?_⟩
        rw [if_neg (by decide)]
        exact z13 k gd g2' go2 (.bl false)
      · cases ee
    · cases ee
  · cases ee
theorem y2k (ha : PD X a fa) (hb : PD X b fb) (hc : PD X c fc) (hm : lastMarks [.LtE, .Lt] [b, c] = false := by with_unfolding_all rfl) : PD X (.Compare a [.LtE, .Lt] [b, c] pos) (eCh dLe dLt fa fb fc) :=
  z6h z8r z5c (fun i j d h => by cases h; rfl) (fun i j d h => by cases h; rfl) ha hb hc hm
@[simp] noncomputable def z6w (fa : Den) : Den := fun ρ => match fa ρ with
  | some (.int i, _, ρ1) => some (.int (-i), 9, ρ1)
  | _ => none
theorem z6e (ha : PD X a fa) : PD X (.UnaryOp .USub a pos) (z6w fa) := PE.imp (z7k z74 ha) fun σ H Q hh0 => by
  obtain ⟨ρ, w, t, r', q, ρ', gd, ee, k⟩ := hh0
  unfold z6w at ee
  split at ee
  · rename_i i q1 ρ1 h1
    cases ee
    refine ⟨ρ, w, t, _, _, _, gd, h1, fun v H1 w1 F1 g1 go1 r1 => ?_⟩
    exact ⟨i, x3k r1, k _ H1 (x1j t w1) [] g1.drop.up (go1.drop gd.wt) (.int _)⟩
  · cases ee
section
variable {prog : Program} {w : World} {A : Around} {E : Value -> Shared -> Prop} {s : Shared}
theorem y8y (l b : Addr) (us vs : Array Value) (n m : Nat) (d1 d2 : Option Addr) (s1 s2 : Array (Option Value)) (h0 : us.isEmpty = true) :
    Meets (Builtin.«tuple.__add__» ⟨[.ref l, .ref b], []⟩) (fun _ R s => s.heap.get? l = some { cls := .type "tuple", dict := d1, data := .seq us n, slots := s1 } /\ s.heap.get? b = some { cls := .type "tuple", dict := d2, data := .seq vs m, slots := s2 } /\ R (.ok (.ret (.ref b))) s) :=
  .of_wp fun prog w A R s h => by
    obtain ⟨hp, g, d, tk, os⟩ := s
    obtain ⟨hl, hb, h⟩ := h
    have f2 := AutoSeq1.sub_tuple_tuple
    wp_walk using wpAny_loadPart' hl, wpAny_loadPart' hb
    exact ⟨_, rfl, h⟩
theorem y6p {t b : Addr} {ws : List Value} {Q : Value -> Shared -> Prop} (ht : IsTup s.heap t #[]) (hb : IsTup s.heap b ws.toArray) (h : Q (.ref b) s) : wpAny (model prog w) A (binaryOp .Add (.ref t) (.ref b)) Q E s := by
  obtain ⟨⟨c1, d1, a1, s1⟩, e1, hc1, n1, ha1⟩ := id ht
  obtain ⟨⟨c2, d2, a2, s2⟩, e2, hc2, n2, ha2⟩ := id hb
  simp only at hc1 ha1 hc2 ha2
  subst hc1 ha1 hc2 ha2
  exact concat_meets ⟨_, e1, rfl⟩ ⟨_, e2, rfl⟩ noFill_tuple_add seq_tuple_add PySem.F.slot_tuple_add PySem.F.entry_tuple_add (PySem.F.args_tuple_add_2 _ _) (y8y t b #[] ws.toArray n1 n2 d1 d2 s1 s2 rfl) ⟨e1, e2, h⟩
end
theorem z2n : OpR X (binaryOp .Add) (fun x y H Q => ∃ a b ys, x = .ref a /\ y = .ref b /\ SqT X.K H a [] /\ SqT X.K H b ys /\ Q (.ref b) H) := by
  intro pins s σ H x y v u Q I rx ry h
  obtain ⟨a, b, ys, rfl, rfl, ha, hb, q⟩ := h
  cases rx
  cases ry
  obtain ⟨its, r1, p1, _⟩ := I.tuple ha
  obtain ⟨its2, r2, p2, _⟩ := I.tuple hb
  cases r1
  exact y6p p1 p2 ⟨.ref b, H, I, rfl, q⟩
theorem OpR.or {f : Value -> Value -> Sem Value} {r r' : R2} (h : OpR X f r) (h' : OpR X f r') : OpR X f (fun x y H Q => r x y H Q \/ r' x y H Q) := fun pins s σ H x y v u Q I rx ry q => q.elim (fun z => h pins s σ H x y v u Q I rx ry z) fun z => h' pins s σ H x y v u Q I rx ry z
@[simp] noncomputable def z2r (fa fb : Den) : Den := fun ρ => match fa ρ with
  | some (.tup ds, _, ρ1) => match fb ρ1 with
    | some (.tup es, _, ρ2) => if ds.length + es.length <= 1000 then some (.tup (ds ++ es), 9, ρ2) else none
    | _ => none
  | _ => none
theorem z5w (ha : PD X a fa) (hb : PD X b fb) : PD X (.BinOp a .Add b pos) (z2r fa fb) := PE.imp (y15 (OpR.or z2n z14) ha hb) fun σ H Q hh0 => by
  obtain ⟨ρ, w, t, r', q, ρ', gd, ee, k⟩ := hh0
  unfold z2r at ee
  split at ee
  · rename_i ds q1 ρ1 h1
    split at ee
    · rename_i es q2 ρ2 h2
      split at ee
      · rename_i hl
        cases ee
        refine z17 gd h1 h2 fun u u' H2 w2 F1 F2 g2 go r1 r2 => ?_
        have r10 := r1.drop (o := .f) (Nat.le_refl t)
        have r20 := r2.drop (o := .f) (Nat.le_succ t)
        have gg := g2.drop (t' := t)
        have gog := go.drop gd.wt
        obtain ⟨p1, vs, rfl, q1', s1⟩ := r10.seqT
        obtain ⟨p2, us, rfl, q2', s2⟩ := r20.seqT
        have l1 := s1.length
        have l2 := s2.length
        cases ds with
        | nil =>
          have : vs = [] := List.length_eq_zero_iff.mp (by rw [<- l1]; rfl)
          subst this
          refine .inl ⟨p1, p2, us, rfl, rfl, q1', q2', k _ H2 (x1j t w2) [] gg.up gog ?_⟩
          exact (Rep.go gg.wl (fun a x e n => ⟨e, n⟩) r20 (fun _ z => nomatch z) : Rep X.K H2 (x1j t w2) (.t t) 0 _ _ []).nolist rfl |>.2 9
        | cons d ds =>
          refine .inr ⟨p1, p2, vs, us, rfl, rfl, q1', q2', (fun z => by rw [z] at l1; cases l1), x7n (by rw [<- l1, <- l2]; exact hl), fun z => ?_, fun _ p hp => ?_⟩
          · have : es = [] := List.length_eq_zero_iff.mp (by rw [l2, z]; rfl)
            subst this
            rw [List.append_nil] at k
            exact k _ H2 (x1j t w2) [] gg.up gog ((Rep.go gg.wl (fun a x e n => ⟨e, n⟩) r10 (fun _ z => nomatch z) : Rep X.K H2 (x1j t w2) (.t t) 0 _ _ []).nolist rfl |>.2 9)
          · obtain ⟨a1, a2, a3⟩ := x9r gg hp (s2.app s1)
            exact k _ _ _ _ a1 (gog.trans a2) a3
      · cases ee
    · cases ee
  · cases ee
noncomputable abbrev y5n := Rho -> Option (Option Int × Rho)
noncomputable def tDO (K : PySem.W.Frag) (f : y5n) : TO := fun σ H Q => ∃ ρ w t o ρ', Good K ρ σ H w t /\ f ρ = some (o, ρ') /\ ∀ H' w', Good K ρ' σ H' w' t -> Go H w H' w' -> Q o H'
noncomputable abbrev PDO (X : Cx) (e : Option Expr) (f : y5n) : Prop := PO X e (tDO X.K f)
@[simp] noncomputable def x58 : y5n := fun ρ => some (none, ρ)
@[simp] noncomputable def x4m (f : Den) : y5n := fun ρ => match f ρ with
  | some (.int i, _, ρ1) => some (some i, ρ1)
  | _ => none
theorem PO.imp {e : Option Expr} {t t' : TO} (h : PO X e t) (i : ∀ σ H Q, t' σ H Q -> t σ H Q) : PO X e t' := fun pins s σ H Q I q => h pins s σ H Q I (i σ H Q q)
theorem y7r : PDO X none x58 := PO.imp z12 fun σ H Q hh0 => by
  obtain ⟨ρ, w, t, o, ρ', gd, ee, k⟩ := hh0
  cases ee
  exact k H w gd Go.refl
theorem y9d (h : PD X e f) : PDO X (some e) (x4m f) := PO.imp (z19 h) fun σ H Q hh0 => by
  obtain ⟨ρ, w, t, o, ρ', gd, ee, k⟩ := hh0
  unfold x4m at ee
  split at ee
  · rename_i i q1 ρ1 h1
    cases ee
    exact ⟨ρ, w, t, _, _, _, gd, h1, fun v H1 w1 F1 g1 go1 r1 => ⟨i, x3k r1, k H1 (x1j t w1) g1.drop (go1.drop gd.wt)⟩⟩
  · cases ee
section
variable {prog : Program} {w : World} {A : Around} {E : Value -> Shared -> Prop} {s : Shared}
theorem y4l {t sl : Addr} {us : Array Value} {vl vu : Value} {lo hi : Option Int} {Q : Value -> Shared -> Prop} (ht : IsTup s.heap t us) (hs : s.heap.IsSliceOf sl vl vu .none) (pl : IsPart vl lo) (pu : IsPart vu hi)
    (hw : HT.sIx us.size 0 lo = 0 /\ HT.sIx us.size us.size hi = us.size) (h : Q (.ref t) s) : wpAny (model prog w) A (getItem (.ref t) (.ref sl)) Q E s := by
  obtain ⟨os, hos, hcs, hds⟩ := id hs
  have ts : s.TypeIs (.ref sl) "slice" := ⟨os, hos, hcs⟩
  unfold getItem
  try with_reducible refine wpAny_holding ?_
  first | refine wpAny_bind (wpAny_pure ?_) | skip
  refine wpAny_bind (wpAny_sequenceKey ht.typeIs (by decide) (wpAny_bind (wpAny_callSpecial?_slot (name := Str.ofString "__getitem__") ht.typeIs PyProof.Rows.slot_tuple_getitem (wpAny_call_entry PyProof.Rows.slot_tuple_getitem ht.typeIs entry_tuple_getitem ?_ (args_tuple_getitem _ _)))))
  show wpAny _ _ (Builtin.Tuple.tupleItemsOf (.ref t) >>= _) _ _ s
  refine wpAny_bind (tupleItemsOf_ ht (wpAny_bind (wpAny_typeOf ts ?_)))
  rw [if_pos (by decide)]
  refine wpAny_bind (HT.x86 hs pl pu ?_)
  have yes : (((HT.sIx us.size 0 lo : Nat) : Int) == 0 && (1 : Int) == 1 && (HT.sIx us.size us.size hi - HT.sIx us.size 0 lo) == us.size) = true := by rw [hw.1, hw.2]; simp
  show wpAny _ _ (if (((HT.sIx us.size 0 lo : Nat) : Int) == 0 && (1 : Int) == 1 && (HT.sIx us.size us.size hi - HT.sIx us.size 0 lo) == us.size) = true then _ else _) _ _ s
  rw [if_pos yes]
  refine wpAny_bind (m := Builtin.Tuple.tupleIsExact _) ?_
  unfold Builtin.Tuple.tupleIsExact
  refine wpAny_bind (wpAny_typeOf ht.typeIs (wpAny_pure ?_))
  rw [if_pos (by decide)]
  exact wpAny_bind (wpAny_rule (wpAny_pure ⟨_, rfl, wpAny_pure h⟩))
end
noncomputable def z0e (xs : List D) (lo hi : Option Int) : List D := (xs.drop (HT.sIx xs.length 0 lo)).take (HT.sIx xs.length xs.length hi - HT.sIx xs.length 0 lo)
@[simp] noncomputable def eSl (fa : Den) (fl fh : y5n) : Den := fun ρ => match fa ρ with
  | some (.tup ds, _, ρ1) => match fl ρ1 with
    | some (lo, ρ2) => match fh ρ2 with
      | some (hi, ρ3) => some (.tup (z0e ds lo hi), 9, ρ3)
      | none => none
    | none => none
  | _ => none
theorem Reps.take0 {K : PySem.W.Frag} {H : Hp} {w : Wn} : ∀ {ds : List D} {vs : List V} (i : Nat), Reps K H w .f 0 ds vs [] -> Reps K H w .f 0 (ds.take i) (vs.take i) []
  | _, _, 0, _ => by rw [List.take_zero, List.take_zero]; exact .nil
  | ds, vs, i + 1, r => by
    generalize hF : ([] : List Addr) = F at r
    cases r with
    | nil => exact .nil
    | cons r s _ =>
      have h2 := s.zero
      have h1 := r.zero
      subst h2
      subst h1
      exact .cons (F := []) (G := []) r (Reps.take0 i s) (fun _ z => nomatch z)
theorem y7k : SlR X (fun x lo hi H Q => ∃ a xs, x = .ref a /\ SqT X.K H a xs /\ (HT.sIx xs.length 0 lo = 0 /\ HT.sIx xs.length xs.length hi = xs.length) /\ Q (.ref a) H) := by
  intro pins s σ H x v vl vu lo hi sl Q I rx hs pl pu h
  obtain ⟨a, xs, rfl, hx, hw, q⟩ := h
  cases rx
  obtain ⟨its, r, ht, hz⟩ := I.tuple hx
  have hlen : its.toArray.size = xs.length := by rw [List.size_toArray]; exact r.length.symm
  exact ⟨"tuple", _, PyProof.Rows.slot_tuple_getitem.lookup, ht.typeIs, y4l ht hs pl pu (by rw [hlen]; exact hw) ⟨.ref a, H, I, rfl, q⟩⟩
theorem z81 {lo hi : Option Expr} {fl fh : y5n} (ha : PD X a fa) (hl : PDO X lo fl) (hh : PDO X hi fh) : PD X (.Subscript a (.Slice lo hi none p2) pos) (eSl fa fl fh) := PE.imp (y3z (y7k.or z4h) ha hl hh) fun σ H Q hh0 => by
  obtain ⟨ρ, w, t, r', q, ρ', gd, ee, k⟩ := hh0
  unfold eSl at ee
  split at ee
  · rename_i ds q1 ρ1 h1
    split at ee
    · rename_i lo ρ2 h2
      split at ee
      · rename_i hi ρ3 h3
        cases ee
        refine ⟨ρ, w, t, _, _, _, gd, h1, fun v H1 w1 F1 g1 go1 r1 => ?_⟩
        have gg1 := g1.drop (t' := t)
        have r0 := r1.drop (o := .f) (Nat.le_refl t)
        refine ⟨ρ1, x1j t w1, t, _, _, gg1, h2, fun H2 w2 g2 go2 => ⟨ρ2, w2, t, _, _, g2, h3, fun H3 w3 g3 go3 => ?_⟩⟩
        have r3 := (r0.go0 gg1.wl go2.stab).go0 g2.wl go3.stab
        obtain ⟨p1, vs, rfl, q1', s1⟩ := r3.seqT
        have l1 := s1.length
        by_cases hw : HT.sIx ds.length 0 lo = 0 /\ HT.sIx ds.length ds.length hi = ds.length
        · have ec : z0e ds lo hi = ds := by unfold z0e; rw [hw.1, hw.2, List.drop_zero, Nat.sub_zero, List.take_length]
          rw [ec] at k
          refine .inl ⟨p1, vs, rfl, q1', by rw [<- l1]; exact hw, ?_⟩
          exact k _ H3 w3 [] g3.up (((go1.drop gd.wt).trans go2).trans go3) ((Rep.go g3.wl (fun a x e n => ⟨e, n⟩) r3 (fun _ z => nomatch z) : Rep X.K H3 w3 (.t t) 0 _ _ []).nolist rfl |>.2 9)
        · refine .inr ⟨p1, vs, rfl, q1', by rw [<- l1]; exact hw, fun p hp => ?_⟩
          have s4 : Reps X.K H3 w3 .f 0 (z0e ds lo hi) (y7e vs lo hi) [] := by
            unfold z0e y7e
            rw [<- l1]
            exact (s1.drop0 _).take0 _
          obtain ⟨a1, a2, a3⟩ := x9r g3 hp s4
          exact k _ _ _ _ a1 ((((go1.drop gd.wt).trans go2).trans go3).trans a2) a3
      · cases ee
    · cases ee
  · cases ee
end
section
variable {X : Cx} {k b n : Nat} {a c e tg : Expr} {es : List Expr} {pt : x5w} {ps : x7h} {pos : Pos} {fa fb f : Den}
theorem z2b {p q r : x5w} : ∀ ds ρ ρ', x2e p (x2e q (x2e r y0y)) ds ρ = some ρ' -> ds.length = 3 := fun ds ρ ρ' h => by
  match ds with
  | [] => cases h
  | [_] => unfold x2e at h; simp at h; split at h <;> cases h
  | [_, _] => unfold x2e at h; simp at h; split at h; (split at h <;> cases h); cases h
  | [_, _, _] => rfl
  | _ :: _ :: _ :: _ :: _ =>
    exfalso
    unfold x2e at h
    simp at h
    split at h
    · split at h
      · split at h <;> cases h
      · cases h
    · cases h
@[simp] noncomputable def z2v (f : Den) (pt : x5w) : x1c := fun ρ => match f ρ with
  | some (d, _, ρ1) => match pt d ρ1 with
    | some ρ2 => some (.nx ρ2)
    | none => none
  | none => none
theorem z0o (he : PD X e f) (hg : PDG X 0 tg pt) (hs : swapsWithSole [tg] e pos.line X.env = pure false := by rfl) (hw : swappedStores [tg] e X.env = pure none := by rfl) (h1 : (assignEach [tg] X.env).map (·.2) = [assign tg X.env] := by rfl) : PDS X (.Assign [tg] e pos) (z2v f pt) := PS.imp (z0f he hg hs hw h1) fun D σ H hh0 => by
  obtain ⟨ρ, w, o, g, ee, k⟩ := hh0
  unfold z2v at ee
  split at ee
  · rename_i d q ρ1 h1
    split at ee
    · rename_i ρ2 h2
      cases ee
      refine ⟨ρ, w, 0, d, q, ρ1, g, h1, fun v H1 w1 F1 g1 go1 r1 => ?_⟩
      exact ⟨d, ρ1, x1j 0 w1, 0, ρ2, g1.drop, r1.drop (Nat.le_refl 0), h2, fun σ' H' w' hl _ g' go' => k σ' H' w' hl g' ((go1.drop g.wt).trans go')⟩
    · cases ee
  · cases ee
end
theorem y4o : fillsNumberSlot (.type "tuple") "mul" = pure false := PySem.fillsNumberSlot_seq (id := "tuple.__mul__") (r := some (.builtin "tuple.__rmul__")) F.slot_tuple_mul.lookup (by decide +kernel) F.slot_tuple_rmul.lookup (by decide +kernel)
theorem y4t : seqRepeat? (.type "tuple") = pure (some (.builtin "tuple.__mul__")) := by
  unfold seqRepeat?
  rw [PySem.seqSlot_of (T := "tuple") (name := "__mul__") (id := "tuple.__mul__") F.slot_tuple_mul.lookup (by decide +kernel), PySem.seqSlot_of (T := "tuple") (name := "__rmul__") (id := "tuple.__rmul__") F.slot_tuple_rmul.lookup (by decide +kernel)]; rfl
theorem y1d (a : Int) (t : Tok) (l : Addr) (us : Array Value) (n : Nat) (dd : Option Addr) (sl : Array (Option Value)) :
    Meets (Builtin.«int.__rmul__» ⟨[.int a t, .ref l], []⟩) (fun _ R s => s.heap.get? l = some { cls := .type "tuple", dict := dd, data := .seq us n, slots := sl } /\ R (.ok (.ret Value.notImplemented)) s) := .of_wp fun prog w A R s h => by
  obtain ⟨hp, g, d, tk, os⟩ := s
  obtain ⟨hl, h⟩ := h
  wp_walk
  exact ⟨_, rfl, h⟩
theorem y9q (t : Tok) (l : Addr) (us : Array Value) (n : Nat) (dd : Option Addr) (sl : Array (Option Value)) :
    Meets (Builtin.«tuple.__mul__» ⟨[.ref l, .int 1 t], []⟩) (fun _ R s => s.heap.get? l = some { cls := .type "tuple", dict := dd, data := .seq us n, slots := sl } /\ R (.ok (.ret (.ref l))) s) := .of_wp fun prog w A R s h => by
  obtain ⟨hp, g, d, tk, os⟩ := s
  obtain ⟨hl, h⟩ := h
  have f1 := AutoSeq1.idx_int
  wp_walk using wpAny_loadPart' hl
  exact ⟨_, rfl, h⟩
theorem y7l (k : Int) (t : Tok) (l : Addr) (us : Array Value) (n : Nat) (dd : Option Addr) (sl : Array (Option Value)) (h2 : ¬ (decide (k < -(2 ^ 63)) || decide (k ≥ 2 ^ 63)) = true) (h3 : ¬ (us.isEmpty || k == 1) = true) (h4 : ¬ (decide (k <= 0) || us.isEmpty) = true) (h5 : ¬ (us.size : Int) * k > (2 ^ 63 - 1) / 8) (h6 : ¬ Builtin.Tuple.tupleTooMany ((us.size : Int) * k) = true) (hsz : (List.foldl (· ++ ·) #[] (List.replicate k.toNat us)).size <= sizeLine) :
    Meets (Builtin.«tuple.__mul__» ⟨[.ref l, .int k t], []⟩) (fun _ R s => s.heap.get? l = some { cls := .type "tuple", dict := dd, data := .seq us n, slots := sl } /\ R (.ok (.ret (.ref s.heap.objs.size))) { s with heap := s.heap.push { cls := .type "tuple", data := .seq (List.foldl (· ++ ·) #[] (List.replicate k.toNat us)) } }) := .of_wp fun prog w A R s h => by
  obtain ⟨hp, g, d, tk, os⟩ := s
  obtain ⟨hl, h⟩ := h
  have f1 := AutoSeq1.idx_int
  wp_walk using wpAny_loadPart' hl
  rw [if_neg h2]
  wp_walk using wpAny_loadPart' hl
  rw [if_neg h5]
  wp_walk using wpAny_loadPart' hl
  exact ⟨_, rfl, h⟩
section
variable {X : Cx} {a b c e : Expr} {fa fb fc f : Den} {pos : Pos}
theorem z0n : OpR X (binaryOp .Mult) (fun x y H Q => ∃ a k xs, x = .ref a /\ y = .int k /\ SqT X.K H a xs /\ xs ≠ [] /\ 1 <= k /\ xs.length * k.toNat <= 1000 /\ (k = 1 -> Q (.ref a) H) /\ (k ≠ 1 -> ∀ p, H p = none -> Q (.ref p) (upd H p (.tup (List.replicate k.toNat xs).flatten)))) := by
  intro pins s σ H x y v u Q I rx ry h
  obtain ⟨l, k, xs, rfl, rfl, hq, hne, h1, hz, q1, q2⟩ := h
  cases rx
  obtain ⟨t, rfl⟩ := ry
  obtain ⟨its, r, pt, _⟩ := I.tuple hq
  obtain ⟨⟨c1, d1, a1, s1⟩, e, hc1, n1, ha1⟩ := id pt
  simp only at hc1 ha1
  subst hc1 ha1
  have hl := r.length
  have hpos : 0 < its.length := by rw [<- hl]; exact List.length_pos_iff.mpr hne
  refine wpAny_binaryOp_repeat_ref (T := "tuple") (U := "int") (by decide) ⟨_, e, rfl⟩ (fun s' => typeIs_int s' k t) y4o F.fills_int_mul F.slot_int_rmul y4t F.slot_int_index.lookup
    (call_meets F.slot_int_rmul (typeIs_int s k t) F.entry_int_rmul (F.args_int_rmul_2 _ _) (y1d k t l its.toArray n1 d1 s1) ⟨e, rfl, ⟨_, e, rfl⟩, ?_⟩)
  by_cases hk : k = 1
  · subst hk
    exact call_meets F.slot_tuple_mul ⟨_, e, rfl⟩ F.entry_tuple_mul (F.args_tuple_mul_2 _ _) (y9q t l its.toArray n1 d1 s1) ⟨e, ⟨.ref l, H, I, rfl, q1 rfl⟩⟩
  · have hm : its.length * k.toNat <= 1000 := by rw [<- hl]; exact hz
    have hk' : k.toNat <= 1000 := by
      have := Nat.le_mul_of_pos_left k.toNat hpos
      omega
    have f0 : List.foldl (fun x1 x2 => x1 ++ x2) #[] (List.replicate k.toNat its.toArray) = (List.replicate k.toNat its).flatten.toArray := by
      have := x93 its k.toNat []
      rw [List.nil_append] at this
      exact this
    have lf : (List.replicate k.toNat its).flatten.length <= 1000 := by rw [y2r, Nat.mul_comm]; exact hm
    have em : ((its.toArray.size : Nat) : Int) * k = ((its.length * k.toNat : Nat) : Int) := by
      rw [List.size_toArray, Int.natCast_mul, Int.toNat_of_nonneg (by omega)]
    refine call_meets F.slot_tuple_mul ⟨_, e, rfl⟩ F.entry_tuple_mul (F.args_tuple_mul_2 _ _) (y7l k t l its.toArray n1 d1 s1 (by simp; omega) (by simp [hk]; exact List.ne_nil_of_length_pos hpos) (by simp; exact ⟨by omega, List.ne_nil_of_length_pos hpos⟩) (by rw [em]; omega) (by
      unfold Builtin.Tuple.tupleTooMany
      rw [em]
      simp only [gt_iff_lt, decide_eq_true_eq, Int.not_lt]
      have : (1000 : Nat) <= sizeLine := by decide
      omega) (by rw [f0, List.size_toArray]; exact x7n lf)) ⟨e, ?_⟩
    rw [f0]
    refine ⟨.ref s.heap.objs.size, _, I.laid (t' := s.toks) (o := .tup (List.replicate k.toNat xs).flatten) (fun b ob q => Heap.get?_push_of_some _ q) (Nat.le_refl _) ?_, rfl, q2 hk _ (I.hok.fresh (Nat.le_refl _))⟩
    exact ⟨x7n (by rw [y2r, Nat.mul_comm]; exact hz), _, r.rep k.toNat, x52.new _ _⟩
@[simp] noncomputable def y57 (fa fb : Den) : Den := fun ρ => match fa ρ with
  | some (.tup ds, _, ρ1) => match fb ρ1 with
    | some (.int n, _, ρ2) => if ds.isEmpty = false /\ 1 <= n /\ ds.length * n.toNat <= 1000 then some (.tup (List.replicate n.toNat ds).flatten, 9, ρ2) else none
    | _ => none
  | _ => none
theorem z23 (ha : PD X a fa) (hb : PD X b fb) : PD X (.BinOp a .Mult b pos) (y57 fa fb) := PE.imp (y15 z0n ha hb) fun σ H Q hh0 => by
  obtain ⟨ρ, w, t, r', q, ρ', gd, ee, k⟩ := hh0
  unfold y57 at ee
  split at ee
  · rename_i ds q1 ρ1 h1
    split at ee
    · rename_i n q2 ρ2 h2
      split at ee
      · rename_i hl
        cases ee
        obtain ⟨hd, hn, hz⟩ := hl
        refine z17 gd h1 h2 fun u u' H2 w2 F1 F2 g2 go r1 r2 => ?_
        have r10 := r1.drop (o := .f) (Nat.le_refl t)
        have gg := g2.drop (t' := t)
        have gog := go.drop gd.wt
        obtain ⟨p1, vs, rfl, q1', s1⟩ := r10.seqT
        have l1 := s1.length
        refine ⟨p1, n, vs, rfl, x3k r2, q1', fun z => ?_, hn, by rw [<- l1]; exact hz, fun z => ?_, fun _ p hp => ?_⟩
        · subst z
          have : ds = [] := List.length_eq_zero_iff.mp l1
          subst this
          cases hd
        · subst z
          have e : (List.replicate (Int.toNat 1) ds).flatten = ds := by show (List.replicate 1 ds).flatten = ds; simp
          rw [e] at k
          exact k _ H2 (x1j t w2) [] gg.up gog ((Rep.go gg.wl (fun a x e n => ⟨e, n⟩) r10 (fun _ z => nomatch z) : Rep X.K H2 (x1j t w2) (.t t) 0 _ _ []).nolist rfl |>.2 9)
        · obtain ⟨a1, a2, a3⟩ := x9r gg hp (s1.times n.toNat)
          exact k _ _ _ _ a1 (gog.trans a2) a3
      · cases ee
    · cases ee
  · cases ee
end
section
variable {X : Cx} {a b c e : Expr} {es : List Expr} {fa fb fc f : Den} {ga gb : x1y} {g : x1h} {pos p p1 p2 cpos apos : Pos}
@[simp] noncomputable def z7a (i : Nat) (f : Den) : Den := fun ρ => if y36 ρ[i]? = true then match f ρ with
  | some (.lst es, 1, ρ1) => match ρ1[i]? with
    | some (some (.lst ds, 1)) => if ds.length + es.length <= 1000 then some (.non, 9, ρ1.set i (some (.lst (ds ++ es), 1))) else none
    | _ => none
  | _ => none
  else none
theorem y6i {i : Nat} {x : Str} (h : PE X (.Name x p1) (x8p i)) (ha : PD X e f)
    (hbase : attributeBase (.Name x p1) "extend" X.env (eval (.Name x p1) X.env) = eval (.Name x p1) X.env := by rfl)
    (hfew : ((backTo cpos (starEach [e] X.env)).all (fun x => !x.1) && (backToKw cpos (keywordEach [] X.env)).all (fun x => x.1.isSome)
      && decide ([e].length + ([] : List Keyword).length + (if ([] : List Keyword).isEmpty then 0 else 1) < 30)) = true := by rfl)
    (hline : (apos.endLine == cpos.line) = true := by rfl) (hs : starEach [e] X.env = (false, eval e X.env) :: starEach [] X.env := by rfl) (hplain : (backTo cpos (starEach [] X.env)).any (·.1) = false := by rfl) :
    PD X (.Call (.Attribute (.Name x p1) "extend" apos) [e] [] cpos) (z7a i f) :=
  PE.imp (y5c PySem.F.plainAttrs_list PySem.F.slot_list_extend PySem.F.type_list_extend y5h h (x3g ha x6f hs) hbase hfew hline hs hplain) fun σ H Q hh0 => by
  obtain ⟨ρ, w, t, r', q, ρ', gd, ee, k⟩ := hh0
  unfold z7a at ee
  split at ee
  · rename_i hl
    obtain ⟨l, hσ, us, hq⟩ := gd.isL hl
    split at ee
    · rename_i es' ρ1 h1
      split at ee
      · rename_i ds e1
        split at ee
        · rename_i hlen
          cases ee
          refine ⟨_, hσ, .inl ⟨rfl, us, hq⟩, ρ, w, t, _, _, _, gd, h1, fun v H1 w1 F1 g1 go1 r1 => ?_⟩
          obtain ⟨l', ws, hσ', hH, rs, mk⟩ := g1.mut e1
          rw [hσ] at hσ'
          cases hσ'
          cases r1 with
          | own hb _ rz _ =>
            have z0 := rz.zero
            subst z0
            have rz' : Reps X.K H1 w1 .f 0 es' _ [] := rz.any g1.wl
            obtain ⟨m1, m2⟩ := mk _ _ (rz'.app rs)
            refine ⟨l, _, ws, _, rfl, rfl, hH, hb, x7n (by rw [<- rs.length, <- rz'.length]; exact hlen), ?_⟩
            exact k .non _ w1 [] m1 (go1.trans m2) .non
        · cases ee
      · cases ee
    · cases ee
  · cases ee
end
section
variable {X : Cx} {a b c e : Expr} {es : List Expr} {fa fb fc f : Den} {ga gb gc : x1y} {g : x1h} {qa qb : x97} {s : x1c} {pos p p1 p2 cpos apos : Pos}
@[simp] noncomputable def y3v : x1c := fun _ => none
theorem y5q {st : Stmt} : PDS X st y3v := PS.imp y9e fun D σ H hh0 => by obtain ⟨ρ, w, o, g, ee, k⟩ := hh0; cases ee
noncomputable def x59 (c : x1y) (b : x1c) : Nat -> Rho -> Option Out
  | 0, _ => none
  | m + 1, ρ => match c ρ with
    | none => none
    | some (t, ρ1) => if t = true then match b ρ1 with
        | none => none
        | some (.nx ρ2) => x59 c b m ρ2
        | some (.ct ρ2) => x59 c b m ρ2
        | some (.bk ρ2) => some (.nx ρ2)
        | some (.rt d q) => some (.rt d q)
      else some (.nx ρ1)
noncomputable def y21 (c : x1y) (b : x1c) : x1c := x59 c b 1000
theorem y62 {body : List Stmt} (hp : PassesOwn (model X.prog X.w) X.A X.env X.xe) (hc : PDT X c gc) (hb : y5g X body s) : PDS X (.While c body [] pos) (y21 gc s) :=
  PS.imp (y89 hp hc hb) fun D σ H hh0 => by
  obtain ⟨ρ, w, o, g, ee, k⟩ := hh0
  refine ⟨fun m σ' H' => σ'.length = σ.length /\ ∃ ρ' w', Good X.K ρ' σ' H' w' 0 /\ x59 gc s m ρ' = some o /\ x9h X.K D σ.length H' w' o, ⟨1000, rfl, ρ, w, g, ee, k⟩, ?_⟩
  rintro m σ' H' ⟨hσ, ρ', w', g', e', k'⟩
  cases m with
  | zero => cases e'
  | succ m =>
    unfold x59 at e'
    split at e'
    · cases e'
    · rename_i t ρ1 h1
      refine ⟨ρ', w', 0, t, ρ1, g', h1, fun H1 w1 g1 go1 => ?_⟩
      cases t with
      | true =>
        rw [if_pos rfl] at e' ⊢
        refine ⟨fun σ2 H2 => σ2.length = σ.length /\ ∃ ρ2 w2, Good X.K ρ2 σ2 H2 w2 0 /\ x59 gc s m ρ2 = some o /\ x9h X.K D σ.length H2 w2 o, fun σ2 H2 n2 => ⟨m, Nat.lt_succ_self m, n2⟩, ?_⟩
        have nx : ∀ {ρ5 : Rho}, x59 gc s m ρ5 = some o -> ∀ σ5 H5 w5, σ5.length = σ'.length -> Good X.K ρ5 σ5 H5 w5 0 -> Go H1 w1 H5 w5 -> σ5.length = σ.length /\ ∃ ρ2 w2, Good X.K ρ2 σ5 H5 w2 0 /\ x59 gc s m ρ2 = some o /\ x9h X.K D σ.length H5 w2 o := fun {ρ5} e5 σ5 H5 w5 l5 g5 go5 => ⟨by rw [l5, hσ], ρ5, w5, g5, e5, k'.trans (go1.trans go5)⟩
        cases h6 : s ρ1 with
        | none => rw [h6] at e'; cases e'
        | some o6 =>
          rw [h6] at e'
          refine ⟨ρ1, w1, o6, g1, h6, ?_⟩
          cases o6 with
          | nx ρ5 => exact nx e'
          | ct ρ5 => exact nx e'
          | bk ρ5 =>
            cases e'
            exact fun σ5 H5 w5 l5 g5 go5 => k' σ5 H5 w5 (by rw [l5, hσ]) g5 (go1.trans go5)
          | rt d q =>
            cases e'
            exact fun v H5 w5 F wl5 go5 r5 => k' v H5 w5 F wl5 (go1.trans go5) r5
      | false =>
        rw [if_neg (by decide)] at e' ⊢
        cases e'
        exact k' σ' H1 w1 hσ g1 go1
@[simp] noncomputable def z9l (n : Nat) (qi : x97) (fe : Den) : x1c := fun ρ => match fe ρ with
  | some (d, _, ρ1) => match qi ρ1, ρ1[n]? with
    | some i, some (some (.lst ds, 1)) => match ixN ds.length i with
      | some m => some (.nx (ρ1.set n (some (.lst (ds.set m d), 1))))
      | none => none
    | _, _ => none
  | none => none
noncomputable def z80 (K : PySem.W.Frag) : R2 := fun x y H Q => ∃ l b xs zs, x = .ref l /\ y = .ref b /\ SqL K H l xs /\ SqL K H b zs /\ xs.length + zs.length <= sizeLine /\ ∀ p, H p = none -> Q (.ref p) (upd H p (.lst (xs ++ zs)))
theorem z2f : OpR X (binaryOp .Add) (z80 X.K) := by
  intro pins s σ H x y v u Q I rx ry h
  obtain ⟨l, b, xs, zs, rfl, rfl, hH, hB, hz, q⟩ := h
  cases rx
  cases ry
  obtain ⟨its, r, pl, z⟩ := I.list hH
  obtain ⟨its2, r2, pl2, z2⟩ := I.list hB
  obtain ⟨⟨cls, dd, data, sl⟩, n, ho, hc, _, hd⟩ := pl
  obtain ⟨⟨cls2, dd2, data2, sl2⟩, n2, ho2, hc2, _, hd2⟩ := pl2
  simp only at hc hd hc2 hd2
  subst hc hd hc2 hd2
  have l1 := r.length
  have l2 := r2.length
  refine concat_meets ⟨_, ho, rfl⟩ ⟨_, ho2, rfl⟩ noFill_list_add seq_list_add PySem.F.slot_list_add PySem.F.entry_list_add (PySem.F.args_list_add_2 _ _) (list_addW l b its.toArray its2.toArray n n2 dd dd2 sl sl2 (by rw [List.size_toArray, List.size_toArray, <- l1, <- l2]; exact hz)) ⟨ho, ho2, ?_⟩
  have e : its.toArray ++ its2.toArray = (its ++ its2).toArray := by simp
  rw [e]
  exact ⟨.ref _, _, I.lnew (t' := s.toks) (r.append r2) (by rw [List.length_append]; omega), rfl, q _ I.fresh⟩
@[simp] noncomputable def x68 (fa fb : Den) : Den := fun ρ => match fa ρ with
  | some (.lst ds, _, ρ1) => match fb ρ1 with
    | some (.lst es, _, ρ2) => if ds.length + es.length <= 1000 then some (.lst (ds ++ es), 1, ρ2) else none
    | _ => none
  | _ => none
theorem z1m (ha : PD X a fa) (hb : PD X b fb) : PD X (.BinOp a .Add b pos) (x68 fa fb) := PE.imp (y15 z2f ha hb) fun σ H Q hh0 => by
  obtain ⟨ρ, w, t, r', q, ρ', gd, ee, k⟩ := hh0
  unfold x68 at ee
  split at ee
  · rename_i ds q1 ρ1 h1
    split at ee
    · rename_i es q2 ρ2 h2
      split at ee
      · rename_i hl
        cases ee
        refine z17 gd h1 h2 fun u u' H2 w2 F1 F2 g2 go r1 r2 => ?_
        have r10 := r1.drop (o := .f) (Nat.le_refl t)
        have r20 := r2.drop (o := .f) (Nat.le_succ t)
        have gg := g2.drop (t' := t)
        have gog := go.drop gd.wt
        obtain ⟨p1, vs, rfl, q1', s1⟩ := r10.seqL0
        obtain ⟨p2, us, rfl, q2', s2⟩ := r20.seqL0
        refine ⟨p1, p2, vs, us, rfl, rfl, q1', q2', x7n (by rw [<- s1.length, <- s2.length]; exact hl), fun p hp => ?_⟩
        obtain ⟨a1, a2, a3⟩ := y2g gg hp (s2.app s1)
        exact k _ _ _ _ a1 (gog.trans a2) a3
      · cases ee
    · cases ee
  · cases ee
end
section
variable {X : Cx} {a b c e : Expr} {es : List Expr} {fa fb fc f : Den} {ga gb gc : x1y} {g : x1h} {qa qb : x97} {s : x1c} {pos p p1 p2 p3 cpos apos : Pos}
@[simp] noncomputable def x47 (n : Nat) (c : Int) : x97 := fun ρ => match ρ[n]? with
  | some (some (.tup es, _)) => match L2.atI es c with
    | some d => match x56 d with
      | some m => some (Int.ofNat m)
      | none => none
    | none => none
  | _ => none
theorem y7i {n j : Nat} {c : Int} {x : Str} (hm : X.mg "len" = none) (h : PE X (.Name x p1) (x8p n)) (hg : Gl X "len" := by rfl) (hs : x3u (.Constant (.int c) j p2) := by exact fun _ _ => rfl)
    (he : starEach [.Subscript (.Name x p1) (.Constant (.int c) j p2) p3] X.env = (false, eval (.Subscript (.Name x p1) (.Constant (.int c) j p2) p3) X.env) :: starEach [] X.env := by rfl) (hpl : (backTo pos (starEach [] X.env)).any (·.1) = false := by rfl) :
    PQ X (.Call (.Name "len" p) [.Subscript (.Name x p1) (.Constant (.int c) j p2) p3] [] pos) (x47 n c) :=
  PE.imp (x3y x5l hg hm PySem.boot_len (x3g (y77 y25 h z0a hs) x6f he) (by decide) (by decide) he hpl) fun σ H Q hh0 => by
  obtain ⟨ρ, w, t, i, gd, ee, k⟩ := hh0
  unfold x47 at ee
  split at ee
  · rename_i es q e0
    split at ee
    · rename_i d hd
      split at ee
      · rename_i m hm'
        cases ee
        obtain ⟨v, F, h1, h2⟩ := gd.slot n _ _ e0
        obtain ⟨p0, vs, rfl, hq, rs⟩ := h2.seqT
        obtain ⟨u, hu, ru⟩ := rs.atI hd
        obtain ⟨p', ys, rfl, hs', hl⟩ := ru.len hm'
        exact ⟨_, h1, .inr (.inl ⟨p0, vs, c, _, rfl, rfl, hq, hu, p', ys, rfl, hs', by rw [hl]; exact k⟩)⟩
      · cases ee
    · cases ee
  · cases ee
@[simp] noncomputable def y1e (k l : Str) (qa qb : x97) : Den := fun ρ => match qa ρ, qb ρ with
  | some i, some j => some (.dic [k, l] [.int i, .int j], 9, ρ)
  | _, _ => none
theorem z5k {K : PySem.W.Frag} {ρ : Rho} {σ : St} {t : Nat} {H1 : Hp} {p : Addr} {ks : List Str} {vs : List V} {ds : List D} {w1 : Wn} (g : Good K ρ σ H1 w1 t) (hp : H1 p = none) (r : Reps K H1 w1 .f 0 ds vs []) :
    Good K ρ σ (upd H1 p (.dK (kvL ks vs))) w1 (t + 1) /\ Go H1 w1 (upd H1 p (.dK (kvL ks vs))) w1 /\ Rep K (upd H1 p (.dK (kvL ks vs))) w1 (.t t) 9 (.dic ks ds) (.ref p) [] := by
  have ne : ∀ a x, H1 a = some x -> a ≠ p := fun a x e => x1i e hp
  have nw : ∀ a o, w1 a = some o -> a ≠ p := fun a o e => by obtain ⟨vs, q⟩ := g.wl a o e; exact ne a _ q
  have st : x7w H1 w1 (upd H1 p (.dK (kvL ks vs))) w1 := fun a x e n => ⟨by rw [x0p (ne a x e)]; exact e, n⟩
  refine ⟨⟨fun a o e => ?_, g.ws, fun a i e => Nat.lt_succ_of_lt (g.wt a i e), g.len, fun i d q e => ?_⟩, ⟨st, fun a o e _ => ⟨x0p (nw a o e), e⟩⟩, ?_⟩
  · obtain ⟨us, q⟩ := g.wl a o e
    exact ⟨us, by rw [x0p (nw a o e)]; exact q⟩
  · obtain ⟨v, F, h1, h2⟩ := g.slot i d q e
    exact ⟨v, F, h1, Rep.go g.wl st h2 fun a m => ⟨x0p (nw a _ (h2.owns a m)), h2.owns a m⟩⟩
  · exact .dic x26 (Reps.go g.wl st r (fun _ z => nomatch z))
theorem z1o {k l : Str} {j1 j2 : Nat} (hkl : k ≠ l) (ha : PQ X a qa) (hb : PQ X b qb) :
    PD X (.Dict [some (.Constant (.str k) j1 p1), some (.Constant (.str l) j2 p2)] [a, b] pos) (y1e k l qa qb) :=
  PE.imp (z1k (y4h y49 ha (y4h y49 hb z2i)) rfl rfl (by simp) (by show 2 <= 15; decide)) fun σ H Q hh0 => by
  obtain ⟨ρ, w, t, r', q, ρ', gd, ee, kk⟩ := hh0
  unfold y1e at ee
  split at ee
  · rename_i i j hi hj
    cases ee
    intro p0 hp
    have ne : ∀ a x, H a = some x -> upd H p0 (.dK []) a = some x := fun a x e => by rw [x0p (x1i e hp)]; exact e
    obtain ⟨g1, go1⟩ := gd.more ne
    refine ⟨ρ, w, t, i, g1, hi, ρ, w, t, j, g1, hj, x26, [(.inr k, .int i), (.inr l, .int j)], rfl, by show 2 <= 15; decide, ?_⟩
    have e : x8h [] [((.inr k : Key), V.int i), (.inr l, .int j)] = kvL [k, l] [.int i, .int j] := by
      have hkl' : ¬ ((Sum.inr k : Key) = .inr l) := fun z => hkl (Sum.inr.inj z)
      simp [x8h, y99, kvL, hkl']
    rw [e, z0t]
    obtain ⟨a1, a2, a3⟩ := z5k (ks := [k, l]) (ds := [.int i, .int j]) (vs := [.int i, .int j]) gd hp (.cons (F := []) (G := []) (.int i) (.cons (F := []) (G := []) (.int j) .nil (fun _ z => nomatch z)) (fun _ z => nomatch z))
    exact kk _ _ _ _ a1 a2 a3
  · cases ee
noncomputable def x9a : List Str -> List D -> Str -> Option D
  | x :: ks, d :: ds, k => if x = k then some d else x9a ks ds k
  | _, _, _ => none
@[simp] noncomputable def y9r (fo fe ff : Den) : Den := fun ρ => match fo ρ with
  | some (.dic ks ds, _, ρ1) => match fe ρ1 with
    | some (.str k, _, ρ2) => match ff ρ2 with
      | some (z, _, ρ3) => some ((x9a ks ds k).getD z, x85 ((x9a ks ds k).getD z), ρ3)
      | none => none
    | _ => none
  | _ => none
theorem y3w {K : PySem.W.Frag} {H : Hp} {w : Wn} {o : Ow} (k : Str) : ∀ {ks : List Str} {ds : List D} {vs : List V}, Reps K H w o 0 ds vs [] ->
    (∀ d, x9a ks ds k = some d -> ∃ v, y3m (kvL ks vs) (.inr k) = some v /\ Rep K H w o 0 d v []) /\ (x9a ks ds k = none -> y3m (kvL ks vs) (.inr k) = none)
  | [], ds, vs, r => by
    refine ⟨fun d h => ?_, fun _ => rfl⟩
    unfold x9a at h
    cases h
  | x :: ks, ds, vs, r => by
    generalize hF : ([] : List Addr) = F at r
    cases r with
    | nil => exact ⟨(fun d h => by unfold x9a at h; cases h), fun _ => rfl⟩
    | @cons _ d' v' ds' vs' F' G' r s _ =>
      have h1 : F' = [] := r.zero
      have h2 : G' = [] := s.zero
      subst h1 h2
      have ih := y3w k (ks := ks) s
      by_cases hx : x = k
      · subst hx
        refine ⟨fun d h => ?_, fun h => ?_⟩
        · unfold x9a at h
          rw [if_pos rfl] at h
          cases h
          exact ⟨v', y0r rfl, r⟩
        · unfold x9a at h
          rw [if_pos rfl] at h
          cases h
      · have hk : ¬ ((Sum.inr x : Key) = .inr k) := fun z => hx (Sum.inr.inj z)
        have e : y3m (kvL (x :: ks) (v' :: vs')) (.inr k) = y3m (kvL ks vs') (.inr k) := y0x hk
        rw [e]
        unfold x9a
        rw [if_neg hx]
        exact ih
theorem z1r {k : Nat} (hr : Room k X.A) (ho : PD X a fa) (he : PD X b fb) (hf : PD X c fc)
    (hbase : attributeBase a "get" X.env (eval a X.env) = eval a X.env := by rfl)
    (hfew : ((backTo cpos (starEach [b, c] X.env)).all (fun x => !x.1) && (backToKw cpos (keywordEach [] X.env)).all (fun x => x.1.isSome)
      && decide (([b, c] : List Expr).length + ([] : List Keyword).length + (if ([] : List Keyword).isEmpty then 0 else 1) < 30)) = true := by rfl)
    (hline : (apos.endLine == cpos.line) = true := by rfl) (htr : backTo cpos (starEach [b, c] X.env) = [(false, eval b X.env), (false, eval c X.env)] := by rfl) :
    PD X (.Call (.Attribute a "get" apos) [b, c] [] cpos) (y9r fa fb fc) :=
  PE.imp (y9c (z7m hr) ho he hf ⟨hbase, hfew, hline, htr⟩) fun σ H Q hh0 => by
  obtain ⟨ρ, w, t, r', q, ρ', gd, ee, kk⟩ := hh0
  unfold y9r at ee
  split at ee
  · rename_i ks ds q1 ρ1 h1
    split at ee
    · rename_i k0 q2 ρ2 h2
      split at ee
      · rename_i z q3 ρ3 h3
        cases ee
        refine ⟨ρ, w, t, _, _, _, gd, h1, fun x H1 w1 F1 g1 go1 r1 => ?_⟩
        have r1' := r1
        cases r1' with
        | @dic _ a0 _ vs0 _ hH0 _ =>
          refine ⟨a0, rfl, .inl ⟨_, .inl hH0⟩, ρ1, w1, t + 1, _, _, _, g1, h2, fun y H2 w2 F2 g2 go2 r2 => ⟨ρ2, w2, t + 2, _, _, _, g2, h3, fun zv H3 w3 F3 g3 go3 r3 => ?_⟩⟩
          have hy : y = kV (.inr k0) := by cases r2; rfl
          subst hy
          have r13 := (r1.gone g1.wl (go2.trans go3)).drop (o := .t t) (Nat.le_refl t)
          have rz := r3.drop (o := .t t) (t' := t) (by omega)
          have go := (go1.trans go2).trans go3
          cases r13 with
          | @dic _ _ _ vs _ hH rs =>
            obtain ⟨v1, v2⟩ := y3w (ks := ks) k0 rs
            refine ⟨_, z4t.k hH, ?_⟩
            cases hg : x9a ks ds k0 with
            | none =>
              rw [v2 hg]
              rw [hg] at kk
              exact z13 kk gd g3 go rz.dep
            | some d =>
              obtain ⟨v, ev, rv⟩ := v1 d hg
              rw [ev]
              rw [hg] at kk
              exact z13 kk gd g3 go rv.dep
      · cases ee
    · cases ee
  · cases ee
theorem z3m {x25 : List Expr} {env : Env} {ks : List (Option Expr)} {vs : List Expr} : starEach (.Dict ks vs pos :: x25) env = (false, eval (.Dict ks vs pos) env) :: starEach x25 env := by simp only [starEach]
end
end L3
namespace L3
open PySem PySem.Spec PyProof.Rows L2
end L3
namespace L3
open PySem PySem.Spec PyProof.Rows PySem.W L2
theorem z33 {P : Program} {w : World} {H : Hp} {h : Heap} {a : Addr} {o : HO} (x : x2d P w H h a o) : ∃ ob, h.get? a = some ob := by
  cases o with
  | lst xs => obtain ⟨_, _, _, _, e⟩ := x; exact ⟨_, e⟩
  | tup xs => obtain ⟨_, _, _, o, e, _⟩ := x; exact ⟨_, e⟩
  | dK kvs => obtain ⟨_, _, _, _, o, _, _, e, _⟩ := x; exact ⟨_, e⟩
  | dT kvs => obtain ⟨_, _, _, _, o, _, _, e, _⟩ := x; exact ⟨_, e⟩
  | set S n => obtain ⟨o, _, _, _, e, _⟩ := x; exact ⟨_, e⟩
  | ins C dx fs => obtain ⟨_, _, _, e, _⟩ := x; exact ⟨_, e⟩
  | own y => obtain ⟨_, e⟩ := x; exact ⟨_, e⟩
  | xd fs => obtain ⟨_, ⟨_, _, _, e, _⟩, _⟩ := x; exact ⟨_, e⟩
  | rng lo hi => obtain ⟨_, _, _, e⟩ := x; exact ⟨_, e⟩
  | frz ob u => obtain ⟨e, _⟩ := x; exact ⟨_, e⟩
  | tbl ps => exact ⟨_, (show h.get? a = some _ from x)⟩
  | met f y => exact ⟨_, (show h.get? a = some _ from x)⟩
  | ext φ => obtain ⟨_, ⟨_, e⟩, _⟩ := x; exact ⟨_, e⟩
theorem y2i {P : Program} {w : World} {H : Hp} {h h' : Heap} (x : HOk P w H h) (k : ∀ b u o, H b = some u -> h.get? b = some o -> h'.get? b = some o) : HOk P w H h' := fun b u e =>
  (x b u e).stay (fun c o hc q => by
    rcases hc with z | z
    · rw [z] at q ⊢; exact k b u o e q
    · exact k c _ o z q) (fun _ q => q) fun _ _ q => q
structure Fly (P : Program) (w : World) (outer : List Env) (H : Hp) (s : Shared) (a C t : Addr) (B : Heap) (H' : Hp) (s' : Shared) : Prop where
  os : s'.os = s.os
  bare : AllBare s'.gens
  un : Un (frs outer) [] H H' s.heap s'.heap
  hok : HOk P w H' s'.heap
  fl : Heap.FlyingW B outer a (.ref C) (.ref t) s'.heap
  old : ∀ b o, s.heap.get? b = some o -> H b = none -> b ∉ frs outer -> B.get? b = some o
  oldT : ∀ b o, s.heap.get? b = some o -> b ∉ frs outer -> ∃ o', B.get? b = some o'
  trk : ∀ b u o, H' b = some u -> s'.heap.get? b = some o -> B.get? b = some o
  free : H' a = none
noncomputable def CXF (P : Program) (w : World) : CXT := fun outer H s E e s' => ∃ (a C t : Addr) (B : Heap) (H' : Hp), e = .ref a /\ Fly P w outer H s a C t B H' s' /\ E (.ref C) none H'
section
variable {P : Program} {w : World} {K : PySem.W.Frag} {mg : Str -> Option Value} {base : Heap} {N : List Str} {qual : Str} {scope : Scope} {f : Addr} {cd : Value} {A : Around} {outer : List Env} {s₀ : Shared} {H₀ : Hp} {E : XK} {pins : List (Addr × Obj)} {σ : St} {H : Hp} {s : Shared}
noncomputable abbrev cxF (P : Program) (w : World) (K : PySem.W.Frag) (mg : Str -> Option Value) (base : Heap) (N : List Str) (qual : Str) (scope : Scope) (f : Addr) (cd : Value) (A : Around) (outer : List Env) (s₀ : Shared) (H₀ : Hp) (E : XK) : Cx := y5e (CXF P w) P w K mg base N qual scope f cd A outer s₀ H₀ E
theorem y24 (I : Inv (cxF P w K mg base N qual scope f cd A outer s₀ H₀ E) pins σ H s) {b : Addr} (hb : b ∈ frs outer) {o : Obj} (e : s.heap.get? b = some o) : ∀ vs, o.data ≠ .fields vs := by
  obtain ⟨_, o', ho, hd⟩ := I.funs.mem hb
  rw [e] at ho; cases ho
  exact hd
theorem y34 {h' : Heap} {e C : Addr} {vs : List Value} (I : Inv (cxF P w K mg base N qual scope f cd A outer s₀ H₀ E) pins σ H s) (hm : Heap.MadeExcOf s.heap h' e (.ref C) vs) (hE : E (.ref C) none H) :
    (cxF P w K mg base N qual scope f cd A outer s₀ H₀ E).xe (.ref e) { s with heap := h' } := by
  have nL : ∀ b o, s₀.heap.get? b = some o -> b ≠ s₀.heap.objs.size := fun b o q => Nat.ne_of_lt (Heap.lt_size q)
  have hid : ∀ b o, s.heap.get? b = some o -> b ≠ s₀.heap.objs.size -> b ∉ frs outer -> (hideAll s.heap (frs (envOfC qual scope s₀.heap.objs.size f cd :: outer))).get? b = some o := fun b o q n1 n2 => hideAll_get _ q fun hm => by
    rcases List.mem_cons.mp (show b ∈ s₀.heap.objs.size :: frs outer from hm) with z | z
    · exact n1 z
    · exact n2 z
  have hin : ∀ env ∈ (envOfC qual scope s₀.heap.objs.size f cd :: outer), ∀ b, env.frame = some b -> b ∈ frs (envOfC qual scope s₀.heap.objs.size f cd :: outer) := fun env he b hb => List.mem_filterMap.mpr ⟨env, he, hb⟩
  have nstk : ∀ b u, H b = some u -> b ≠ s₀.heap.objs.size /\ b ∉ frs outer := fun b u q => by
    refine ⟨fun z => ?_, fun z => ?_⟩
    · have := I.free
      rw [z] at q
      have this' : H s₀.heap.objs.size = none := this
      rw [this'] at q; cases q
    · have := I.stkFree b (List.mem_cons_of_mem _ z)
      rw [this] at q; cases q
  have base0 : Un (frs outer) [] H₀ H s₀.heap s.heap := I.base
  show wpAny _ _ (leaving (envOfC qual scope s₀.heap.objs.size f cd) (.ref e)) _ _ _
  refine wpAny_leaves_madeW (s := { s with heap := h' }) (L := s₀.heap.objs.size) (outer := outer) I.ok.frames rfl (fun b o q => of_hideAll _ q) (funFrames_hide I.stack hin) hm fun h2 t fl _ _ up => ?_
  have old : ∀ b o, s₀.heap.get? b = some o -> H₀ b = none -> b ∉ frs outer -> (hideAll s.heap (frs (envOfC qual scope s₀.heap.objs.size f cd :: outer))).get? b = some o := fun b o q n hb => hid b o (base0.keep b o q n hb (by simp)) (nL b o q) hb
  have slot : ∀ b o, s.heap.get? b = some o -> b ∈ frs outer -> ∃ sl, h2.get? b = some { o with slots := sl } := fun b o q hb => up b o (hm.keeps b o q) (y24 I hb q)
  have trk : ∀ b u o, H b = some u -> s.heap.get? b = some o -> (hideAll s.heap (frs (envOfC qual scope s₀.heap.objs.size f cd :: outer))).get? b = some o := fun b u o q e => hid b o e (nstk b u q).1 (nstk b u q).2
  refine ⟨e, C, t, _, H, rfl, ⟨I.os, I.bare, ⟨fun b o q n hb _ => fl.1 b o (old b o q n hb), fun b o q n hb _ => ?_, fun b o q n _ => base0.free b o q n (by simp), fun b o q _ => ?_, base0.tups, base0.frzs, base0.tbls⟩, y2i I.hok fun b u o q e => fl.1 b o (trk b u o q e), fl, old, fun b o q hb => ?_, fun b u o q e => ?_, ?_⟩, hE⟩
  · obtain ⟨sl, q1⟩ := base0.slot b o q n hb (by simp)
    obtain ⟨sl', q2⟩ := slot b _ q1 hb
    exact ⟨sl', q2⟩
  · obtain ⟨o', q1⟩ := base0.there b o q (by simp)
    by_cases hb : b ∈ frs outer
    · obtain ⟨sl, q2⟩ := slot b o' q1 hb
      exact ⟨_, q2⟩
    · exact ⟨o', fl.1 b o' (hid b o' q1 (nL b o q) hb)⟩
  · obtain ⟨o', q1⟩ := base0.there b o q (by simp)
    exact ⟨o', hid b o' q1 (nL b o q) hb⟩
  · obtain ⟨o1, q1⟩ := z33 (I.hok b u q)
    have q2 := trk b u o1 q q1
    have q3 := fl.1 b o1 q2
    have e' : h2.get? b = some o := e
    rw [q3] at e'; cases e'
    exact q2
  · cases q : H e with
    | none => rfl
    | some u =>
      obtain ⟨o1, q1⟩ := z33 (I.hok e u q)
      rw [hm.new] at q1; cases q1
theorem z55 {E' : XK} (hE : ∀ C H', E' (.ref C) none H' -> E (.ref C) none H') (I : Inv (cxF P w K mg base N qual scope f cd A outer s₀ H₀ E) pins σ H s) {e : Value} {s' : Shared} (h : CXF P w (envOfC qual scope s₀.heap.objs.size f cd :: outer) H s E' e s') :
    (cxF P w K mg base N qual scope f cd A outer s₀ H₀ E).xe e s' := by
  obtain ⟨a, C, t, B, H', rfl, F, hE'⟩ := h
  have nL : ∀ b o, s₀.heap.get? b = some o -> b ≠ s₀.heap.objs.size := fun b o q => Nat.ne_of_lt (Heap.lt_size q)
  have base0 : Un (frs outer) [] H₀ H s₀.heap s.heap := I.base
  have nst : ∀ b o, s₀.heap.get? b = some o -> b ∉ frs outer -> b ∉ frs (envOfC qual scope s₀.heap.objs.size f cd :: outer) := fun b o q n hm => by
    rcases List.mem_cons.mp (show b ∈ s₀.heap.objs.size :: frs outer from hm) with z | z
    · exact nL b o q z
    · exact n z
  show wpAny _ _ (leaving (envOfC qual scope s₀.heap.objs.size f cd) (.ref a)) _ _ _
  refine wpAny_leaves_onW (L := s₀.heap.objs.size) (outer := outer) I.ok.frames rfl F.fl fun h2 fl up => ?_
  have old : ∀ b o, s₀.heap.get? b = some o -> H₀ b = none -> b ∉ frs outer -> B.get? b = some o := fun b o q n hb => F.old b o (base0.keep b o q n hb (by simp)) (base0.free b o q n (by simp)) (nst b o q hb)
  have slot : ∀ b o, s.heap.get? b = some o -> H b = none -> b ∈ frs outer -> ∃ sl, h2.get? b = some { o with slots := sl } := fun b o q n hb => by
    obtain ⟨sl, q1⟩ := F.un.slot b o q n (List.mem_cons_of_mem _ hb) (by simp)
    obtain ⟨sl', q2⟩ := up b _ q1 (fun vs z => y24 I hb q vs z)
    exact ⟨sl', q2⟩
  have fH : ∀ b ∈ frs outer, H b = none := fun b hb => I.stkFree b (List.mem_cons_of_mem _ hb)
  refine ⟨a, C, t, B, H', rfl, ⟨F.os.trans I.os, F.bare, ⟨fun b o q n hb _ => fl.1 b o (old b o q n hb), fun b o q n hb _ => ?_, fun b o q n _ => ?_, fun b o q _ => ?_, fun b xs q => F.un.tups b xs (base0.tups b xs q), fun b o u q => F.un.frzs b o u (base0.frzs b o u q), fun b ps q => ?_⟩, y2i F.hok fun b u o q e => fl.1 b o (F.trk b u o q e), fl, old, fun b o q hb => ?_, fun b u o q e => ?_, F.free⟩, hE C H' hE'⟩
  · obtain ⟨sl, q1⟩ := base0.slot b o q n hb (by simp)
    obtain ⟨sl', q2⟩ := slot b _ q1 (fH b hb) hb
    exact ⟨sl', q2⟩
  · obtain ⟨o', q1⟩ := base0.there b o q (by simp)
    exact F.un.free b o' q1 (base0.free b o q n (by simp)) (by simp)
  · obtain ⟨o', q1⟩ := base0.there b o q (by simp)
    by_cases hb : b ∈ frs outer
    · obtain ⟨sl, q2⟩ := slot b o' q1 (fH b hb) hb
      exact ⟨_, q2⟩
    · obtain ⟨o2, q2⟩ := F.oldT b o' q1 (nst b o q hb)
      exact ⟨o2, fl.1 b o2 q2⟩
  · obtain ⟨m1, e1⟩ := base0.tbls b ps q
    obtain ⟨m2, e2⟩ := F.un.tbls b _ e1
    exact ⟨m1 ++ m2, by rw [e2, Array.append_assoc]⟩
  · obtain ⟨o', q1⟩ := base0.there b o q (by simp)
    exact F.oldT b o' q1 (nst b o q hb)
  · obtain ⟨o1, q1⟩ := z33 (F.hok b u q)
    have q2 := F.trk b u o1 q q1
    have q3 := fl.1 b o1 q2
    have e' : h2.get? b = some o := e
    rw [q3] at e'; cases e'
    exact q2
end
structure XNm (K : Frag) (mg : Str -> Option Value) (nm : Str) (C : Addr) : Prop extends XKls K nm C where
  mg : mg nm = some (.ref C)
theorem z31 {K : Frag} {h : Heap} {C : Addr} {bmB : List Value} {newId : String} (X : K.In h) (q : excIn K C bmB newId = true) :
    ∃ bm N nm q bs hdct sn sub ab col dd k0 k1 k2 k3 k5 mN, h.get? C = some (excClassObj nm q C N bs bm hdct sn sub ab col dd k0 k1 k2 k3 k5 newId) /\ h.Ns N mN /\ mN "__init__" = none /\ OwnTail h bmB bm := by
  unfold excIn at q
  split at q
  · rename_i dd cd sl ho
    split at q
    · rename_i C' bm k0 k1 k2 k3 n k5 hm hs
      simp only [Bool.and_eq_true, beq_iff_eq, Bool.not_eq_true'] at q
      obtain ⟨⟨⟨⟨⟨rfl, rfl⟩, hdel⟩, ht⟩, hok⟩, hni⟩ := q
      obtain ⟨nm, bs, mro, ns, qn, hd, sn, sub, ab, col, del⟩ := cd
      dsimp only at hm hdel hok hni
      subst hm hdel
      have hsl : sl = #[k0, k1, k2, k3, some (.builtin n), k5] := by
        obtain ⟨l⟩ := sl
        simp only at hs
        rw [hs]
      subst hsl
      exact ⟨bm, ns, nm, qn, bs, hd, sn, sub, ab, col, dd, k0, k1, k2, k3, k5, _, X _ _ ho, .of_isNs (isNs_of_in X hok), nsMap_none_of_in X hok hni, tail_of_in X ht⟩
    · cases q
  · cases q
section
variable {P : Program} {w : World} {K : PySem.W.Frag} {mg : Str -> Option Value} {base : Heap} {N : List Str} {qual : Str} {scope : Scope} {f : Addr} {cd : Value} {A : Around} {outer : List Env} {s₀ : Shared} {H₀ : Hp} {E : XK} {pins : List (Addr × Obj)} {σ : St} {H : Hp} {s : Shared}
theorem y7o {nm txt : Str} {C : Addr} {j : Nat} {np cpos tpos pos : Pos} (hA : A.handled = none) (hC : XNm K mg nm C) (hg : Gl (cxF P w K mg base N qual scope f cd A outer s₀ H₀ E) nm) (hdb : (nm == ("__debug__" : Str)) = false := by decide) :
    PS (cxF P w K mg base N qual scope f cd A outer s₀ H₀ E) (.Raise (some (.Call (.Name nm np) [.Constant (.str txt) j tpos] [] cpos)) none pos) (fun _ _ H => E (.ref C) none H) := by
  intro pins s σ H D I h
  obtain ⟨tl, Nn, nm', q, bs, hdct, sn, sub, ab, col, dd, k0, k1, k2, k3, k5, mN, hC', hN, hni, T⟩ := z31 I.mod.kin hC.ex
  refine wpAny_Raise_call_subT (C := C) (nm := nm') (q := q) (N := Nn) (bs := bs) (bm := tl) (hdct := hdct) (sn := sn) (sub := sub) (ab := ab) (col := col) (dd := dd) (k0 := k0) (k1 := k1) (k2 := k2) (k3 := k3) (k5 := k5)
    PySem.F.excBase_ValueError (mN := mN) (T.hasType PySem.F.excBase_ValueError.hasBase) hA rfl hni (x8l I hg hC.mg ⟨rfl, ?_⟩ hdb)
  refine Calls.evalArgs_plain (Calls.spliced_cons (thn (y49 (j := j) (pos := tpos) pins s σ H (fun v H1 => v = .str txt /\ H1 = H) I ⟨rfl, rfl⟩) fun u s1 hh0 => ?_))
  obtain ⟨v, H1, I1, r1, e1, e2⟩ := hh0
  subst e1 e2
  refine Calls.spliced_nil ⟨rfl, by show 1 <= sizeLine; decide, I1.bk _ _ hC', hN.keeps I1.bk, T.keeps I1.bk, fun h' e hm => y34 I1 hm h⟩
end
noncomputable abbrev y7w := Rho -> Option Str
noncomputable def tX (K : PySem.W.Frag) (x : y7w) (E : XK) : TS := fun _ σ H => ∃ ρ w nm, Good K ρ σ H w 0 /\ x ρ = some nm /\ ∀ C H' w', nsIn K mainGlobals nm = some (some (.ref C)) -> WL w' H' -> Go H w H' w' -> E (.ref C) none H'
noncomputable def spX (K : PySem.W.Frag) (n : Nat) (F : List D -> Option Str) : Sp := fun vs H _ E => vs.length = n /\ ∃ ds w nm, (∀ a o, w a = some o -> o = .f) /\ WL w H /\ Reps K H w .f 0 ds vs [] /\ F ds = some nm /\
  ∀ C H' w', nsIn K mainGlobals nm = some (some (.ref C)) -> WL w' H' -> Go H w H' w' -> E (.ref C) none H'
noncomputable def fnX (n : Nat) (x : y7w) : List D -> Option Str := fun ds => x (x69 n ds)
noncomputable def y5f (P : Program) (w : World) (K : PySem.W.Frag) (mg : Str -> Option Value) (base : Heap) (k : Nat) (x : Str) (n : Nat) (F : List D -> Option Str) : Prop :=
  ∃ f fd ps, FnOk P w K mg base (CXF P w) k f fd ps (spX K n F) /\ mg x = some (.ref f) /\ PySem.W.keepIn K (.ref f) = true /\ y0d K fd ps []
theorem y5f.mk {P : Program} {w : World} {K : PySem.W.Frag} {mg : Str -> Option Value} {base : Heap} {k : Nat} {x : Str} {st : Stmt} {N ps : List Str} {xb : y7w} (a : At K mg x st ps) (S : FnScope N ps (x0d st))
    (h : ∀ (f : Addr) (cdv : Value) (A : Around) (outer : List Env) (s : Shared) (H : Hp) (E : XK), Room k (A.deeper (envOfC x (x0d st) s.heap.objs.size f cdv)) -> PSs (cxF P w K mg base N x (x0d st) f cdv A outer s H E) (x2r st) (tX K xb E)) :
    y5f P w K mg base (k + 1) x ps.length (fnX N.length xb) := by
  obtain ⟨f, fd, F, m, b⟩ := a
  refine ⟨f, fd, ps, ?_, m, F.kp, b⟩
  obtain ⟨oc, od, kV, doc, pm, an, cdv, ct, osl, rfl, lk, hcd⟩ := F.ex
  refine z4y lk hcd S (fun vs H Q E h => h.1) fun A outer s H vs Q E hr hsp => ⟨_, h f cdv A outer s H E hr, ?_⟩
  obtain ⟨hn, ds, w, nm, hw, wl, rs, e, k⟩ := hsp
  exact ⟨_, w, nm, x7g hw wl rs, e, k⟩
noncomputable def xIf (g : x1y) (nm : Str) : y7w := fun ρ => match g ρ with
  | some (true, _) => some nm
  | _ => none
noncomputable def y9h (F : List D -> Option Str) (n : Nat) (g : x1h) : y7w := fun ρ => match g ρ with
  | some (ds, _) => if ds.length = n then F ds else none
  | none => none
section
variable {P : Program} {w : World} {K : PySem.W.Frag} {mg : Str -> Option Value} {base : Heap} {N : List Str} {qual : Str} {scope : Scope} {f : Addr} {cd : Value} {A : Around} {outer : List Env} {s₀ : Shared} {H₀ : Hp} {E : XK}
theorem z8l {nm txt : Str} {C : Addr} {j : Nat} {np cpos tpos pos ipos : Pos} {c : Expr} {orelse : List Stmt} {g : x1y} (hA : A.handled = none) (hC : XNm K mg nm C) (hc : PDT (cxF P w K mg base N qual scope f cd A outer s₀ H₀ E) c g)
    (hb : PSs (cxF P w K mg base N qual scope f cd A outer s₀ H₀ E) orelse fun _ _ _ => False) (hg : Gl (cxF P w K mg base N qual scope f cd A outer s₀ H₀ E) nm := by rfl) (hdb : (nm == ("__debug__" : Str)) = false := by decide) :
    PS (cxF P w K mg base N qual scope f cd A outer s₀ H₀ E) (.If c [.Raise (some (.Call (.Name nm np) [.Constant (.str txt) j tpos] [] cpos)) none pos] orelse ipos) (tX K (xIf g nm) E) :=
  PS.imp (z5d hc (y2e (y7o hA hC hg hdb)) hb) fun D σ H hh0 => by
    obtain ⟨ρ, w', nm', gd, e, k⟩ := hh0
    unfold xIf at e
    split at e
    · rename_i ρ1 h1
      cases e
      exact ⟨ρ, w', 0, true, ρ1, gd, h1, fun H1 w1 g1 go1 => (show E (.ref C) none H1 from k C H1 w1 hC.ns g1.wl go1)⟩
    · cases e
theorem y8f {j k n : Nat} {x : Str} {F : List D -> Option Str} {e : Expr} {es : List Expr} {g : x1h} {p pos : Pos} (Cx' : y5f P w K mg base k x n F) (hr : Room j (A.deeper (envOfC qual scope s₀.heap.objs.size f cd))) (hk : k <= j) (ha : PDA (cxF P w K mg base N qual scope f cd A outer s₀ H₀ E) (e :: es) g)
    (hg : Gl (cxF P w K mg base N qual scope f cd A outer s₀ H₀ E) x := by rfl) (hdb : (x == ("__debug__" : Str)) = false := by decide) (he : starEach (e :: es) (envOfC qual scope s₀.heap.objs.size f cd) = (false, eval e (envOfC qual scope s₀.heap.objs.size f cd)) :: starEach es (envOfC qual scope s₀.heap.objs.size f cd) := by rfl)
    (hpl : (backTo pos (starEach es (envOfC qual scope s₀.heap.objs.size f cd))).any (·.1) = false := by rfl) :
    PE (cxF P w K mg base N qual scope f cd A outer s₀ H₀ E) (.Call (.Name x p) (e :: es) [] pos) (fun σ H _ => tX K (y9h F n g) E { nx := fun _ _ => False, rt := fun _ _ => False } σ H) := by
  obtain ⟨fn, fd, ps, G, hm, hkp, hb⟩ := Cx'
  refine PE.imp (y6z (X := cxF P w K mg base N qual scope f cd A outer s₀ H₀ E) (E := E) G (hr.mono hk) hg hm hkp hb .nil (fun pins σ H s e s' I h => z55 (fun _ _ h => h) I h) ha hdb he hpl) fun σ H Q hh0 => ?_
  obtain ⟨ρ, w', nm, gd, e, k'⟩ := hh0
  unfold y9h at e
  split at e
  · rename_i ds ρ1 h1
    split at e
    · rename_i hn
      refine ⟨ρ, w', 0, ds, ρ1, gd, h1, fun vs H1 w1 g1 go1 r1 => ?_⟩
      show spX K n F (vs ++ []) H1 Q E
      rw [List.append_nil]
      refine ⟨by rw [<- r1.length]; exact hn, ds, fun a => (w1 a).map fun _ => Ow.f, nm, fun a o e => ?_, fun a o e => ?_, ?_, e, fun C H2 w2 hns wl2 go2 => k' C H2 w1 hns (fun a o ew => ?_) (go1.trans ⟨fun a x e n => ?_, fun a o ew no => ?_⟩)⟩
      · dsimp only at e
        cases ew : w1 a with
        | none => rw [ew] at e; cases e
        | some o' => rw [ew] at e; cases e; rfl
      · dsimp only at e
        cases ew : w1 a with
        | none => rw [ew] at e; cases e
        | some o' => exact g1.wl a o' ew
      · exact Reps.freeze (fun a n => by show (w1 a).map _ = _; rw [n]; rfl) r1 (fun _ z => nomatch z)
      · obtain ⟨vs', q⟩ := g1.wl a o ew
        have := (go2.keep a .f (by show (w1 a).map _ = _; rw [ew]; rfl) (fun i z => nomatch z)).1
        exact ⟨vs', by rw [this]; exact q⟩
      · exact ⟨(go2.stab a x e (by show (w1 a).map _ = _; rw [n]; rfl)).1, n⟩
      · exact ⟨(go2.keep a .f (by show (w1 a).map _ = _; rw [ew]; rfl) (fun i z => nomatch z)).1, ew⟩
    · cases e
  · cases e
theorem y3u {st : Stmt} {x25 : List Stmt} {x : y7w} (h : PS (cxF P w K mg base N qual scope f cd A outer s₀ H₀ E) st (tX K x E)) : PSs (cxF P w K mg base N qual scope f cd A outer s₀ H₀ E) (st :: x25) (tX K x E) := by
  intro pins s σ H D I hh
  refine wpAny_execs_cons (thn (h pins s σ H { nx := fun _ _ => False, rt := fun _ _ => False } I hh) fun fl s1 q => ?_)
  cases fl with
  | next => obtain ⟨_, _, _, z⟩ := q; exact z.elim
  | brk => obtain ⟨_, _, _, z⟩ := q; exact z.elim
  | cont => obtain ⟨_, _, _, z⟩ := q; exact z.elim
  | ret u => obtain ⟨_, _, _, _, _, z⟩ := q; exact z.elim
theorem z3l {e : Expr} {x : y7w} {pos : Pos} (h : PE (cxF P w K mg base N qual scope f cd A outer s₀ H₀ E) e (fun σ H _ => tX K x E { nx := fun _ _ => False, rt := fun _ _ => False } σ H)) (hs : swapsWith e none pos.line (envOfC qual scope s₀.heap.objs.size f cd) = pure false := by rfl) :
    PS (cxF P w K mg base N qual scope f cd A outer s₀ H₀ E) (.Expr e pos) (tX K x E) := PS.imp (y5y h hs) fun D σ H hh0 => hh0
end
theorem y84 {M : Model} {A : Around} {E : Value -> Shared -> Prop} {K : Frag} {s : Shared} {x C R : Addr} {ox : Obj} {Q : Bool -> Shared -> Prop} (X : K.In s.heap) (I : XAt s.heap x ox C) (hR : XCls K R) (hty : typeIn K (.ref R) = some (.type "type"))
    (hsub : subIn K (.ref C) (.ref R) = some true) (h : Q true s) : wpAny M A (excMatches (.ref x) (.ref R)) Q E s := by
  obtain ⟨h0, g, d, tt, os⟩ := s
  have L0 := I.type (M := M)
  have L1 := looks_typeIn (M := M) X hty
  have L2 := x5b (M := M) X hR.ci
  have L3 := looks_mroIn (M := M) X hR.mb
  have L4 := looks_subIn (M := M) X hsub
  have f := tc_notTuple
  have L5 : Looks M h0 (isSubtype (.type "type") (.type "tuple")) false := Looks.of_pure f
  unfold excMatches isInstance isExcClass
  repeat (first | lk | wp_step)
  exact h
section
variable {X : Cx} {pins : List (Addr × Obj)} {σ : St} {H H' : Hp} {s s' : Shared} {a C t : Addr} {B : Heap}
theorem y6q {M : Model} {A : Around} {E : Value -> Shared -> Prop} {i : Nat} {x : Str} {pos : Pos} {Q : Unit -> Shared -> Prop} (I : Inv X pins σ H s) (hN : X.N.Nodup) (hi : X.N[i]? = some x) (hx : X.env.scope.names.lookup x = some .local)
    (h : ∀ s', Inv X pins (σ.set i none) H s' -> Q () s') : wpAny M A (do bindName X.env x .none; unbindBehindTheSuite X.env x pos) Q E s := by
  obtain ⟨m, hn, hl⟩ := id I.loc
  have hcls : (X.env.scope.kind == .class || (X.env.scope.kind == .module && X.env.locals != X.env.globals)) = false := by rw [I.ok.kind]; rfl
  have hiσ : i < σ.length := by rw [I.len]; exact (List.getElem?_eq_some_iff.mp hi).1
  have cne := I.cne
  refine wpAny_nameGoes_keeps hx hn hcls fun h' v hn' hs => ?_
  obtain ⟨oL, _, _, hoL, _⟩ := id hn
  have tracked : HOk X.prog X.w H h' := fun b ob e => by
    refine (I.hok b ob e).stay (fun c w' hc q => (hs.2 c ?_).trans q) (fun _ q => q) fun _ _ q => q
    rintro rfl
    rcases hc with rfl | hc
    · rw [I.free] at e; cases e
    · rw [I.free] at hc; cases hc
  refine h _ ⟨I.ok, I.os, I.bare, ⟨fun b o e n hb hx => ?_, fun b o e n hb hx => ?_, I.base.free, fun b o e hx => ?_, I.base.tups, I.base.frzs, I.base.tbls⟩, ⟨_, hn', fun j y v' e1 e2 e3 => ?_⟩, fun y c e => ?_, I.free, I.freeC, fun p hp => ?_, tracked, by simpa using I.len⟩
  · exact (hs.2 b (Nat.ne_of_lt (Nat.lt_of_lt_of_le (Heap.lt_size e) I.ok.above))).trans (I.base.keep b o e n hb hx)
  · obtain ⟨sl, e1⟩ := I.base.slot b o e n hb hx
    exact ⟨sl, (hs.2 b (Nat.ne_of_lt (Nat.lt_of_lt_of_le (Heap.lt_size e) I.ok.above))).trans e1⟩
  · obtain ⟨o', e1⟩ := I.base.there b o e hx
    exact ⟨o', (hs.2 b (Nat.ne_of_lt (Nat.lt_of_lt_of_le (Heap.lt_size e) I.ok.above))).trans e1⟩
  · by_cases hj : j = i
    · subst hj
      rw [List.getElem?_set_self hiσ] at e2
      cases e2
    · rw [List.getElem?_set_ne (Ne.symm hj)] at e2
      obtain ⟨u', r', q⟩ := hl j y v' e1 e2 e3
      refine ⟨u', r', ?_⟩
      rcases q with ⟨k, e⟩ | ⟨k, c, e, z⟩
      · refine .inl ⟨k, ?_⟩
        have : y ≠ x := fun e => hj (y10 hN e1 (e ▸ hi))
        simp [this, e]
      · exact .inr ⟨k, c, e, z.sameBut hs (cne y c e)⟩
  · obtain ⟨w', z⟩ := I.cell y c e
    exact ⟨w', z.sameBut hs (cne y c e)⟩
  · obtain ⟨e, n, ne, nf, d⟩ := I.pin p hp
    exact ⟨(hs.2 p.1 ne).trans e, n, ne, nf, d⟩
noncomputable def z3t (a : Addr) (oe : Obj) : HO := .frz oe (.ext fun h => h.get? a = some oe)
theorem Fly.un2 (I : Inv X pins σ H s) (F : Fly X.prog X.w X.stack H s a C t B H' s') {h' : Heap} (fl : Heap.FlyingW B X.stack a (.ref C) (.ref t) h') (up : s'.heap.UpToSlots h') : Un (frs X.stack) [] H H' s.heap h' /\ HOk X.prog X.w H' h' := by
  have slot : ∀ b o, s.heap.get? b = some o -> H b = none -> b ∈ frs X.stack -> ∃ sl, h'.get? b = some { o with slots := sl } := fun b o q n hb => by
    obtain ⟨sl, q1⟩ := F.un.slot b o q n hb (by simp)
    obtain ⟨_, o', ho, hd⟩ := I.stack.mem hb
    rw [q] at ho; cases ho
    obtain ⟨sl', q2⟩ := up b _ q1 hd
    exact ⟨sl', q2⟩
  refine ⟨⟨fun b o q n hb _ => fl.1 b o (F.old b o q n hb), fun b o q n hb _ => slot b o q n hb, F.un.free, fun b o q _ => ?_, F.un.tups, F.un.frzs, F.un.tbls⟩, y2i F.hok fun b u o q e => fl.1 b o (F.trk b u o q e)⟩
  by_cases hb : b ∈ frs X.stack
  · obtain ⟨sl, q2⟩ := slot b o q (I.stkFree b hb) hb
    exact ⟨_, q2⟩
  · obtain ⟨o2, q2⟩ := F.oldT b o q hb
    exact ⟨o2, fl.1 b o2 q2⟩
theorem Fly.inv (I : Inv X pins σ H s) (F : Fly X.prog X.w X.stack H s a C t B H' s') {h' : Heap} (fl : Heap.FlyingW B X.stack a (.ref C) (.ref t) h') (up : s'.heap.UpToSlots h') : Inv X pins σ H' { s' with heap := h' } :=
  I.call' (s' := { s' with heap := h' }) F.os (F.un2 I fl up).1 (F.un2 I fl up).2 F.bare (fun b hb => nomatch hb)
theorem Fly.inv2 (I : Inv X pins σ H s) (F : Fly X.prog X.w X.stack H s a C t B H' s') {h' : Heap} (fl : Heap.FlyingW B X.stack a (.ref C) (.ref t) h') (up : s'.heap.UpToSlots h') {oe : Obj} {vs : Array Value} (ho : h'.get? a = some oe) (hd : oe.data = .fields vs) :
    Inv X pins σ (upd H' a (z3t a oe)) { s' with heap := h' } := by
  obtain ⟨u, hk⟩ := F.un2 I fl up
  have na : ∀ b x, H' b = some x -> upd H' a (z3t a oe) b = some x := fun b x q => by
    unfold upd
    rw [if_neg (fun z => by rw [z, F.free] at q; cases q)]
    exact q
  have nfr : a ∉ frs X.stack := fun hb => by
    obtain ⟨_, o', ho', hd'⟩ := fl.2.2.1.mem hb
    rw [ho] at ho'; cases ho'
    exact hd' vs hd
  refine I.call' (s' := { s' with heap := h' }) F.os ⟨u.keep, u.slot, fun b o q n e => ?_, u.there, fun b xs q => na b _ (u.tups b xs q), fun b o' u' q => na b _ (u.frzs b o' u' q), fun b ps q => ?_⟩ (fun b x q => ?_) F.bare (fun b hb => nomatch hb)
  · unfold upd
    rw [if_neg (fun z => ?_)]
    · exact u.free b o q n e
    · subst z
      obtain ⟨o2, q2⟩ := F.oldT b o q nfr
      rw [fl.2.1] at q2; cases q2
  · obtain ⟨m, q1⟩ := u.tbls b ps q
    exact ⟨m, na b _ q1⟩
  · by_cases hb : b = a
    · subst hb
      unfold upd at q
      rw [if_pos rfl] at q
      cases q
      exact ⟨ho, ho, ⟨_, ho⟩, fun h1 h2 q1 q2 => q2 _ q1⟩
    · have q' := q
      unfold upd at q
      rw [if_neg hb] at q
      exact (hk b x q).stay (fun _ _ _ z => z) (fun c z => na c _ z) (fun c xs z => na c _ z)
noncomputable abbrev Cx.mark (X : Cx) (e : Value) : Cx := { X with A := X.A.mark (some e), calm := false, xe := fun _ _ => False }
theorem Inv.mark (I : Inv X pins σ H s) (e : Value) : Inv (Cx.mark X e) pins σ H s :=
  ⟨⟨I.ok.mod, I.ok.kind, I.ok.glob, I.ok.blt, I.ok.above, I.ok.inj, I.ok.has, I.ok.cab, (fun z => by cases z), I.ok.frames, I.ok.stk, I.ok.exf, I.ok.bs, I.ok.bsz, I.ok.noex, I.ok.exfs, I.ok.funs, I.ok.frf⟩, I.os, I.bare, I.base, I.loc, I.cell, I.free, I.freeC, I.pin, I.hok, I.len⟩
theorem Inv.unmark {e : Value} (hX : X.Ok) (I : Inv (Cx.mark X e) pins σ H s) : Inv X pins σ H s := ⟨hX, I.os, I.bare, I.base, I.loc, I.cell, I.free, I.freeC, I.pin, I.hok, I.len⟩
theorem y94 {R n kx : Str} {RA : Addr} {np kp vp apos pos : Pos} {ie ik : Nat} {Q : Flow -> Shared -> Prop} {E : Value -> Shared -> Prop} (I : Inv X pins σ H s) (F : Fly X.prog X.w X.stack H s a C t B H' s') (hst : X.stack = X.env :: X.outer) (hfm : X.env.frame = some X.env.locals)
    (hN : X.N.Nodup) (hie : X.N[ie]? = some n) (hik : X.N[ik]? = some kx) (hne : X.env.scope.names.lookup n = some .local) (hnk : X.env.scope.names.lookup kx = some .local) (hR : XCls X.K RA) (hRt : typeIn X.K (.ref RA) = some (.type "type")) (hsub : subIn X.K (.ref C) (.ref RA) = some true) (hmg : X.mg R = some (.ref RA)) (hg : Gl X R)
    (hdb : (R == ("__debug__" : Str)) = false) (hdn : (n == ("__debug__" : Str)) = false) (hcn : (n == ("__classdict__" : Str)) = false) (hsw : swapsWith (.Name n vp) (some (.Name kx kp)) apos.line X.env = pure false)
    (hQ : ∀ s5 oe, oe.cls = .ref C -> Inv X pins (((σ.set ie (some (.ref a))).set ik (some (.ref a))).set ie none) (upd H' a (z3t a oe)) s5 -> Q .next s5) :
    wpAny (model X.prog X.w) X.A (noteFrame (.ref a) X.env) (fun _ s₂ => wpAny (model X.prog X.w) X.A (setFlight (.ref a) none) (fun _ s₃ =>
      wpAny (model X.prog X.w) X.A (handleBy (.ref a) X.env [.ExceptHandler (some (.Name R np)) (some n) [.Assign [.Name kx kp] (.Name n vp) apos] pos]) Q E s₃) E s₂) E s' := by
  have hiσ : ie < σ.length := by rw [I.len]; exact (List.getElem?_eq_some_iff.mp hie).1
  have fl0 := F.fl
  have hst' := hst
  rw [hst] at fl0
  refine wpAny_looks_onW (L := X.env.locals) (outer := X.outer) (by rw [<- hst]; exact I.ok.frames) hfm fl0 fun h₄ hheld₄ up₄ => ?_
  refine wpAny_landsW hheld₄ fun h₅ fl₅ up₅ => ?_
  have fl₅' := fl₅
  rw [<- hst] at fl₅'
  have I5 := F.inv I fl₅' (up₄.trans up₅)
  obtain ⟨ob, hob, hobc⟩ := fl₅'.there
  have J5 := Inv.mark I5 (.ref a)
  refine wpAny_handleBy_cons (codeAny_handlers_test (x8l (X := Cx.mark X (.ref a)) J5 hg hmg ?_ hdb)) (by intro q; cases q)
  refine y84 J5.kIn ⟨hob, hobc⟩ hR hRt hsub ?_
  refine codeAny_handlers_suite_as ?_
  refine lands_againW fl₅ fun h₆ fl₆ up₆ => ?_
  have fl₆' := fl₆
  rw [<- hst] at fl₆'
  obtain ⟨oe, ws, hoe, hoec, hoed, hoe0⟩ := fl₆'.first
  have I6 := F.inv2 I fl₆' ((up₄.trans up₅).trans up₆) hoe hoed
  refine y0m (v := .ref a) I6 hN hie (.inl hne) rfl (fun s7 I7 => ?_) (.inr hne)
  have J7 := Inv.mark I7 (.ref a)
  have body := y2e (z0b (X := Cx.mark X (.ref a)) (i := ik) (x := kx) (pos := apos) (pos' := kp) hN hik (.inl hnk) (pv (X := Cx.mark X (.ref a)) ie (x := n) (pos := vp) hie (.inl hne) hdn hcn) hsw (.inr hnk))
  refine wpAny_mono (body pins s7 _ _ { nx := fun σ' H1 => σ' = (σ.set ie (some (.ref a))).set ik (some (.ref a)) /\ H1 = upd H' a (z3t a oe), rt := fun _ _ => False } J7 ⟨.ref a, List.getElem?_set_self hiσ, rfl, rfl⟩) (fun fl s8 q => ?_) (fun _ _ z => False.elim z)
  cases fl with
  | next =>
    obtain ⟨σ8, H8, J8, rfl, rfl⟩ := q
    exact y6q (Inv.unmark I.ok J8) hN hie hne fun s9 I9 => hQ s9 oe hoec I9
  | brk => obtain ⟨_, _, _, z⟩ := q; exact z.elim
  | cont => obtain ⟨_, _, _, z⟩ := q; exact z.elim
  | ret u => obtain ⟨_, _, _, _, _, z⟩ := q; exact z.elim
end
theorem Good.unset {K : PySem.W.Frag} {ρ : Rho} {σ : St} {H : Hp} {w : Wn} {t i : Nat} {v : Option V} (g : Good K ρ σ H w t) (hi : i < σ.length) :
    Good K (ρ.set i none) (σ.set i v) H (x4t i w) t /\ Go H w H (x4t i w) := by
  have st : x7w H w H (x4t i w) := fun a x h n => ⟨h, x45 n⟩
  refine ⟨⟨fun a o h => g.wl a o (x2k h).1, fun a j h => by rw [List.length_set]; exact g.ws a j (x2k h).1, fun a j h => g.wt a j (x2k h).1, by rw [List.length_set, List.length_set]; exact g.len, fun j d' q' e' => ?_⟩, ⟨st, fun a o h n => ⟨rfl, x5v h (n i)⟩⟩⟩
  by_cases hj : i = j
  · subst hj
    rw [List.getElem?_set_self (by rw [g.len]; exact hi)] at e'
    cases e'
  · rw [List.getElem?_set_ne hj] at e'
    obtain ⟨v', F, h1, h2⟩ := g.slot j d' q' e'
    exact ⟨v', F, by rw [List.getElem?_set_ne hj]; exact h1, Rep.go g.wl st h2 fun a m => ⟨rfl, x5v (h2.owns a m) (fun z => hj (by cases z; rfl))⟩⟩
noncomputable def y58 (K : Frag) (mg : Str -> Option Value) (R : Str) (L : List Str) : Prop := ∃ RA, XCls K RA /\ typeIn K (.ref RA) = some (.type "type") /\ mg R = some (.ref RA) /\
  ∀ nm ∈ L, ∀ C, nsIn K mainGlobals nm = some (some (.ref C)) -> XKls K nm C /\ subIn K (.ref C) (.ref RA) = some true
noncomputable def z3u (L : List Str) (F : List D -> Option (D × Nat)) (Fx : List D -> Option Str) (n : Nat) (g : x1h) (iy ie ik : Nat) : x1c := fun ρ => match g ρ with
  | some (ds, ρ1) => match Fx ds with
    | some nm => if ds.length = n /\ nm ∈ L then some (.nx (((ρ1.set ie (some (.exc nm, 9))).set ik (some (.exc nm, 9))).set ie none)) else none
    | none => x1n iy (x0k F n g) ρ
  | none => none
section
variable {Y : Cx} {e : Expr} {es : List Expr} {g : x1h}
theorem z0u {R nn kx x y : Str} {L : List Str} {F : List D -> Option (D × Nat)} {Fx : List D -> Option Str} {j k n iy ie ik : Nat} {np kp vp apos hpos pos yp fp cpos spos : Pos} (hU : y58 Y.K Y.mg R L) (CX : y5f Y.prog Y.w Y.K Y.mg Y.base k x n Fx) (hr : Room j Y.A) (hk : k <= j) (ha : PDA Y.nox (e :: es) g)
    (hy : PDS Y.nox (.Assign [.Name y yp] (.Call (.Name x fp) (e :: es) [] cpos) spos) (x1n iy (x0k F n g))) (hN : Y.N.Nodup) (hie : Y.N[ie]? = some nn) (hik : Y.N[ik]? = some kx) (hst : Y.stack = Y.env :: Y.outer := by rfl) (hfm : Y.env.frame = some Y.env.locals := by rfl)
    (hne : Y.env.scope.names.lookup nn = some .local := by rfl) (hnk : Y.env.scope.names.lookup kx = some .local := by rfl) (hg : Gl Y R := by rfl) (hgx : Gl Y x := by rfl) (hdx : (x == ("__debug__" : Str)) = false := by decide)
    (hdb : (R == ("__debug__" : Str)) = false := by decide) (hdn : (nn == ("__debug__" : Str)) = false := by decide) (hcn : (nn == ("__classdict__" : Str)) = false := by decide) (hsw : swapsWith (.Name nn vp) (some (.Name kx kp)) apos.line Y.env = pure false := by rfl)
    (hsc : swapsWith (.Call (.Name x fp) (e :: es) [] cpos) (some (.Name y yp)) spos.line Y.env = pure false := by rfl)
    (he : starEach (e :: es) Y.env = (false, eval e Y.env) :: starEach es Y.env := by rfl) (hpl : (backTo cpos (starEach es Y.env)).any (·.1) = false := by rfl) :
    PDS Y.nox (.Try [.Assign [.Name y yp] (.Call (.Name x fp) (e :: es) [] cpos) spos] [.ExceptHandler (some (.Name R np)) (some nn) [.Assign [.Name kx kp] (.Name nn vp) apos] hpos] [] [] pos) (z3u L F Fx n g iy ie ik) := by
  intro pins s σ H Dn I hh
  obtain ⟨ρ, w, o, gd, ee, K'⟩ := hh
  unfold z3u at ee
  refine wpAny_Try_except ?_
  split at ee
  · rename_i ds ρ1 h1
    split at ee
    · rename_i nm hx
      split at ee
      · rename_i hL
        cases ee
        obtain ⟨hn, hL⟩ := hL
        obtain ⟨RA, hR, hRt, hmg, hall⟩ := hU
        obtain ⟨fn, fd, ps, G, hm, hkp, hb⟩ := CX
        refine wpAny_execs_cons (wpAny_Assign_Name ?_ hsc)
        refine wpAny_Call_Name_kw (x8l (X := Y.nox) I hgx hm ?_ hdx)
        refine PySem.W.callWith_K (h₀ := Y.base) I.ok.mod.kin hkp (wpAny_mono (ha cpos pins s σ H (fun vs H1 => ∃ w1, Good Y.K ρ1 σ H1 w1 0 /\ Go H w H1 w1 /\ Reps Y.K H1 w1 .f 0 ds vs []) I ⟨ρ, w, 0, ds, ρ1, gd, h1, fun vs H1 w1 g1 go1 r1 => ⟨w1, g1, go1, r1⟩⟩) (fun us s1 hh1 => ?_) (fun _ _ z => False.elim z)) he hpl
        obtain ⟨vs, H1, I1, rv, w1, g1, go1, r1⟩ := hh1
        refine ⟨I1.kIn, ?_⟩
        have hsp : spX Y.K n Fx vs H1 (fun _ _ => False) (fun c _ H' => ∃ C, c = .ref C /\ nsIn Y.K mainGlobals nm = some (some (.ref C)) /\ ∀ b o, H1 b = some o -> H' b = some o) := by
          refine ⟨by rw [<- r1.length]; exact hn, ds, fun a => (w1 a).map fun _ => Ow.f, nm, fun a o e => ?_, fun a o e => ?_, ?_, hx, fun C H2 w2 hns wl2 go2 => ⟨C, rfl, hns, fun b o e => ?_⟩⟩
          · dsimp only at e
            cases ew : w1 a with
            | none => rw [ew] at e; cases e
            | some o' => rw [ew] at e; cases e; rfl
          · dsimp only at e
            cases ew : w1 a with
            | none => rw [ew] at e; cases e
            | some o' => exact g1.wl a o' ew
          · exact Reps.freeze (fun a n => by show (w1 a).map _ = _; rw [n]; rfl) r1 (fun _ z => nomatch z)
          · cases ew : w1 b with
            | none => exact (go2.stab b o e (by show (w1 b).map _ = _; rw [ew]; rfl)).1
            | some o' => exact ((go2.keep b .f (by show (w1 b).map _ = _; rw [ew]; rfl) (fun i z => nomatch z)).1).trans e
        have hl : us.length = ps.length := by rw [<- rv.length]; exact G.len _ _ _ _ hsp
        have hbb := hb s1 us I1.kIn (by rw [List.append_nil]; exact hl)
        rw [List.append_nil] at hbb
        refine wpAny_call (codeAny_mono (G.run Y.A Y.stack s1 H1 ⟨us, []⟩ us vs _ _ (hr.mono hk) I1.env0 hbb rv hsp) fun r s' hq => ?_)
        cases r with
        | ok fl =>
          cases fl with
          | ret u => obtain ⟨_, _, _, z⟩ := I1.after hq; exact z.2.elim
          | next => exact False.elim hq
          | brk => exact False.elim hq
          | cont => exact False.elim hq
        | error ev =>
          obtain ⟨a, C, t, B, H', rfl, F', C', eC, hns, hext⟩ := hq
          cases eC
          obtain ⟨hXk, hsub⟩ := hall nm hL C hns
          refine y94 (X := Y.nox) I1 F' hst hfm hN hie hik hne hnk hR hRt hsub hmg hg hdb hdn hcn hsw fun s5 oe hoc I5 => ?_
          have hσe : ie < σ.length := by rw [I.len]; exact (List.getElem?_eq_some_iff.mp hie).1
          have hσk : ik < σ.length := by rw [I.len]; exact (List.getElem?_eq_some_iff.mp hik).1
          have hfr := F'.free
          obtain ⟨g2, go2⟩ := g1.more (H' := upd H' a (z3t a oe)) fun b o q => by
            unfold upd
            rw [if_neg (fun z => by rw [<- z, hext b o q] at hfr; cases hfr)]
            exact hext b o q
          have rep : ∀ w', Rep Y.K (upd H' a (z3t a oe)) w' .f 0 (.exc nm) (.ref a) [] := fun w' => .exc (ob := oe) (u := .ext fun h => h.get? a = some oe) (by unfold upd; rw [if_pos rfl]; rfl) ⟨C, hoc, hXk⟩ (fun _ z => nomatch z)
          obtain ⟨g3, go3⟩ := g2.setV (i := ie) hσe (rep _)
          obtain ⟨g4, go4⟩ := g3.setV (i := ik) (by rw [List.length_set]; exact hσk) (rep _)
          obtain ⟨g5, go5⟩ := g4.unset (i := ie) (v := none) (by rw [List.length_set, List.length_set]; exact hσe)
          exact ⟨_, _, I5, K' _ _ _ (by rw [List.length_set, List.length_set, List.length_set]) g5 ((((go1.trans go2).trans go3).trans go4).trans go5)⟩
      · cases ee
    · refine wpAny_execs_cons (wpAny_mono (hy pins s σ H Dn I ⟨ρ, w, o, gd, ee, K'⟩) (fun fl s1 q => ?_) (fun _ _ z => False.elim z))
      cases fl with
      | next => exact wpAny_execs_nil (wpAny_execs_nil q)
      | brk => exact q
      | cont => exact q
      | ret u => exact q
  · cases ee
end
end L3
namespace L3
open PySem PySem.Spec PyProof.Rows PySem.W L2 PySem.SeqAt
noncomputable def IsC (K : Frag) (mg : Str -> Option Value) (L : List Str) (nm : Str) : Prop := ∃ C, mg nm = some (.ref C) /\ ∀ n ∈ L, ∀ B, nsIn K mainGlobals n = some (some (.ref B)) -> (n = nm -> isIn K (.ref B) C = true) /\ (n ≠ nm -> kin_not K B C = true)
section
variable {X : Cx} {a b c e : Expr} {es : List Expr} {fa fb fc f : Den} {ga gb : x1y} {g : x1h} {pos p p1 p2 pT cpos apos : Pos}
theorem y8g {C : Addr} {L : List Str} {nm : Str} (h : ∀ n ∈ L, ∀ B, nsIn X.K mainGlobals n = some (some (.ref B)) -> (n = nm -> isIn X.K (.ref B) C = true) /\ (n ≠ nm -> kin_not X.K B C = true)) :
    x7z X (.builtin "isinstance") (fun xs H Q => ∃ x w o q F n, xs = [x, .ref C] /\ n ∈ L /\ Rep X.K H w o q (.exc n) x F /\ Q (.bl (n == nm)) H) := by
  intro pins s σ H xs us Q I r hh
  obtain ⟨x, w, o, q, F, n, rfl, hn, rd, hq⟩ := hh
  obtain ⟨u, v, rfl, ru, rv⟩ := y8x r
  cases rv
  cases rd with
  | exc ha xo _ =>
    obtain ⟨B, hc, k⟩ := xo
    cases ru
    obtain ⟨e1, _⟩ := (show x2d X.prog X.w H s.heap _ (.frz _ _) from I.hok _ _ ha)
    obtain ⟨h1, h2⟩ := h n hn B k.ns
    by_cases z : n = nm
    · rw [beq_iff_eq.mpr z] at hq
      exact z56 I.kIn ⟨e1, hc⟩ (h1 z) ⟨.bl true, H, I, rfl, hq⟩
    · rw [beq_eq_false_iff_ne.mpr z] at hq
      exact z89 I.kIn ⟨e1, hc⟩ k.xc (h2 z) ⟨.bl false, H, I.tok _, rfl, hq⟩
noncomputable def y96 (L : List Str) (nm : Str) (fa : Den) : Den := fun ρ => match fa ρ with
  | some (.exc n, _, ρ1) => if n ∈ L then some (.bl (n == nm), 9, ρ1) else none
  | _ => none
theorem z46 {L : List Str} {nm : Str} (hC : IsC X.K X.mg L nm) (hm : X.mg "isinstance" = none) (ha : PD X a fa) (hg : Gl X "isinstance" := by rfl) (hgT : Gl X nm := by rfl) (hdT : (nm == ("__debug__" : Str)) = false := by decide)
    (hs : starEach [a, .Name nm pT] X.env = (false, eval a X.env) :: starEach [.Name nm pT] X.env := by rfl) (hpl : (backTo pos (starEach [.Name nm pT] X.env)).any (·.1) = false := by rfl) : PD X (.Call (.Name "isinstance" p) [a, .Name nm pT] [] pos) (y96 L nm fa) := by
  obtain ⟨C, hmC, hall⟩ := hC
  refine PE.imp (x3y (y8g hall) hg hm PyProof.Rows.boot_isinstance (x3g ha (x3g (z0v (v := .ref C) hgT hmC rfl hdT) x6f x05) hs) (by decide) (by decide) hs hpl) fun σ H Q hh0 => ?_
  obtain ⟨ρ, w, t, r', q, ρ', gd, ee, k⟩ := hh0
  unfold y96 at ee
  split at ee
  · rename_i n q1 ρ1 h1
    split at ee
    · rename_i hL
      cases ee
      refine ⟨ρ, w, t, _, _, _, gd, h1, fun v H1 w1 F1 g1 go1 r1 => ?_⟩
      exact ⟨v, w1, _, _, F1, n, rfl, hL, r1, k _ H1 (x1j t w1) [] g1.drop.up (go1.drop gd.wt) (.bl _)⟩
    · cases ee
  · cases ee
theorem y9i : x7z X (.builtin "isinstance") (fun xs H Q => ∃ x w o q F n, xs = [x, .ty "ValueError"] /\ Rep X.K H w o q (.exc n) x F /\ Q (.bl true) H) := by
  intro pins s σ H xs us Q I r hh
  obtain ⟨x, w, o, q, F, n, rfl, rd, hq⟩ := hh
  obtain ⟨u, v, rfl, ru, rv⟩ := y8x r
  cases rv
  cases rd with
  | exc ha xo _ =>
    obtain ⟨B, hc, k⟩ := xo
    cases ru
    obtain ⟨e1, _⟩ := (show x2d X.prog X.w H s.heap _ (.frz _ _) from I.hok _ _ ha)
    exact z30 I.kIn ⟨e1, hc⟩ (by kernel_rfl) k.ve ⟨.bl true, H, I, rfl, hq⟩
noncomputable def z78 (fa : Den) : Den := fun ρ => match fa ρ with
  | some (.exc n, _, ρ1) => some (.bl true, 9, ρ1)
  | _ => none
theorem z44 (hm : X.mg "isinstance" = none) (hmT : X.mg "ValueError" = none) (ha : PD X a fa) (hg : Gl X "isinstance" := by rfl) (hgT : Gl X "ValueError" := by rfl)
    (hs : starEach [a, .Name "ValueError" pT] X.env = (false, eval a X.env) :: starEach [.Name "ValueError" pT] X.env := by rfl) (hpl : (backTo pos (starEach [.Name "ValueError" pT] X.env)).any (·.1) = false := by rfl) : PD X (.Call (.Name "isinstance" p) [a, .Name "ValueError" pT] [] pos) (z78 fa) := by
  refine PE.imp (x3y y9i hg hm PyProof.Rows.boot_isinstance (x3g ha (x3g (y5i (v := .ty "ValueError") hgT hmT (by kernel_rfl) rfl (by decide) (by decide)) x6f x05) hs) (by decide) (by decide) hs hpl) fun σ H Q hh0 => ?_
  obtain ⟨ρ, w, t, r', q, ρ', gd, ee, k⟩ := hh0
  unfold z78 at ee
  split at ee
  · rename_i n q1 ρ1 h1
    cases ee
    refine ⟨ρ, w, t, _, _, _, gd, h1, fun v H1 w1 F1 g1 go1 r1 => ?_⟩
    exact ⟨v, w1, _, _, F1, n, rfl, r1, k _ H1 (x1j t w1) [] g1.drop.up (go1.drop gd.wt) (.bl _)⟩
  · cases ee
noncomputable def z42 : D -> D -> Option D
  | .non, .non => some (.bl true)
  | .exc _, .non => some (.bl false)
  | .int _, .non => some (.bl false)
  | .tup _, .non => some (.bl false)
  | .str _, .non => some (.bl false)
  | _, _ => none
noncomputable def z95 : R2 := fun x y H Q => y = .non /\ ((x = .non /\ Q (.bl true) H) \/ ((∃ i, x = .int i) \/ (∃ i, x = .str i) \/ (∃ i, x = .ref i)) /\ Q (.bl false) H)
theorem z04 : OpR X (compareOp .Is) z95 := by
  intro pins s σ H x y v u Q I rx ry h
  obtain ⟨rfl, h⟩ := h
  cases ry
  rcases h with ⟨rfl, q⟩ | ⟨⟨i, rfl⟩ | ⟨i, rfl⟩ | ⟨i, rfl⟩, q⟩
  · cases rx
    exact wpAny_pure ⟨.bl true, H, I, rfl, q⟩
  · obtain ⟨t, rfl⟩ := rx
    exact wpAny_pure ⟨.bl false, H, I, rfl, q⟩
  · obtain ⟨t, rfl⟩ := rx
    exact wpAny_pure ⟨.bl false, H, I, rfl, q⟩
  · cases rx
    exact wpAny_pure ⟨.bl false, H, I, rfl, q⟩
theorem z9e {K : PySem.W.Frag} : ∀ σ H Q, tD K (e2 z42 fa fb) σ H Q -> tOp z95 (tD K fa) (tD K fb) σ H Q := y04 fun x y d h => by
  unfold z42 at h
  split at h
  · cases h
    exact ⟨_, rfl, fun H w o o' q q' u u' F F' r1 r2 _ Q hq => by cases r1; cases r2; exact ⟨rfl, .inl ⟨rfl, hq⟩⟩⟩
  · cases h
    exact ⟨_, rfl, fun H w o o' q q' u u' F F' r1 r2 _ Q hq => by cases r1; cases r2; exact ⟨rfl, .inr ⟨.inr (.inr ⟨_, rfl⟩), hq⟩⟩⟩
  · cases h
    exact ⟨_, rfl, fun H w o o' q q' u u' F F' r1 r2 _ Q hq => by cases r1; cases r2; exact ⟨rfl, .inr ⟨.inl ⟨_, rfl⟩, hq⟩⟩⟩
  · cases h
    exact ⟨_, rfl, fun H w o o' q q' u u' F F' r1 r2 _ Q hq => by cases r1; cases r2; exact ⟨rfl, .inr ⟨.inr (.inr ⟨_, rfl⟩), hq⟩⟩⟩
  · cases h
    exact ⟨_, rfl, fun H w o o' q q' u u' F F' r1 r2 _ Q hq => by cases r1; cases r2; exact ⟨rfl, .inr ⟨.inr (.inl ⟨_, rfl⟩), hq⟩⟩⟩
  · cases h
theorem z2e (ha : PD X a fa) (hb : PD X b fb) : PDT X (.Compare a [.Is] [b] pos) (x3d (e2 z42 fa fb)) := x8o z04 z9e ha hb (y12 _)
noncomputable def y6n (d : D) (ds : List D) : Nat := (x57 ds).countP fun y => PyData.eqv y (toP d)
noncomputable def z7i (K : PySem.W.Frag) : V -> List V -> Hp -> VK -> Prop := fun x xs H Q => ∃ ds d y, xs = [y] /\ Is K H (.lst ds) x /\ Is K H d y /\ okD (.lst ds) = true /\ okD d = true /\ Q (.int (Int.ofNat (y6n d ds))) H
theorem z2k (hu : X.A.units + 65 < cLine) : MtR X "list.count" (z7i X.K) := by
  intro pins s σ H x xs v us Q I rx rs ⟨ds, d, y, e, ⟨w, o, q, F, h1⟩, ⟨w', o', q', F', h2⟩, k1, k2, hq⟩
  subst e
  obtain ⟨u, rfl, ru⟩ := y0t rs
  obtain ⟨as, ra⟩ := h1.reads I rx (x81 k1)
  obtain ⟨bs, rb⟩ := h2.reads I ru (x81 k2)
  replace k1 := x80 k1
  replace k2 := x80 k2
  unfold toP at ra k1
  have hc1 : PyData.canLayAll0 (x57 ds) = true := SeqAt.canLay_of_shaped k1
  have hc2 := SeqAt.canLay_of_shaped k2
  cases ra with
  | @list a ob vs n _ _ ho hcl hd hrs =>
    obtain ⟨cls, dd, data, sl⟩ := ob
    simp only at hcl hd
    subst hcl hd
    have hmap := SeqAt.readsAll_map _ _ _ hc1 hrs
    have hcnt : vs.toList.countP (fun y => PyData.eqv (SeqAt.readOf s.heap y) (toP d)) = y6n d ds := by
      unfold y6n
      rw [<- hmap, List.countP_map]
      rfl
    refine call_meets PySem.F.slot_list_count ⟨_, ho, rfl⟩ PySem.F.entry_list_count (PySem.F.args_list_count_2 _ _)
      (list_countAt a vs n dd sl u (fun y => PyData.eqv (SeqAt.readOf s.heap y) (toP d))) ⟨ho, SeqAt.items_eqAt hrs rb hc1 hc2 (room_in_shaped k2 hu), ?_⟩
    rw [hcnt]
    exact ⟨.int (Int.ofNat (y6n d ds)), H, I.tok _, ⟨_, rfl⟩, hq⟩
noncomputable def z7c (fo : Den) (g : x1h) : Den := fun ρ => match fo ρ with
  | some (.lst ds, _, ρ1) => match g ρ1 with
    | some ([d], ρ2) => if okD (.lst ds) = true /\ okD d = true then some (.int (Int.ofNat (y6n d ds)), 9, ρ2) else none
    | _ => none
  | _ => none
noncomputable def z2q (K : PySem.W.Frag) : V -> List V -> Hp -> VK -> Prop := fun x xs H Q => ∃ ds d y j, xs = [y] /\ Is K H (.lst ds) x /\ Is K H d y /\ okD (.lst ds) = true /\ okD d = true /\ z3r d ds = some j /\ (j : Int) < 1000 /\ Q (.int (Int.ofNat j)) H
theorem y63 (hu : X.A.units + 65 < cLine) : MtR X "list.index" (z2q X.K) := by
  intro pins s σ H x xs v us Q I rx rs ⟨ds, d, y, j, e, ⟨w, o, q, F, h1⟩, ⟨w', o', q', F', h2⟩, k1, k2, hj, hsm, hq⟩
  subst e
  obtain ⟨u, rfl, ru⟩ := y0t rs
  obtain ⟨as, ra⟩ := h1.reads I rx (x81 k1)
  obtain ⟨bs, rb⟩ := h2.reads I ru (x81 k2)
  replace k1 := x80 k1
  replace k2 := x80 k2
  unfold toP at ra k1
  have hc1 : PyData.canLayAll0 (x57 ds) = true := SeqAt.canLay_of_shaped k1
  have hc2 := SeqAt.canLay_of_shaped k2
  cases ra with
  | @list a ob vs n _ _ ho hcl hd hrs =>
    obtain ⟨cls, dd, data, sl⟩ := ob
    simp only at hcl hd
    subst hcl hd
    have hmap := SeqAt.readsAll_map _ _ _ hc1 hrs
    have hfi := List.findIdx?_eq_some_iff_getElem.mp hj
    obtain ⟨hjl, hjt, hjf⟩ := hfi
    have hlen : vs.size = (x57 ds).length := by rw [<- hmap]; simp
    have hat : ∀ m (hm : m < vs.size) (hm' : m < (x57 ds).length), SeqAt.readOf s.heap vs[m] = (x57 ds)[m] := fun m hm hm' => by
      have : (vs.toList.map (SeqAt.readOf s.heap))[m]? = (x57 ds)[m]? := by rw [hmap]
      simpa [hm, hm'] using this
    refine call_meets PySem.F.slot_list_index ⟨_, ho, rfl⟩ PySem.F.entry_list_index (PySem.F.args_list_index_2 _ _)
      (list_indexAt a vs n dd sl u (fun y => PyData.eqv (SeqAt.readOf s.heap y) (toP d)) j (by omega) (by omega) (by rw [hat j (by omega) hjl]; simpa using hjt) (fun m hm hmj => by rw [hat m hm (by omega)]; simpa using hjf m hmj)) ⟨ho, SeqAt.items_eqAt hrs rb hc1 hc2 (room_in_shaped k2 hu), ?_⟩
    exact ⟨.int (Int.ofNat j), H, I.tok _, ⟨_, rfl⟩, hq⟩
noncomputable def y0c (fo : Den) (g : x1h) : Den := fun ρ => match fo ρ with
  | some (.lst ds, _, ρ1) => match g ρ1 with
    | some ([d], ρ2) => if okD (.lst ds) = true /\ okD d = true then match z3r d ds with
      | some j => if (j : Int) < 1000 then some (.int (Int.ofNat j), 9, ρ2) else none
      | none => none
      else none
    | _ => none
  | _ => none
theorem Rep.sqL {K : PySem.W.Frag} {H : Hp} {w : Wn} {ds : List D} {v : V} {F : List Addr} (r : Rep K H w .f 0 (.lst ds) v F) : ∃ a us, v = .ref a /\ SqL K H a us := by
  cases r with
  | kl h _ => exact ⟨_, _, rfl, .inr h⟩
  | shr h _ _ => exact ⟨_, _, rfl, .inl h⟩
theorem z3h {k : Nat} (hr : Room k X.A) (ho : PD X a fa) (ha : PDA X [e] g)
    (hbase : attributeBase a "count" X.env (eval a X.env) = eval a X.env := by rfl)
    (hfew : ((backTo cpos (starEach [e] X.env)).all (fun x => !x.1) && (backToKw cpos (keywordEach [] X.env)).all (fun x => x.1.isSome)
      && decide ([e].length + ([] : List Keyword).length + (if ([] : List Keyword).isEmpty then 0 else 1) < 30)) = true := by rfl)
    (hline : (apos.endLine == cpos.line) = true := by rfl) (hs : starEach [e] X.env = (false, eval e X.env) :: starEach [] X.env := by rfl) (hplain : (backTo cpos (starEach [] X.env)).any (·.1) = false := by rfl) :
    PD X (.Call (.Attribute a "count" apos) [e] [] cpos) (z7c fa g) :=
  PE.imp (y5c PySem.F.plainAttrs_list PySem.F.slot_list_count PySem.F.type_list_count (z2k (u65 hr)) ho ha hbase hfew hline hs hplain) fun σ H Q hh0 => by
  obtain ⟨ρ, w, t, r', q, ρ', gd, ee, k⟩ := hh0
  unfold z7c at ee
  split at ee
  · rename_i ds q1 ρ1 h1
    split at ee
    · rename_i d ρ2 h2
      split at ee
      · rename_i hok
        cases ee
        refine ⟨ρ, w, t, _, _, _, gd, h1, fun v H1 w1 F1 g1 go1 r1 => ?_⟩
        have r0 := r1.drop (o := .f) (Nat.le_refl t)
        have gg := g1.drop (t' := t)
        obtain ⟨p0, us, rfl, hq⟩ := Rep.sqL r0
        refine ⟨.inl ⟨rfl, us, hq⟩, ρ1, x1j t w1, t, _, _, gg, h2, fun vs2 H2 w2 g2 go2 r2 => ?_⟩
        obtain ⟨v2, rfl, rv2⟩ := one r2
        have r3 : Rep X.K H2 w2 .f 0 (.lst ds) (.ref p0) [] := r0.go0 gg.wl go2.stab
        exact ⟨ds, d, v2, rfl, ⟨_, _, _, _, r3⟩, ⟨_, _, _, _, rv2⟩, hok.1, hok.2, k _ H2 w2 [] g2.up ((go1.drop gd.wt).trans go2) (.int _)⟩
      · cases ee
    · cases ee
  · cases ee
theorem y7a {k : Nat} (hr : Room k X.A) (ho : PD X a fa) (ha : PDA X [e] g)
    (hbase : attributeBase a "index" X.env (eval a X.env) = eval a X.env := by rfl)
    (hfew : ((backTo cpos (starEach [e] X.env)).all (fun x => !x.1) && (backToKw cpos (keywordEach [] X.env)).all (fun x => x.1.isSome)
      && decide ([e].length + ([] : List Keyword).length + (if ([] : List Keyword).isEmpty then 0 else 1) < 30)) = true := by rfl)
    (hline : (apos.endLine == cpos.line) = true := by rfl) (hs : starEach [e] X.env = (false, eval e X.env) :: starEach [] X.env := by rfl) (hplain : (backTo cpos (starEach [] X.env)).any (·.1) = false := by rfl) :
    PD X (.Call (.Attribute a "index" apos) [e] [] cpos) (y0c fa g) :=
  PE.imp (y5c PySem.F.plainAttrs_list PySem.F.slot_list_index PySem.F.type_list_index (y63 (u65 hr)) ho ha hbase hfew hline hs hplain) fun σ H Q hh0 => by
  obtain ⟨ρ, w, t, r', q, ρ', gd, ee, k⟩ := hh0
  unfold y0c at ee
  split at ee
  · rename_i ds q1 ρ1 h1
    split at ee
    · rename_i d ρ2 h2
      split at ee
      · rename_i hok
        split at ee
        · rename_i j hj
          split at ee
          · rename_i hsm
            cases ee
            refine ⟨ρ, w, t, _, _, _, gd, h1, fun v H1 w1 F1 g1 go1 r1 => ?_⟩
            have r0 := r1.drop (o := .f) (Nat.le_refl t)
            have gg := g1.drop (t' := t)
            obtain ⟨p0, us, rfl, hq⟩ := Rep.sqL r0
            refine ⟨.inl ⟨rfl, us, hq⟩, ρ1, x1j t w1, t, _, _, gg, h2, fun vs2 H2 w2 g2 go2 r2 => ?_⟩
            obtain ⟨v2, rfl, rv2⟩ := one r2
            have r3 : Rep X.K H2 w2 .f 0 (.lst ds) (.ref p0) [] := r0.go0 gg.wl go2.stab
            exact ⟨ds, d, v2, j, rfl, ⟨_, _, _, _, r3⟩, ⟨_, _, _, _, rv2⟩, hok.1, hok.2, hj, hsm, k _ H2 w2 [] g2.up ((go1.drop gd.wt).trans go2) (.int _)⟩
          · cases ee
        · cases ee
      · cases ee
    · cases ee
  · cases ee
end
end L3
namespace L3
open PySem PySem.Spec PyProof.Rows L2
section
variable {X : Cx} {a b c e : Expr} {fa fb fc f : Den} {pos p p1 p2 pT cpos apos : Pos}
@[simp] noncomputable def y2l (fa : Den) (fl fh : y5n) : Den := fun ρ => match fa ρ with
  | some (.lst ds, _, ρ1) => match fl ρ1 with
    | some (lo, ρ2) => match fh ρ2 with
      | some (hi, ρ3) => some (.lst (z0e ds lo hi), 1, ρ3)
      | none => none
    | none => none
  | _ => none
theorem z4o {lo hi : Option Expr} {fl fh : y5n} (ha : PD X a fa) (hl : PDO X lo fl) (hh : PDO X hi fh) : PD X (.Subscript a (.Slice lo hi none p2) pos) (y2l fa fl fh) := PE.imp (y3z z32 ha hl hh) fun σ H Q hh0 => by
  obtain ⟨ρ, w, t, r', q, ρ', gd, ee, k⟩ := hh0
  unfold y2l at ee
  split at ee
  · rename_i ds q1 ρ1 h1
    split at ee
    · rename_i lo ρ2 h2
      split at ee
      · rename_i hi ρ3 h3
        cases ee
        refine ⟨ρ, w, t, _, _, _, gd, h1, fun v H1 w1 F1 g1 go1 r1 => ?_⟩
        have gg1 := g1.drop (t' := t)
        have r0 := r1.drop (o := .f) (Nat.le_refl t)
        refine ⟨ρ1, x1j t w1, t, _, _, gg1, h2, fun H2 w2 g2 go2 => ⟨ρ2, w2, t, _, _, g2, h3, fun H3 w3 g3 go3 => ?_⟩⟩
        have r3 := (r0.go0 gg1.wl go2.stab).go0 g2.wl go3.stab
        obtain ⟨p1, vs, rfl, q1', s1⟩ := r3.seqL0
        have l1 := s1.length
        refine ⟨p1, vs, rfl, q1', fun p hp => ?_⟩
        have s4 : Reps X.K H3 w3 .f 0 (z0e ds lo hi) (y7e vs lo hi) [] := by
          unfold z0e y7e
          rw [<- l1]
          exact (s1.drop0 _).take0 _
        obtain ⟨a1, a2, a3⟩ := y2g g3 hp s4
        exact k _ _ _ _ a1 ((((go1.drop gd.wt).trans go2).trans go3).trans a2) a3
      · cases ee
    · cases ee
  · cases ee
end
structure QE (X : Cx) (e : Expr) (t : TE) : Prop where mk :: o : PE X e t
structure QD (X : Cx) (e : Expr) (f : Den) : Prop where mk :: o : PD X e f
structure QDA (X : Cx) (e : List Expr) (f : x1h) : Prop where mk :: o : PDA X e f
structure QDT (X : Cx) (e : Expr) (f : x1y) : Prop where mk :: o : PDT X e f
structure QDW (X : Cx) (e : Expr) (f : x1y) : Prop where mk :: o : PDW X e f
structure QDS (X : Cx) (e : Stmt) (f : x1c) : Prop where mk :: o : PDS X e f
structure QDSs (X : Cx) (e : List Stmt) (f : x1c) : Prop where mk :: o : y5g X e f
structure QDI (X : Cx) (tg e : Expr) (f : y0l) : Prop where mk :: o : PDI X tg e f
structure QDG (X : Cx) (b : Nat) (e : Expr) (f : x5w) : Prop where mk :: o : PDG X b e f
structure QDGs (X : Cx) (b : Nat) (e : List Expr) (f : x7h) : Prop where mk :: o : z71 X b e f
structure QDO (X : Cx) (e : Option Expr) (f : y5n) : Prop where mk :: o : PDO X e f
structure QDTs (X : Cx) (e : List Expr) (f : x1y) : Prop where mk :: o : z5l X e f
structure QQ (X : Cx) (e : Expr) (f : x97) : Prop where mk :: o : PQ X e f
theorem qv {X : Cx} (i : Nat) {x : Str} {pos : Pos} (hN : X.N[i]? = some x := by rfl) (hv : Vis X.env.scope x := by first | exact Or.inl rfl | exact Or.inr (Or.inl rfl) | exact Or.inr (Or.inr rfl)) (hd : (x == ("__debug__" : Str)) = false := by decide) (hcd : (x == ("__classdict__" : Str)) = false := by decide) : QE X (.Name x pos) (x8p i) := ⟨pv i hN hv hd hcd⟩
theorem y7m {X : Cx} {e : Expr} {f : x1y} (h : QDW X e f) : QDT X e f := ⟨PW.pt h.o⟩
section
variable {X : Cx} {a b c e : Expr} {fa fb fc f : Den} {pos : Pos}
theorem x0b {i j} : QD X (.Constant (.int i) j pos) (eC (.int i)) := ⟨z43 ⟩
end
section
variable {X : Cx} {a b c e : Expr} {fa fb fc f : Den} {pos : Pos}
theorem x8f {i j} : QD X (.Constant (.bool i) j pos) (eC (.bl i)) := ⟨z8f ⟩
end
section
variable {X : Cx} {a b c e : Expr} {fa fb fc f : Den} {pos : Pos}
theorem y43 {j} : QD X (.Constant .none j pos) (eC .non) := ⟨z6v ⟩
end
section
variable {X : Cx} {a b c e : Expr} {fa fb fc f : Den} {pos : Pos}
theorem x37 {x j} : QD X (.Constant (.str x) j pos) (eC (.str x)) := ⟨z5z ⟩
end
section
variable {X : Cx} {a b c e : Expr} {fa fb fc f : Den} {pos : Pos}
theorem x02 {i : Nat} {x : Str} (h : QE X (.Name x pos) (x8p i)) : QD X (.Name x pos) (x08 i) := ⟨z6n h.o⟩
end
section
variable {X : Cx} {a b c e : Expr} {fa fb fc f : Den} {pos : Pos}
theorem x14 (ha : QD X a fa) (hb : QD X b fb) : QD X (.BinOp a .Add b pos) (e2 x29 fa fb) := ⟨z4d ha.o hb.o⟩
end
section
variable {X : Cx} {a b c e : Expr} {fa fb fc f : Den} {pos : Pos}
theorem x51 (ha : QD X a fa) (hb : QD X b fb) : QD X (.BinOp a .Mult b pos) (e2 x8s fa fb) := ⟨z54 ha.o hb.o⟩
end
section
variable {X : Cx} {a b c e : Expr} {fa fb fc f : Den} {pos : Pos}
theorem y6r (ha : QD X a fa) (hb : QD X b fb) : QD X (.BinOp a .FloorDiv b pos) (e2 z4x fa fb) := ⟨z67 ha.o hb.o⟩
end
section
variable {X : Cx} {a b c e : Expr} {fa fb fc f : Den} {pos : Pos}
theorem x9t (ha : QD X a fa) (hb : QD X b fb) : QD X (.BinOp a .Mod b pos) (e2 z0c fa fb) := ⟨z5m ha.o hb.o⟩
end
section
variable {X : Cx} {a b c e : Expr} {fa fb fc f : Den} {pos : Pos}
theorem x41 (ha : QD X a fa) (hb : QD X b fb) (hs : x3u b := by exact fun _ _ => rfl) : QD X (.Subscript a b pos) (eIx fa fb) := ⟨z8a ha.o hb.o hs⟩
end
section
variable {X : Cx} {a b c e : Expr} {fa fb fc f : Den} {pos : Pos}
theorem x03  : QDA X [] x0h := ⟨z2s ⟩
end
section
variable {X : Cx} {a b c e : Expr} {fa fb fc f : Den} {pos : Pos}
theorem x00 {es : List Expr} {g : x1h} (ha : QD X e f) (hr : QDA X es g) (hs : starEach (e :: es) X.env = (false, eval e X.env) :: starEach es X.env := by rfl) : QDA X (e :: es) (x01 f g) := ⟨y9o ha.o hr.o hs⟩
end
section
variable {X : Cx} {a b c e : Expr} {fa fb fc f : Den} {pos : Pos}
theorem x1w {es : List Expr} {g : x1h} (h : QDA X es g) : QD X (.List es pos) (x49 g) := ⟨z68 h.o⟩
end
section
variable {X : Cx} {a b c e : Expr} {fa fb fc f : Den} {pos : Pos}
theorem x2u {es : List Expr} {g : x1h} {x1} (h : QDA X es g) : QD X (.Tuple es x1 pos) (x5e g) := ⟨z61 h.o⟩
end
section
variable {X : Cx} {a b c e : Expr} {fa fb fc f : Den} {ga gb gc : x1y} {pos : Pos}
theorem x5a (ha : QD X a fa) (he : ∀ whole, isTrue a X.env whole = (do let v <- whole; standAt a.pos; holding [v] (truthy v)) := by exact fun _ => rfl) : QDT X a (y2d fa) := ⟨z34 ha.o he⟩
end
section
variable {X : Cx} {a b c e : Expr} {fa fb fc f : Den} {ga gb gc : x1y} {pos : Pos}
theorem y3o (ha : QD X a fa) (hb : QD X b fb) : QDT X (.Compare a [.Lt] [b] pos) (x3d (e2 dLt fa fb)) := ⟨z6s ha.o hb.o⟩
end
section
variable {X : Cx} {a b c e : Expr} {fa fb fc f : Den} {ga gb gc : x1y} {pos : Pos}
theorem x8a (ha : QDT X a ga) : QDT X (.UnaryOp .Not a pos) (x8q ga) := ⟨z2j ha.o⟩
end
section
variable {X : Cx} {a b c e : Expr} {fa fb fc f : Den} {ga gb gc : x1y} {pos : Pos} {x25 : List Expr}
theorem y0h (ha : QDT X a ga) : QDW X (.BoolOp .Or [a] pos) ga := ⟨z0y ha.o⟩
end
section
variable {X : Cx} {a b c e : Expr} {fa fb fc f : Den} {ga gb gc : x1y} {pos : Pos} {x25 : List Expr}
theorem y28 (ha : QDT X a ga) (hb : QDW X (.BoolOp .Or (b :: x25) pos) gb) : QDW X (.BoolOp .Or (a :: b :: x25) pos) (y7c ga gb) := ⟨z3v ha.o hb.o⟩
end
section
variable {X : Cx} {a b c e : Expr} {fa fb fc f : Den} {ga gb gc : x1y} {pos : Pos} {x25 : List Expr}
theorem y8q (hc : QDT X c gc) (ha : QD X a fa) (hb : QD X b fb) : QD X (.IfExp c a b pos) (eIf gc fa fb) := ⟨y9u hc.o ha.o hb.o⟩
end
section
variable {X : Cx} {a b c e : Expr} {fa fb fc f : Den} {ga gb gc : x1y} {pos : Pos} {st : Stmt} {x25 sa sb : List Stmt} {s s' : x1c}
theorem x24  : QDSs X [] x71 := ⟨z2h ⟩
end
section
variable {X : Cx} {a b c e : Expr} {fa fb fc f : Den} {ga gb gc : x1y} {pos : Pos} {st : Stmt} {x25 sa sb : List Stmt} {s s' : x1c}
theorem x09 (h1 : QDS X st s) (h2 : QDSs X x25 s') : QDSs X (st :: x25) (x0y s s') := ⟨y8d h1.o h2.o⟩
end
section
variable {X : Cx} {a b c e : Expr} {fa fb fc f : Den} {ga gb gc : x1y} {pos : Pos} {st : Stmt} {x25 sa sb : List Stmt} {s s' : x1c}
theorem x0f (h1 : QDS X st s) : QDSs X [st] s := ⟨z1j h1.o⟩
end
section
variable {X : Cx} {a b c e : Expr} {fa fb fc f : Den} {ga gb gc : x1y} {pos : Pos} {st : Stmt} {x25 sa sb : List Stmt} {s s' : x1c}
theorem x0l (h : QD X e f) : QDS X (.Return (some e) pos) (x3f f) := ⟨z0q h.o⟩
end
section
variable {X : Cx} {a b c e : Expr} {fa fb fc f : Den} {ga gb gc : x1y} {pos : Pos} {st : Stmt} {x25 sa sb : List Stmt} {s s' : x1c}
theorem x2v (hc : QDT X c gc) (ha : QDSs X sa s) (hb : QDSs X sb s') : QDS X (.If c sa sb pos) (sIf gc s s') := ⟨z40 hc.o ha.o hb.o⟩
end
section
variable {X : Cx} {a b c e : Expr} {fa fb fc f : Den} {ga gb gc : x1y} {pos : Pos} {st : Stmt} {x25 sa sb : List Stmt} {s s' : x1c}
theorem x0j {i : Nat} {x : Str} {pos' : Pos} (hN : X.N.Nodup) (hi : X.N[i]? = some x) (hx : Loc X.env.scope x) (he : QD X e f) (hs : swapsWith e (some (.Name x pos')) pos.line X.env = pure false := by rfl) (hf : X.fn x = true \/ X.env.scope.names.lookup x = some .local := by first | exact .inl rfl | exact .inr rfl) : QDS X (.Assign [.Name x pos'] e pos) (x1n i f) := ⟨z3f hN hi hx he.o hs hf⟩
end
section
variable {X : Cx} {a b c e : Expr} {fa fb fc f : Den} {ga gb gc : x1y} {pos : Pos} {st : Stmt} {x25 sa sb : List Stmt} {s s' : x1c}
theorem x2c (he : QD X e f) (hs : swapsWith e none pos.line X.env = pure false := by rfl) : QDS X (.Expr e pos) (x34 f) := ⟨y87 he.o hs⟩
end
section
variable {X : Cx} {tg a b c e : Expr} {fa fb fc f : Den} {ga gb gc : x1y} {pos p : Pos}
theorem x0r {g : x1h} (hm : X.mg "range" = none) (ha : QDA X [a] g) (hg : Gl X "range" := by rfl) (hs : starEach [a] X.env = [(false, eval a X.env)] := by rfl) : QDI X tg (.Call (.Name "range" p) [a] [] pos) (x10 g) := ⟨y5a hm ha.o hg hs⟩
end
section
variable {X : Cx} {tg a b c e : Expr} {fa fb fc f : Den} {ga gb gc : x1y} {pos p : Pos}
theorem x5m (ha : QD X a fa) : QDI X tg a (x9l fa) := ⟨z0m ha.o⟩
end
section
theorem x0m {X : Cx} {b i : Nat} {x : Str} {pos : Pos} (hb : b <= i) (hN : X.N.Nodup) (hi : X.N[i]? = some x) (hx : Loc X.env.scope x) (hf : X.fn x = true \/ X.env.scope.names.lookup x = some .local := by first | exact .inl rfl | exact .inr rfl) : QDG X b (.Name x pos) (x0o i) := ⟨y86 hb hN hi hx hf⟩
end
section
theorem x2n {X : Cx} {tg iter : Expr} {body : List Stmt} {it : y0l} {pt : x5w} {s : x1c} {pos : Pos} (hp : PassesOwn (model X.prog X.w) X.A X.env X.xe) (hc : X.calm = true) (hi : QDI X tg iter it) (hg : QDG X 0 tg pt) (hb : QDSs X body s) (hs : ∀ x, foldedSetIterable iter X.env x = pure x := by intro _; rfl) : QDS X (.For tg iter body [] pos) (x7i it pt s) := ⟨z2p hp hc hi.o hg.o hb.o hs⟩
end
section
variable {X : Cx} {k : Nat} {N' : List Str} {scope : Scope} {elt tg iter : Expr} {ifs : List Expr} {pos : Pos} {it : y0l} {pt : x5w} {tt : x1y} {te : Den}
theorem x2l  : QDTs X [] x2m := ⟨y7g ⟩
end
section
variable {X : Cx} {k : Nat} {N' : List Str} {scope : Scope} {elt tg iter : Expr} {ifs : List Expr} {pos : Pos} {it : y0l} {pt : x5w} {tt : x1y} {te : Den}
theorem y4g {c : Expr} {g : x1y} (h : QDT X c g) : QDTs X [c] g := ⟨y88 h.o⟩
end
section
variable {X : Cx} {k : Nat} {N' : List Str} {scope : Scope} {elt tg iter : Expr} {ifs : List Expr} {pos : Pos} {it : y0l} {pt : x5w} {tt : x1y} {te : Den}
theorem x3h (deep : Bool) (hc : X.calm = true) (S : CompOk X k N' scope) (hi : QDI X tg iter it) (hg : ∀ C s H fp, QDG (x1o X N' scope C s H fp) X.N.length tg pt) (ht : ∀ C s H fp, QDTs (x1o X N' scope C s H fp) ifs tt) (he : ∀ C s H fp, QD (x1o X N' scope C s H fp) elt te) (hs : ∀ x, foldedSetIterable iter X.env x = pure x := by intro _; rfl) : QD X (.ListComp elt [⟨tg, iter, ifs, 0⟩] scope pos) (x3a k it pt tt te deep) := ⟨z0p deep hc S hi.o (fun C s H fp => (hg C s H fp).o) (fun C s H fp => (ht C s H fp).o) (fun C s H fp => (he C s H fp).o) hs⟩
end
section
variable {X : Cx} {k : Nat} {N' : List Str} {scope : Scope} {elt tg iter : Expr} {ifs : List Expr} {pos : Pos} {it : y0l} {pt : x5w} {tt : x1y} {te : Den}
theorem y0n {i : Nat} {y : Str} {py spos : Pos} (deep : Bool) (hN : X.N.Nodup) (hy : X.N[i]? = some y) (hx : Loc X.env.scope y) (hsw : swapsWith (.ListComp elt [⟨tg, iter, ifs, 0⟩] scope pos) (some (.Name y py)) spos.line X.env = pure true) (hc : X.calm = true) (S : CompOk X k N' scope) (hi : QDI X tg iter it) (hg : ∀ C s H fp, QDG (x1o X N' scope C s H fp) X.N.length tg pt) (ht : ∀ C s H fp, QDTs (x1o X N' scope C s H fp) ifs tt) (he : ∀ C s H fp, QD (x1o X N' scope C s H fp) elt te) (hs : ∀ x, foldedSetIterable iter X.env x = pure x := by intro _; rfl) (hf : X.fn y = true \/ X.env.scope.names.lookup y = some .local := by first | exact .inl rfl | exact .inr rfl | assumption) : QDS X (.Assign [.Name y py] (.ListComp elt [⟨tg, iter, ifs, 0⟩] scope pos) spos) (x1n i (x3a k it pt tt te deep)) := ⟨y92 deep hN hy hx hsw hc S hi.o (fun C s H fp => (hg C s H fp).o) (fun C s H fp => (ht C s H fp).o) (fun C s H fp => (he C s H fp).o) hs hf⟩
end
section
variable {X : Cx} {a b c e : Expr} {fa fb fc f : Den} {pos : Pos}
theorem z8e {k : Nat} (hr : Room k X.A) (ha : QD X a fa) (hb : QD X b fb) : QD X (.Compare a [.Eq] [b] pos) (e2 dEq fa fb) := ⟨z7x hr ha.o hb.o⟩
end
section
variable {X : Cx} {a b c e : Expr} {fa fb fc f : Den} {pos : Pos}
theorem x7p {k : Nat} (hr : Room k X.A) (ha : QD X a fa) (hb : QD X b fb) : QDT X (.Compare a [.Eq] [b] pos) (x3d (e2 dEq fa fb)) := ⟨z4l hr ha.o hb.o⟩
end
section
variable {X : Cx} {a b c e : Expr} {fa fb fc f : Den} {pos : Pos}
theorem x6u {k : Nat} (hr : Room k X.A) (ha : QD X a fa) (hb : QD X b fb) : QDT X (.Compare a [.NotEq] [b] pos) (x3d (e2 dNe fa fb)) := ⟨z4b hr ha.o hb.o⟩
end
section
variable {X : Cx} {a b c e : Expr} {fa fb fc f : Den} {pos : Pos}
theorem z5h {k : Nat} (hr : Room k X.A) (ha : QD X a fa) (hb : QD X b fb) (hm : behindInMarks .In b = false := by with_unfolding_all rfl) : QDT X (.Compare a [.In] [b] pos) (x3d (e2 dIn fa fb)) := ⟨z69 hr ha.o hb.o hm⟩
end
section
variable {X : Cx} {a b c e : Expr} {es : List Expr} {fa fb fc f : Den} {g : x1h} {pos p p1 p2 : Pos}
theorem x8e (hm : X.mg "len" = none) (ha : QDA X [a] g) (hg : Gl X "len" := by rfl) (he : starEach [a] X.env = (false, eval a X.env) :: starEach [] X.env := by rfl) (hpl : (backTo pos (starEach [] X.env)).any (·.1) = false := by rfl) : QD X (.Call (.Name "len" p) [a] [] pos) (eB y0i g) := ⟨z64 hm ha.o hg he hpl⟩
end
section
variable {X : Cx} {a b c e : Expr} {es : List Expr} {fa fb fc f : Den} {g : x1h} {pos p p1 p2 : Pos}
theorem x0z {i : Nat} {x : Str} (hm : X.mg "len" = none) (h : QE X (.Name x p1) (x8p i)) (hg : Gl X "len" := by rfl) (he : starEach [.Name x p1] X.env = (false, eval (.Name x p1) X.env) :: starEach [] X.env := by rfl) (hpl : (backTo pos (starEach [] X.env)).any (·.1) = false := by rfl) : QD X (.Call (.Name "len" p) [.Name x p1] [] pos) (x13 i) := ⟨z20 hm h.o hg he hpl⟩
end
section
variable {X : Cx} {a b c e : Expr} {es : List Expr} {fa fb fc f : Den} {g : x1h} {pos p p1 p2 : Pos}
theorem y6c (hc : X.calm = true) (hm : X.mg "max" = none) (hb : bootBuiltins "max" = some (.builtin "max")) (ha : QDA X (a :: es) g) (hg : Gl X "max" := by rfl) (he : starEach (a :: es) X.env = (false, eval a X.env) :: starEach es X.env := by rfl) (hpl : (backTo pos (starEach es X.env)).any (·.1) = false := by rfl) : QD X (.Call (.Name "max" p) (a :: es) [] pos) (eB z6l g) := ⟨z37 hc hm hb ha.o hg he hpl⟩
end
section
variable {X : Cx} {a b c e : Expr} {es : List Expr} {fa fb fc f : Den} {g : x1h} {pos p p1 p2 : Pos}
theorem y6d (hm : X.mg "list" = none) (hb : bootBuiltins "list" = some (.type "list")) (ha : QDA X [a] g) (hg : Gl X "list" := by rfl) (he : starEach [a] X.env = (false, eval a X.env) :: starEach [] X.env := by rfl) (hpl : (backTo pos (starEach [] X.env)).any (·.1) = false := by rfl) : QD X (.Call (.Name "list" p) [a] [] pos) (x7f g) := ⟨y5p hm hb ha.o hg he hpl⟩
end
section
variable {X : Cx} {a b c e : Expr} {es : List Expr} {fa fb fc f : Den} {g : x1h} {pos p p1 p2 : Pos}
theorem x40 (hm : X.mg "tuple" = none) (hb : bootBuiltins "tuple" = some (.type "tuple")) (ha : QDA X [a] g) (hg : Gl X "tuple" := by rfl) (he : starEach [a] X.env = (false, eval a X.env) :: starEach [] X.env := by rfl) (hpl : (backTo pos (starEach [] X.env)).any (·.1) = false := by rfl) : QD X (.Call (.Name "tuple" p) [a] [] pos) (x3i g) := ⟨y9k hm hb ha.o hg he hpl⟩
end
section
variable {X : Cx} {a : Expr} {g : x1h} {pos p p1 pos1 : Pos}
theorem y0b (hc : X.calm = true) (hm : X.mg "list" = none) (hb : bootBuiltins "list" = some (.type "list")) (hmr : X.mg "range" = none) (ha : QDA X [a] g) (hg : Gl X "list" := by rfl) (hgr : Gl X "range" := by rfl) (hs : starEach [a] X.env = [(false, eval a X.env)] := by rfl) (he : starEach [.Call (.Name "range" p1) [a] [] pos1] X.env = (false, eval (.Call (.Name "range" p1) [a] [] pos1) X.env) :: starEach [] X.env := by rfl) (hpl : (backTo pos (starEach [] X.env)).any (·.1) = false := by rfl) : QD X (.Call (.Name "list" p) [.Call (.Name "range" p1) [a] [] pos1] [] pos) (x6e g) := ⟨y8o hc hm hb hmr ha.o hg hgr hs he hpl⟩
end
section
variable {X : Cx} {a : Expr} {g : x1h} {pos p p1 pos1 : Pos}
theorem z0r (hc : X.calm = true) (hm : X.mg "tuple" = none) (hb : bootBuiltins "tuple" = some (.type "tuple")) (hmr : X.mg "range" = none) (ha : QDA X [a] g) (hg : Gl X "tuple" := by rfl) (hgr : Gl X "range" := by rfl) (hs : starEach [a] X.env = [(false, eval a X.env)] := by rfl) (he : starEach [.Call (.Name "range" p1) [a] [] pos1] X.env = (false, eval (.Call (.Name "range" p1) [a] [] pos1) X.env) :: starEach [] X.env := by rfl) (hpl : (backTo pos (starEach [] X.env)).any (·.1) = false := by rfl) : QD X (.Call (.Name "tuple" p) [.Call (.Name "range" p1) [a] [] pos1] [] pos) (z1c g) := ⟨z3o hc hm hb hmr ha.o hg hgr hs he hpl⟩
end
section
variable {X : Cx} {a b c e : Expr} {es : List Expr} {fa fb fc f : Den} {g : x1h} {pos p p1 p2 cpos apos : Pos}
theorem y8r {k : Nat} (hr : Room k X.A) (ho : QD X a fa) (ha : QDA X [e] g) (hbase : attributeBase a "index" X.env (eval a X.env) = eval a X.env := by rfl) (hfew : ((backTo cpos (starEach [e] X.env)).all (fun x => !x.1) && (backToKw cpos (keywordEach [] X.env)).all (fun x => x.1.isSome)
      && decide ([e].length + ([] : List Keyword).length + (if ([] : List Keyword).isEmpty then 0 else 1) < 30)) = true := by rfl) (hline : (apos.endLine == cpos.line) = true := by rfl) (hs : starEach [e] X.env = (false, eval e X.env) :: starEach [] X.env := by rfl) (hplain : (backTo cpos (starEach [] X.env)).any (·.1) = false := by rfl) : QD X (.Call (.Attribute a "index" apos) [e] [] cpos) (y4d fa g) := ⟨y7t hr ho.o ha.o hbase hfew hline hs hplain⟩
end
section
variable {X : Cx} {a b c e : Expr} {es : List Expr} {fa fb fc f : Den} {g : x1h} {pos p p1 p2 cpos apos : Pos}
theorem x28 {i : Nat} {x : Str} (h : QE X (.Name x p1) (x8p i)) (ha : QDA X [e] g) (hbase : attributeBase (.Name x p1) "append" X.env (eval (.Name x p1) X.env) = eval (.Name x p1) X.env := by rfl) (hfew : ((backTo cpos (starEach [e] X.env)).all (fun x => !x.1) && (backToKw cpos (keywordEach [] X.env)).all (fun x => x.1.isSome)
      && decide ([e].length + ([] : List Keyword).length + (if ([] : List Keyword).isEmpty then 0 else 1) < 30)) = true := by rfl) (hline : (apos.endLine == cpos.line) = true := by rfl) (hs : starEach [e] X.env = (false, eval e X.env) :: starEach [] X.env := by rfl) (hplain : (backTo cpos (starEach [] X.env)).any (·.1) = false := by rfl) : QD X (.Call (.Attribute (.Name x p1) "append" apos) [e] [] cpos) (x7q i g) := ⟨y6v h.o ha.o hbase hfew hline hs hplain⟩
end
section
variable {X : Cx} {a b c e : Expr} {es : List Expr} {fa fb fc f : Den} {g : x1h} {pos p p1 p2 cpos apos : Pos}
theorem z09 {i : Nat} {x : Str} (h : QE X (.Name x p1) (x8p i)) (ha : QDA X [e] g) (hbase : attributeBase (.Name x p1) "pop" X.env (eval (.Name x p1) X.env) = eval (.Name x p1) X.env := by rfl) (hfew : ((backTo cpos (starEach [e] X.env)).all (fun x => !x.1) && (backToKw cpos (keywordEach [] X.env)).all (fun x => x.1.isSome)
      && decide ([e].length + ([] : List Keyword).length + (if ([] : List Keyword).isEmpty then 0 else 1) < 30)) = true := by rfl) (hline : (apos.endLine == cpos.line) = true := by rfl) (hs : starEach [e] X.env = (false, eval e X.env) :: starEach [] X.env := by rfl) (hplain : (backTo cpos (starEach [] X.env)).any (·.1) = false := by rfl) : QD X (.Call (.Attribute (.Name x p1) "pop" apos) [e] [] cpos) (y75 i g) := ⟨z49 h.o ha.o hbase hfew hline hs hplain⟩
end
section
variable {X : Cx} {a b c e : Expr} {es : List Expr} {fa fb fc f : Den} {g : x1h} {pos p p1 p2 cpos apos : Pos}
theorem x0s {n : Nat} {x : Str} (h : QE X (.Name x p1) (x8p n)) (hb : QD X b fb) (hs : x3u b := by exact fun _ _ => rfl) : QD X (.Subscript (.Name x p1) b pos) (x1q n fb) := ⟨z4j h.o hb.o hs⟩
end
section
variable {X : Cx} {a b c e : Expr} {es : List Expr} {fa fb fc f : Den} {g : x1h} {pos p p1 p2 cpos apos : Pos}
theorem y5w (ha : QD X a fa) (hb : QD X b fb) : QD X (.BinOp a .Mult b pos) (y2x fa fb) := ⟨z0z ha.o hb.o⟩
end
section
variable {X : Cx} {a b c e : Expr} {es : List Expr} {fa fb fc f : Den} {qa qb : x97} {g : x1h} {pos p p1 p2 cpos apos : Pos}
theorem z01 {n : Nat} {x : Str} (h : QE X (.Name x p1) (x8p n)) : QQ X (.Name x p1) (z00 n) := ⟨z4a h.o⟩
end
section
variable {X : Cx} {a b c e : Expr} {es : List Expr} {fa fb fc f : Den} {qa qb : x97} {g : x1h} {pos p p1 p2 cpos apos : Pos}
theorem z6j {n : Nat} {x : Str} (h : QE X (.Name x p1) (x8p n)) (hb : QQ X b qb) (hs : x3u b := by exact fun _ _ => rfl) : QQ X (.Subscript (.Name x p1) b pos) (qIx n qb) := ⟨z8n h.o hb.o hs⟩
end
section
variable {X : Cx} {a b c e : Expr} {es : List Expr} {fa fb fc f : Den} {qa qb : x97} {g : x1h} {pos p p1 p2 cpos apos : Pos}
theorem y91 {n : Nat} {x : Str} (h : QE X (.Name x p1) (x8p n)) (ha : QQ X a qa) (hb : QQ X b qb) (he : QD X e f) (hi : x3u a := by exact fun _ _ => rfl) (hasg : ∀ v, assign (.Subscript (.Subscript (.Name x p1) a p2) b p) X.env v = (do
      let ov <- holding [v] (eval (.Subscript (.Name x p1) a p2) X.env)
      let iv <- holding [v, ov] (eval b X.env)
      standAt p
      holding [v, ov, iv] (setItem ov iv v)
      release [v, ov, iv] []) := by exact fun _ => rfl) (hs : swapsWithSole [.Subscript (.Subscript (.Name x p1) a p2) b p] e pos.line X.env = pure false := by rfl) : QDS X (.Assign [.Subscript (.Subscript (.Name x p1) a p2) b p] e pos) (y5d n qa qb f) := ⟨y9p h.o ha.o hb.o he.o hi hasg hs⟩
end
section
variable {X : Cx} {a b c e : Expr} {es x25 : List Expr} {fa fb fc f : Den} {g : x1h} {pos p p1 p2 cpos apos : Pos}
theorem z08 {op} (h : QD X a fa) : QD X (.BoolOp op [a] pos) fa := ⟨z60 h.o⟩
end
section
variable {X : Cx} {a b c e : Expr} {es x25 : List Expr} {fa fb fc f : Den} {g : x1h} {pos p p1 p2 cpos apos : Pos}
theorem z07 (ha : QD X a fa) (hb : QD X (.BoolOp .And (b :: x25) pos) fb) : QD X (.BoolOp .And (a :: b :: x25) pos) (z5e fa fb) := ⟨z5q ha.o hb.o⟩
end
section
variable {X : Cx} {a b c e : Expr} {es x25 : List Expr} {fa fb fc f : Den} {g : x1h} {pos p p1 p2 cpos apos : Pos}
theorem z50 (ha : QD X a fa) : QD X (.UnaryOp .Not a pos) (z77 fa) := ⟨z45 ha.o⟩
end
section
variable {X : Cx} {a b c e : Expr} {es x25 : List Expr} {fa fb fc f : Den} {g : x1h} {pos p p1 p2 cpos apos : Pos}
theorem x0c {j k n : Nat} {x : Str} {F : List D -> Option (D × Nat)} (C : Cal X.prog X.w X.K X.mg X.base k x n F) (hr : Room j X.A) (hk : k <= j) (ha : QDA X (e :: es) g) (hg : Gl X x := by rfl) (hdb : (x == ("__debug__" : Str)) = false := by decide) (he : starEach (e :: es) X.env = (false, eval e X.env) :: starEach es X.env := by rfl) (hpl : (backTo pos (starEach es X.env)).any (·.1) = false := by rfl) : QD X (.Call (.Name x p) (e :: es) [] pos) (x0k F n g) := ⟨y95 C hr hk ha.o hg hdb he hpl⟩
end
section
variable {X : Cx} {k b : Nat} {e : Expr} {es : List Expr} {pt : x5w} {ps : x7h} {pos : Pos}
theorem y44  : QDGs X b [] y0y := ⟨y8w ⟩
end
section
variable {X : Cx} {k b : Nat} {e : Expr} {es : List Expr} {pt : x5w} {ps : x7h} {pos : Pos}
theorem x5i (h1 : QDG X b e pt) (h2 : QDGs X b es ps) (hs : (assignEach (e :: es) X.env).map (·.2) = assign e X.env :: (assignEach es X.env).map (·.2) := by rfl) : QDGs X b (e :: es) (x2e pt ps) := ⟨y74 h1.o h2.o hs⟩
end
section
variable {X : Cx} {k b : Nat} {e : Expr} {es : List Expr} {pt : x5w} {ps : x7h} {pos : Pos}
theorem y71 {n : Nat} (hc : X.calm = true) (h : QDGs X b es ps) (hl : ∀ ds ρ ρ', ps ds ρ = some ρ' -> ds.length = n) (hn : (assignEach es X.env).length = n := by rfl) (hst : (assignEach es X.env).findIdx? (·.1) = none := by rfl) : QDG X b (.Tuple es k pos) (z1h ps) := ⟨z2x hc h.o hl hn hst⟩
end
section
variable {X : Cx} {a b c e : Expr} {es : List Expr} {fa fb fc f : Den} {g : x1h} {pos p p1 p2 : Pos}
theorem y9w (hc : X.calm = true) (hm : X.mg "all" = none) (ha : QDA X [a] g) (hg : Gl X "all" := by rfl) (he : starEach [a] X.env = (false, eval a X.env) :: starEach [] X.env := by rfl) (hpl : (backTo pos (starEach [] X.env)).any (·.1) = false := by rfl) : QD X (.Call (.Name "all" p) [a] [] pos) (eB z0g g) := ⟨z5o hc hm ha.o hg he hpl⟩
end
section
variable {X : Cx} {a b c e : Expr} {es : List Expr} {fa fb fc f : Den} {ga gb : x1y} {g : x1h} {pos p p1 p2 pT : Pos}
theorem y4a (T : IT) {t : Str} (hm : X.mg "isinstance" = none) (hmT : X.mg t = none) (hbT : bootBuiltins t = some (.type T.nm)) (ha : QD X a fa) (hg : Gl X "isinstance" := by rfl) (hgT : Gl X t := by rfl) (hnT : t ≠ "__name__" := by decide) (hdT : (t == ("__debug__" : Str)) = false := by decide) (hs : starEach [a, .Name t pT] X.env = (false, eval a X.env) :: starEach [.Name t pT] X.env := by rfl) (hpl : (backTo pos (starEach [.Name t pT] X.env)).any (·.1) = false := by rfl) : QD X (.Call (.Name "isinstance" p) [a, .Name t pT] [] pos) (z3e T fa) := ⟨z4n T hm hmT hbT ha.o hg hgT hnT hdT hs hpl⟩
end
section
variable {X : Cx} {a b c e : Expr} {es : List Expr} {fa fb fc f : Den} {ga gb : x1y} {g : x1h} {pos p p1 p2 pT : Pos}
theorem y3f (ha : QD X a fa) (hb : QD X b fb) (hc : QD X c fc) (hm : lastMarks [.LtE, .Lt] [b, c] = false := by with_unfolding_all rfl) : QD X (.Compare a [.LtE, .Lt] [b, c] pos) (eCh dLe dLt fa fb fc) := ⟨y2k ha.o hb.o hc.o hm⟩
end
section
variable {X : Cx} {a b c e : Expr} {es : List Expr} {fa fb fc f : Den} {ga gb : x1y} {g : x1h} {pos p p1 p2 pT : Pos}
theorem z5v (ha : QD X a fa) : QD X (.UnaryOp .USub a pos) (z6w fa) := ⟨z6e ha.o⟩
end
section
variable {X : Cx} {a b c e : Expr} {es : List Expr} {fa fb fc f : Den} {ga gb : x1y} {g : x1h} {pos p p1 p2 pT : Pos}
theorem y4b (ha : QD X a fa) (hb : QD X b fb) : QD X (.BinOp a .Add b pos) (z2r fa fb) := ⟨z5w ha.o hb.o⟩
end
section
variable {X : Cx} {a b c e : Expr} {es : List Expr} {fa fb fc f : Den} {ga gb : x1y} {g : x1h} {pos p p1 p2 pT : Pos}
theorem x4n  : QDO X none x58 := ⟨y7r ⟩
end
section
variable {X : Cx} {a b c e : Expr} {es : List Expr} {fa fb fc f : Den} {ga gb : x1y} {g : x1h} {pos p p1 p2 pT : Pos}
theorem x4w (h : QD X e f) : QDO X (some e) (x4m f) := ⟨y9d h.o⟩
end
section
variable {X : Cx} {a b c e : Expr} {es : List Expr} {fa fb fc f : Den} {ga gb : x1y} {g : x1h} {pos p p1 p2 pT : Pos}
theorem y7z {lo hi : Option Expr} {fl fh : y5n} (ha : QD X a fa) (hl : QDO X lo fl) (hh : QDO X hi fh) : QD X (.Subscript a (.Slice lo hi none p2) pos) (eSl fa fl fh) := ⟨z81 ha.o hl.o hh.o⟩
end
section
variable {X : Cx} {k b n : Nat} {a c e tg : Expr} {es : List Expr} {pt : x5w} {ps : x7h} {pos : Pos} {fa fb f : Den}
theorem y60 (he : QD X e f) (hg : QDG X 0 tg pt) (hs : swapsWithSole [tg] e pos.line X.env = pure false := by rfl) (hw : swappedStores [tg] e X.env = pure none := by rfl) (h1 : (assignEach [tg] X.env).map (·.2) = [assign tg X.env] := by rfl) : QDS X (.Assign [tg] e pos) (z2v f pt) := ⟨z0o he.o hg.o hs hw h1⟩
end
section
variable {X : Cx} {a b c e : Expr} {fa fb fc f : Den} {pos : Pos}
theorem y5u (ha : QD X a fa) (hb : QD X b fb) : QD X (.BinOp a .Mult b pos) (y57 fa fb) := ⟨z23 ha.o hb.o⟩
end
section
variable {X : Cx} {a b c e : Expr} {es : List Expr} {fa fb fc f : Den} {ga gb : x1y} {g : x1h} {pos p p1 p2 cpos apos : Pos}
theorem y6h {i : Nat} {x : Str} (h : QE X (.Name x p1) (x8p i)) (ha : QD X e f) (hbase : attributeBase (.Name x p1) "extend" X.env (eval (.Name x p1) X.env) = eval (.Name x p1) X.env := by rfl) (hfew : ((backTo cpos (starEach [e] X.env)).all (fun x => !x.1) && (backToKw cpos (keywordEach [] X.env)).all (fun x => x.1.isSome)
      && decide ([e].length + ([] : List Keyword).length + (if ([] : List Keyword).isEmpty then 0 else 1) < 30)) = true := by rfl) (hline : (apos.endLine == cpos.line) = true := by rfl) (hs : starEach [e] X.env = (false, eval e X.env) :: starEach [] X.env := by rfl) (hplain : (backTo cpos (starEach [] X.env)).any (·.1) = false := by rfl) : QD X (.Call (.Attribute (.Name x p1) "extend" apos) [e] [] cpos) (z7a i f) := ⟨y6i h.o ha.o hbase hfew hline hs hplain⟩
end
section
variable {X : Cx} {a b c e : Expr} {es : List Expr} {fa fb fc f : Den} {ga gb gc : x1y} {g : x1h} {qa qb : x97} {s : x1c} {pos p p1 p2 cpos apos : Pos}
theorem y5m {st : Stmt} : QDS X st y3v := ⟨y5q ⟩
end
section
variable {X : Cx} {a b c e : Expr} {es : List Expr} {fa fb fc f : Den} {ga gb gc : x1y} {g : x1h} {qa qb : x97} {s : x1c} {pos p p1 p2 cpos apos : Pos}
theorem y1f {body : List Stmt} (hp : PassesOwn (model X.prog X.w) X.A X.env X.xe) (hc : QDT X c gc) (hb : QDSs X body s) : QDS X (.While c body [] pos) (y21 gc s) := ⟨y62 hp hc.o hb.o⟩
end
section
variable {X : Cx} {a b c e : Expr} {es : List Expr} {fa fb fc f : Den} {ga gb gc : x1y} {g : x1h} {qa qb : x97} {s : x1c} {pos p p1 p2 cpos apos : Pos}
theorem y08 (ha : QD X a fa) (hb : QD X b fb) : QD X (.BinOp a .Add b pos) (x68 fa fb) := ⟨z1m ha.o hb.o⟩
end
section
variable {X : Cx} {a b c e : Expr} {es : List Expr} {fa fb fc f : Den} {ga gb gc : x1y} {g : x1h} {qa qb : x97} {s : x1c} {pos p p1 p2 p3 cpos apos : Pos}
theorem y3r {n j : Nat} {c : Int} {x : Str} (hm : X.mg "len" = none) (h : QE X (.Name x p1) (x8p n)) (hg : Gl X "len" := by rfl) (hs : x3u (.Constant (.int c) j p2) := by exact fun _ _ => rfl) (he : starEach [.Subscript (.Name x p1) (.Constant (.int c) j p2) p3] X.env = (false, eval (.Subscript (.Name x p1) (.Constant (.int c) j p2) p3) X.env) :: starEach [] X.env := by rfl) (hpl : (backTo pos (starEach [] X.env)).any (·.1) = false := by rfl) : QQ X (.Call (.Name "len" p) [.Subscript (.Name x p1) (.Constant (.int c) j p2) p3] [] pos) (x47 n c) := ⟨y7i hm h.o hg hs he hpl⟩
end
section
variable {X : Cx} {a b c e : Expr} {es : List Expr} {fa fb fc f : Den} {ga gb gc : x1y} {g : x1h} {qa qb : x97} {s : x1c} {pos p p1 p2 p3 cpos apos : Pos}
theorem z3a {k l : Str} {j1 j2 : Nat} (hkl : k ≠ l) (ha : QQ X a qa) (hb : QQ X b qb) : QD X (.Dict [some (.Constant (.str k) j1 p1), some (.Constant (.str l) j2 p2)] [a, b] pos) (y1e k l qa qb) := ⟨z1o hkl ha.o hb.o⟩
end
section
variable {X : Cx} {a b c e : Expr} {es : List Expr} {fa fb fc f : Den} {ga gb gc : x1y} {g : x1h} {qa qb : x97} {s : x1c} {pos p p1 p2 p3 cpos apos : Pos}
theorem z1v {k : Nat} (hr : Room k X.A) (ho : QD X a fa) (he : QD X b fb) (hf : QD X c fc) (hbase : attributeBase a "get" X.env (eval a X.env) = eval a X.env := by rfl) (hfew : ((backTo cpos (starEach [b, c] X.env)).all (fun x => !x.1) && (backToKw cpos (keywordEach [] X.env)).all (fun x => x.1.isSome)
      && decide (([b, c] : List Expr).length + ([] : List Keyword).length + (if ([] : List Keyword).isEmpty then 0 else 1) < 30)) = true := by rfl) (hline : (apos.endLine == cpos.line) = true := by rfl) (htr : backTo cpos (starEach [b, c] X.env) = [(false, eval b X.env), (false, eval c X.env)] := by rfl) : QD X (.Call (.Attribute a "get" apos) [b, c] [] cpos) (y9r fa fb fc) := ⟨z1r hr ho.o he.o hf.o hbase hfew hline htr⟩
end
section
variable {Y : Cx} {e : Expr} {es : List Expr} {g : x1h}
theorem z0l {R nn kx x y : Str} {L : List Str} {F : List D -> Option (D × Nat)} {Fx : List D -> Option Str} {j k n iy ie ik : Nat} {np kp vp apos hpos pos yp fp cpos spos : Pos} (hU : y58 Y.K Y.mg R L) (CX : y5f Y.prog Y.w Y.K Y.mg Y.base k x n Fx) (hr : Room j Y.A) (hk : k <= j) (ha : QDA Y.nox (e :: es) g) (hy : QDS Y.nox (.Assign [.Name y yp] (.Call (.Name x fp) (e :: es) [] cpos) spos) (x1n iy (x0k F n g))) (hN : Y.N.Nodup) (hie : Y.N[ie]? = some nn) (hik : Y.N[ik]? = some kx) (hst : Y.stack = Y.env :: Y.outer := by rfl) (hfm : Y.env.frame = some Y.env.locals := by rfl) (hne : Y.env.scope.names.lookup nn = some .local := by rfl) (hnk : Y.env.scope.names.lookup kx = some .local := by rfl) (hg : Gl Y R := by rfl) (hgx : Gl Y x := by rfl) (hdx : (x == ("__debug__" : Str)) = false := by decide) (hdb : (R == ("__debug__" : Str)) = false := by decide) (hdn : (nn == ("__debug__" : Str)) = false := by decide) (hcn : (nn == ("__classdict__" : Str)) = false := by decide) (hsw : swapsWith (.Name nn vp) (some (.Name kx kp)) apos.line Y.env = pure false := by rfl) (hsc : swapsWith (.Call (.Name x fp) (e :: es) [] cpos) (some (.Name y yp)) spos.line Y.env = pure false := by rfl) (he : starEach (e :: es) Y.env = (false, eval e Y.env) :: starEach es Y.env := by rfl) (hpl : (backTo cpos (starEach es Y.env)).any (·.1) = false := by rfl) : QDS Y.nox (.Try [.Assign [.Name y yp] (.Call (.Name x fp) (e :: es) [] cpos) spos] [.ExceptHandler (some (.Name R np)) (some nn) [.Assign [.Name kx kp] (.Name nn vp) apos] hpos] [] [] pos) (z3u L F Fx n g iy ie ik) := ⟨z0u hU CX hr hk ha.o hy.o hN hie hik hst hfm hne hnk hg hgx hdx hdb hdn hcn hsw hsc he hpl⟩
end
section
variable {X : Cx} {a b c e : Expr} {es : List Expr} {fa fb fc f : Den} {ga gb : x1y} {g : x1h} {pos p p1 p2 pT cpos apos : Pos}
theorem x9w {L : List Str} {nm : Str} (hC : IsC X.K X.mg L nm) (hm : X.mg "isinstance" = none) (ha : QD X a fa) (hg : Gl X "isinstance" := by rfl) (hgT : Gl X nm := by rfl) (hdT : (nm == ("__debug__" : Str)) = false := by decide) (hs : starEach [a, .Name nm pT] X.env = (false, eval a X.env) :: starEach [.Name nm pT] X.env := by rfl) (hpl : (backTo pos (starEach [.Name nm pT] X.env)).any (·.1) = false := by rfl) : QD X (.Call (.Name "isinstance" p) [a, .Name nm pT] [] pos) (y96 L nm fa) := ⟨z46 hC hm ha.o hg hgT hdT hs hpl⟩
end
section
variable {X : Cx} {a b c e : Expr} {es : List Expr} {fa fb fc f : Den} {ga gb : x1y} {g : x1h} {pos p p1 p2 pT cpos apos : Pos}
theorem z4m (hm : X.mg "isinstance" = none) (hmT : X.mg "ValueError" = none) (ha : QD X a fa) (hg : Gl X "isinstance" := by rfl) (hgT : Gl X "ValueError" := by rfl) (hs : starEach [a, .Name "ValueError" pT] X.env = (false, eval a X.env) :: starEach [.Name "ValueError" pT] X.env := by rfl) (hpl : (backTo pos (starEach [.Name "ValueError" pT] X.env)).any (·.1) = false := by rfl) : QD X (.Call (.Name "isinstance" p) [a, .Name "ValueError" pT] [] pos) (z78 fa) := ⟨z44 hm hmT ha.o hg hgT hs hpl⟩
end
section
variable {X : Cx} {a b c e : Expr} {es : List Expr} {fa fb fc f : Den} {ga gb : x1y} {g : x1h} {pos p p1 p2 pT cpos apos : Pos}
theorem z21 (ha : QD X a fa) (hb : QD X b fb) : QDT X (.Compare a [.Is] [b] pos) (x3d (e2 z42 fa fb)) := ⟨z2e ha.o hb.o⟩
end
section
variable {X : Cx} {a b c e : Expr} {es : List Expr} {fa fb fc f : Den} {ga gb : x1y} {g : x1h} {pos p p1 p2 pT cpos apos : Pos}
theorem z2l {k : Nat} (hr : Room k X.A) (ho : QD X a fa) (ha : QDA X [e] g) (hbase : attributeBase a "count" X.env (eval a X.env) = eval a X.env := by rfl) (hfew : ((backTo cpos (starEach [e] X.env)).all (fun x => !x.1) && (backToKw cpos (keywordEach [] X.env)).all (fun x => x.1.isSome)
      && decide ([e].length + ([] : List Keyword).length + (if ([] : List Keyword).isEmpty then 0 else 1) < 30)) = true := by rfl) (hline : (apos.endLine == cpos.line) = true := by rfl) (hs : starEach [e] X.env = (false, eval e X.env) :: starEach [] X.env := by rfl) (hplain : (backTo cpos (starEach [] X.env)).any (·.1) = false := by rfl) : QD X (.Call (.Attribute a "count" apos) [e] [] cpos) (z7c fa g) := ⟨z3h hr ho.o ha.o hbase hfew hline hs hplain⟩
end
section
variable {X : Cx} {a b c e : Expr} {es : List Expr} {fa fb fc f : Den} {ga gb : x1y} {g : x1h} {pos p p1 p2 pT cpos apos : Pos}
theorem y69 {k : Nat} (hr : Room k X.A) (ho : QD X a fa) (ha : QDA X [e] g) (hbase : attributeBase a "index" X.env (eval a X.env) = eval a X.env := by rfl) (hfew : ((backTo cpos (starEach [e] X.env)).all (fun x => !x.1) && (backToKw cpos (keywordEach [] X.env)).all (fun x => x.1.isSome)
      && decide ([e].length + ([] : List Keyword).length + (if ([] : List Keyword).isEmpty then 0 else 1) < 30)) = true := by rfl) (hline : (apos.endLine == cpos.line) = true := by rfl) (hs : starEach [e] X.env = (false, eval e X.env) :: starEach [] X.env := by rfl) (hplain : (backTo cpos (starEach [] X.env)).any (·.1) = false := by rfl) : QD X (.Call (.Attribute a "index" apos) [e] [] cpos) (y0c fa g) := ⟨y7a hr ho.o ha.o hbase hfew hline hs hplain⟩
end
section
variable {X : Cx} {a b c e : Expr} {fa fb fc f : Den} {pos p p1 p2 pT cpos apos : Pos}
theorem y6x {lo hi : Option Expr} {fl fh : y5n} (ha : QD X a fa) (hl : QDO X lo fl) (hh : QDO X hi fh) : QD X (.Subscript a (.Slice lo hi none p2) pos) (y2l fa fl fh) := ⟨z4o ha.o hl.o hh.o⟩
end
theorem Cal.mkQ {P : Program} {w : World} {K : PySem.W.Frag} {mg : Str -> Option Value} {base : Heap} {k : Nat} {x : Str} {st : Stmt} {N ps : List Str} {body : x1c} (a : At K mg x st ps) (S : FnScope N ps (x0d st))
    (h : ∀ (f : Addr) (cdv : Value) (A : Around) (outer : List Env) (s : Shared) (H : Hp) (E : XK), Room k (A.deeper (envOfC x (x0d st) s.heap.objs.size f cdv)) -> QDSs (y5e CX0 P w K mg base N x (x0d st) f cdv A outer s H E).nox (x2r st) body) :
    Cal P w K mg base (k + 1) x ps.length (fnD N.length body) := Cal.mk a S fun f cdv A outer s H E hr => (h f cdv A outer s H E hr).o
theorem z0s {P : Program} {w : World} {K : PySem.W.Frag} {mg : Str -> Option Value} {base : Heap} {k : Nat} {x : Str} {st : Stmt} {N ps : List Str} {body : x1c} {f : Addr} {fd : FuncData} (F : Fun K x x st f fd) (S : FnScope N ps (x0d st))
    (h : ∀ (f : Addr) (cdv : Value) (A : Around) (outer : List Env) (s : Shared) (H : Hp) (E : XK), Room k (A.deeper (envOfC x (x0d st) s.heap.objs.size f cdv)) -> QDSs (y5e CX0 P w K mg base N x (x0d st) f cdv A outer s H E).nox (x2r st) body) :
    FnOk P w K mg base CX0 (k + 1) f fd ps (spD K ps.length (fnD N.length body)) := z5p F S fun f cdv A outer s H E hr => (h f cdv A outer s H E hr).o
end L3
namespace L3
open PySem PySem.Spec PyProof.Rows PySem.W L2
theorem PA.nox {X : Cx} {e : List Expr} {t : TA} (h : PA X.nox e t) : PA X e t := fun pos pins s σ H Q I hw =>
  wpAny_mono (h pos pins s σ H Q (I.wish _) hw) (fun _ _ hh => by obtain ⟨v, H', I', r, q⟩ := hh; exact ⟨v, H', I'.unwish, r, q⟩) fun _ _ z => False.elim z
section
variable {P : Program} {w : World} {K : PySem.W.Frag} {mg : Str -> Option Value} {base : Heap} {N : List Str} {qual : Str} {scope : Scope} {f : Addr} {cd : Value} {A : Around} {outer : List Env} {s₀ : Shared} {H₀ : Hp} {E : XK}
theorem z82 {nm txt : Str} {k j : Nat} {np cpos tpos pos ipos : Pos} {c : Expr} {g : x1y} (hr : Room k (A.deeper (envOfC qual scope s₀.heap.objs.size f cd))) (hC : ∃ C, XNm K mg nm C) (hc : QDT (cxF P w K mg base N qual scope f cd A outer s₀ H₀ E).nox c g)
    (hg : Gl (cxF P w K mg base N qual scope f cd A outer s₀ H₀ E) nm := by rfl) (hdb : (nm == ("__debug__" : Str)) = false := by decide) :
    PSs (cxF P w K mg base N qual scope f cd A outer s₀ H₀ E) [.If c [.Raise (some (.Call (.Name nm np) [.Constant (.str txt) j tpos] [] cpos)) none pos] [] ipos] (tX K (xIf g nm) E) := by
  obtain ⟨C, hC⟩ := hC
  exact y3u (z8l hr.hd hC (PT.nox hc.o) (fun _ _ _ _ _ _ z => z.elim) hg hdb)
theorem z2c {j k n : Nat} {x : Str} {F : List D -> Option Str} {e : Expr} {es : List Expr} {x25 : List Stmt} {g : x1h} {p pos spos : Pos} (Cx' : y5f P w K mg base k x n F) (hr : Room j (A.deeper (envOfC qual scope s₀.heap.objs.size f cd))) (hk : k <= j) (ha : QDA (cxF P w K mg base N qual scope f cd A outer s₀ H₀ E).nox (e :: es) g)
    (hg : Gl (cxF P w K mg base N qual scope f cd A outer s₀ H₀ E) x := by rfl) (hdb : (x == ("__debug__" : Str)) = false := by decide) (he : starEach (e :: es) (envOfC qual scope s₀.heap.objs.size f cd) = (false, eval e (envOfC qual scope s₀.heap.objs.size f cd)) :: starEach es (envOfC qual scope s₀.heap.objs.size f cd) := by rfl)
    (hpl : (backTo pos (starEach es (envOfC qual scope s₀.heap.objs.size f cd))).any (·.1) = false := by rfl) (hs : swapsWith (.Call (.Name x p) (e :: es) [] pos) none spos.line (envOfC qual scope s₀.heap.objs.size f cd) = pure false := by rfl) :
    PSs (cxF P w K mg base N qual scope f cd A outer s₀ H₀ E) (.Expr (.Call (.Name x p) (e :: es) [] pos) spos :: x25) (tX K (y9h F n g) E) :=
  y3u (z3l (y8f Cx' hr hk (PA.nox ha.o) hg hdb he hpl) hs)
end
theorem z8o {K : Frag} {C : Addr} {v : Value} {b : Bool} (h : mroIn K C v = some b) : (clsIn K C).isSome = true := by
  obtain ⟨cd, a, _⟩ := Option.bind_eq_some_iff.mp h
  rw [a]; rfl
theorem XKls.of {K : Frag} {nm : Str} {C : Addr} (n : nsIn K mainGlobals nm = some (some (.ref C))) (x : XCls K C) (ex : excIn K C bmV "ValueError.__new__" = true) (v : mroIn K C (.type "ValueError") = some true)
    (a1 : mroIn K C (.type "int") = some false) (a2 : mroIn K C (.type "bool") = some false) (a3 : mroIn K C (.type "tuple") = some false) (a4 : mroIn K C (.type "list") = some false) (a5 : mroIn K C (.type "str") = some false) : XKls K nm C :=
  ⟨n, x, ex, v, fun T hT => by
    rcases List.mem_cons.mp hT with rfl | hT
    · exact a1
    rcases List.mem_cons.mp hT with rfl | hT
    · exact a2
    rcases List.mem_cons.mp hT with rfl | hT
    · exact a3
    rcases List.mem_cons.mp hT with rfl | hT
    · exact a4
    rcases List.mem_cons.mp hT with rfl | hT
    · exact a5
    cases hT⟩
theorem y58.of {K : Frag} {mg : Str -> Option Value} {R nm : Str} {C RA : Addr} (k : XKls K nm C) (x : XCls K RA) (t : typeIn K (.ref RA) = some (.type "type")) (m : mg R = some (.ref RA)) (s : mroIn K C (.ref RA) = some true) : y58 K mg R [nm] :=
  ⟨RA, x, t, m, fun n hn C' e => by
    rcases List.mem_cons.mp hn with rfl | hn
    · have e' := k.ns
      rw [e] at e'
      cases e'
      exact ⟨k, s⟩
    · cases hn⟩
theorem IsC.self {K : Frag} {mg : Str -> Option Value} {nm : Str} {C : Addr} (n : nsIn K mainGlobals nm = some (some (.ref C))) (m : mg nm = some (.ref C)) : IsC K mg [nm] nm :=
  ⟨C, m, fun n' hn B e => by
    rcases List.mem_cons.mp hn with rfl | hn
    · rw [e] at n
      cases n
      exact ⟨fun _ => by unfold isIn; simp, fun z => absurd rfl z⟩
    · cases hn⟩
theorem IsC.other {K : Frag} {mg : Str -> Option Value} {nm n2 : Str} {C D : Addr} (n : nsIn K mainGlobals nm = some (some (.ref C))) (m : mg n2 = some (.ref D)) (hn : nm ≠ n2) (ne : C ≠ D) (t : typeIn K (.ref D) = some (.type "type")) (o : mroIn K D (.type "object") = some true) (s : mroIn K C (.ref D) = some false) : IsC K mg [nm] n2 :=
  ⟨D, m, fun n' hn' B e => by
    rcases List.mem_cons.mp hn' with rfl | hn'
    · rw [e] at n
      cases n
      have s' : subIn K (.ref C) (.ref D) = some false := s
      exact ⟨fun z => absurd z hn, fun _ => by unfold kin_not; rw [z8o o, t, s']; simp [ne]⟩
    · cases hn'⟩
end L3
namespace L3
open PySem PySem.Spec PyProof.Rows L2
theorem x4k {k : Nat} {pt : x5w} {tt : x1y} {te : Den} {deep : Bool} : ∀ (ds : List D) (S : Nat -> Rho) (b : Nat -> Bool) (v : Nat -> D),
    (∀ i (h : i < ds.length), ∃ ρ1 ρ2, pt ds[i] (S i ++ List.replicate k none) = some ρ1 /\ tt ρ1 = some (b i, ρ2) /\
      (if b i = true then ∃ q ρ3, te ρ2 = some (v i, q, ρ3) /\ ¬ (deep = true /\ (v i).isL = true /\ q ≠ 1) /\ ρ3.take (S i).length = S (i + 1) else ρ2.take (S i).length = S (i + 1))) ->
    x6t k pt tt te deep ds (S 0) = some (((List.range ds.length).filter b).map v, S ds.length)
  | [], S, b, v, _ => rfl
  | d :: ds, S, b, v, h => by
    obtain ⟨ρ1, ρ2, h1, h2, h3⟩ := h 0 (by simp)
    have ih := x4k ds (fun i => S (i + 1)) (fun i => b (i + 1)) (fun i => v (i + 1)) (fun i hi => h (i + 1) (by simpa using hi))
    have er : ((List.range (d :: ds).length).filter b).map v = (if b 0 = true then [v 0] else []) ++ ((List.range ds.length).filter fun i => b (i + 1)).map fun i => v (i + 1) := by
      rw [List.length_cons, List.range_succ_eq_map, List.filter_cons, List.filter_map]
      split <;> simp [Function.comp_def]
    rw [er]
    unfold x6t
    rw [show pt d (S 0 ++ List.replicate k none) = some ρ1 from h1]
    simp only [h2]
    split at h3
    · rename_i hb
      obtain ⟨q, ρ3, h4, h5, h6⟩ := h3
      simp only [hb, if_true, h4, if_neg h5, h6, ih]
      rfl
    · rename_i hb
      simp only [hb, h3, ih]
      rfl
theorem x3j {pt : x5w} {body : x1c} : ∀ (ds : List D) (I : Nat -> Rho -> Prop) (ρ : Rho), (∀ i (h : i < ds.length) ρ, I i ρ -> ∃ ρ1 ρ2, pt ds[i] ρ = some ρ1 /\ (body ρ1 = some (.nx ρ2) \/ body ρ1 = some (.ct ρ2)) /\ I (i + 1) ρ2) -> I 0 ρ -> ∃ ρ', x98 pt body ds ρ = some (.nx ρ') /\ I ds.length ρ'
  | [], I, ρ, _, h0 => ⟨ρ, rfl, h0⟩
  | d :: ds, I, ρ, h, h0 => by
    obtain ⟨ρ1, ρ2, h1, h2, h3⟩ := h 0 (by simp) ρ h0
    obtain ⟨ρ', e, h4⟩ := x3j ds (fun i => I (i + 1)) ρ2 (fun i hi => h (i + 1) (by simpa using hi)) h3
    refine ⟨ρ', ?_, h4⟩
    unfold x98
    rw [show pt d ρ = some ρ1 from h1]
    rcases h2 with h2 | h2 <;> (simp only [h2]; exact e)
theorem x0g {f g : x1c} {ρ ρ1 : Rho} (h : f ρ = some (.nx ρ1)) : x0y f g ρ = g ρ1 := by unfold x0y; rw [h]
theorem z25 {f g : x1c} {ρ : Rho} {d : D} {q : Nat} (h : f ρ = some (.rt d q)) : x0y f g ρ = some (.rt d q) := by unfold x0y; rw [h]
theorem x38 {n : Nat} {body : x1c} {ds : List D} {d : D} {q : Nat} (h : body (x69 n ds) = some (.rt d q)) : fnD n body ds = some (d, q) := by unfold fnD; rw [h]
theorem x2y {k : Nat} {it : y0l} {pt : x5w} {tt : x1y} {te : Den} {deep : Bool} {ρ ρ1 ρ2 : Rho} {ds vs : List D} (hi : it ρ = some (ds, ρ1)) (hc : x6t k pt tt te deep ds ρ1 = some (vs, ρ2)) : x3a k it pt tt te deep ρ = some (.lst vs, if deep = true then 2 else 1, ρ2) := by unfold x3a; rw [hi]; simp only [hc]
theorem z1d {i : Nat} {f : Den} {ρ ρ1 : Rho} {d : D} {q : Nat} (h : f ρ = some (d, q, ρ1)) : x1n i f ρ = some (.nx (ρ1.set i (some (d, q)))) := by unfold x1n; rw [h]
theorem x3n {f : Den} {ρ ρ1 : Rho} {d : D} {q : Nat} (h : f ρ = some (d, q, ρ1)) : x3f f ρ = some (.rt d q) := by unfold x3f; rw [h]
theorem x3s {it : y0l} {pt : x5w} {body : x1c} {ρ ρ1 : Rho} {ds : List D} (h : it ρ = some (ds, ρ1)) : x7i it pt body ρ = x98 pt body ds ρ1 := by unfold x7i; rw [h]
theorem z39 {g : x1y} {s s' : x1c} {ρ ρ1 : Rho} (h : g ρ = some (true, ρ1)) : sIf g s s' ρ = s ρ1 := by unfold sIf; rw [h]; rfl
theorem y6j {g : x1y} {s s' : x1c} {ρ ρ1 : Rho} (h : g ρ = some (false, ρ1)) : sIf g s s' ρ = s' ρ1 := by unfold sIf; rw [h]; rfl
theorem x2h {i : Nat} {f : Den} {ρ ρ1 ρ2 : Rho} {d : D} {q : Nat} (h : f ρ = some (d, q, ρ1)) (e : ρ1.set i (some (d, q)) = ρ2) : x1n i f ρ = some (.nx ρ2) := by rw [z1d h, e]
theorem x1b {f : Den} {ρ ρ1 : Rho} {d : D} {q : Nat} (h : f ρ = some (d, q, ρ1)) : x01 f x0h ρ = some ([d], ρ1) := by unfold x01; rw [h]; rfl
theorem x0x {f : Den} {g : x1h} {ρ ρ1 ρ2 : Rho} {d : D} {q : Nat} {ds : List D} (h : f ρ = some (d, q, ρ1)) (h' : g ρ1 = some (ds, ρ2)) : x01 f g ρ = some (d :: ds, ρ2) := by unfold x01; rw [h]; simp only [h']
theorem y00 {g : x1h} {ρ ρ1 : Rho} {ds : List D} (h : g ρ = some ([.lst ds], ρ1)) : x3i g ρ = some (.tup ds, 9, ρ1) := by unfold x3i; rw [h]
theorem y1i {g : x1h} {ρ ρ1 : Rho} {ds : List D} (h : x10 g ρ = some (ds, ρ1)) : x6e g ρ = some (.lst ds, 1, ρ1) := by unfold x6e; rw [h]
theorem x15 {F : List D -> Option (D × Nat)} {n : Nat} {g : x1h} {ρ ρ1 : Rho} {ds : List D} {d : D} {q : Nat} (h : g ρ = some (ds, ρ1)) (hl : ds.length = n) (hF : F ds = some (d, q)) : x0k F n g ρ = some (d, q, ρ1) := by unfold x0k; rw [h]; simp only [hl, if_true, hF]
noncomputable def x0e (l : List Nat) : List D := l.map fun i => .int (Int.ofNat i)
noncomputable def y4y (n : Nat) (f : Nat -> Nat -> Nat) (i : Nat) : D := .tup (x0e ((List.range n).map fun j => f i j))
noncomputable def x0n (n : Nat) (f : Nat -> Nat -> Nat) : D := .tup ((List.range n).map fun i => y4y n f i)
noncomputable def x6z (n : Nat) (f : Nat -> Nat -> Nat) (i : Nat) : D := .lst (x0e ((List.range n).map fun j => f i j))
noncomputable def x35 (n : Nat) (f : Nat -> Nat -> Nat) : D := .lst ((List.range n).map fun i => x6z n f i)
@[simp] theorem z7f {n : Nat} {f : Nat -> Nat -> Nat} : (x0n n f).isL = false := rfl
@[simp] theorem z7h {n : Nat} {f : Nat -> Nat -> Nat} {i : Nat} : (y4y n f i).isL = false := rfl
@[simp] theorem z7b {n : Nat} {f : Nat -> Nat -> Nat} : (x35 n f).isL = true := rfl
@[simp] theorem z79 {n : Nat} {f : Nat -> Nat -> Nat} {i : Nat} : (x6z n f i).isL = true := rfl
theorem x1m (l : List Nat) : (x0e l).length = l.length := by simp [x0e]
theorem y3y (l : List Nat) (i : Nat) : (x0e l)[i]? = (l[i]?).map fun x => .int (Int.ofNat x) := by simp [x0e]
theorem x8k {n i : Nat} (h : i < n) : ixN n (Int.ofNat i) = some i := by
  unfold ixN
  rw [if_pos (by exact Int.natCast_nonneg i), if_pos (by show (i : Int) < n; omega)]
  rfl
theorem x8x {α : Type} {xs : List α} {i : Nat} {x : α} (h : xs[i]? = some x) : L2.atI xs (Int.ofNat i) = some x := by
  unfold L2.atI
  rw [x8k (List.getElem?_eq_some_iff.mp h).1]
  exact h
theorem y72 {l : List Nat} {i x : Nat} (h : l[i]? = some x) : L2.atI (x0e l) (Int.ofNat i) = some (.int (Int.ofNat x)) := x8x (by rw [y3y, h]; rfl)
theorem z05 {g : Nat -> D} {n i : Nat} (h : i < n) : L2.atI ((List.range n).map g) (Int.ofNat i) = some (g i) := x8x (by rw [List.getElem?_map, List.getElem?_range h]; rfl)
theorem x21 {g : Nat -> Nat} {n i : Nat} (h : i < n) : L2.atI (x0e ((List.range n).map g)) (Int.ofNat i) = some (.int (Int.ofNat (g i))) := y72 (by rw [List.getElem?_map, List.getElem?_range h]; rfl)
theorem x8v {n : Nat} {f : Nat -> Nat -> Nat} {i : Nat} (h : i < n) : atD (x0n n f) (Int.ofNat i) = some (y4y n f i) := z05 h
theorem y0j {n : Nat} {f : Nat -> Nat -> Nat} {i j : Nat} (h : j < n) : atD (y4y n f i) (Int.ofNat j) = some (.int (Int.ofNat (f i j))) := x21 h
theorem z3n {n : Nat} {f : Nat -> Nat -> Nat} {i : Nat} (h : i < n) : atD (x35 n f) (Int.ofNat i) = some (x6z n f i) := z05 h
theorem z1x {n : Nat} {f : Nat -> Nat -> Nat} {i j : Nat} (h : j < n) : atD (x6z n f i) (Int.ofNat j) = some (.int (Int.ofNat (f i j))) := x21 h
theorem x3c {n : Nat} {f : Nat -> Nat -> Nat} : x56 (x0n n f) = some n := by simp [x0n, x56]
theorem x6y {n : Nat} {f : Nat -> Nat -> Nat} : x56 (x35 n f) = some n := by simp [x35, x56]
theorem x5u {n : Nat} {f g : Nat -> Nat -> Nat} (h : ∀ a b, a < n -> b < n -> f a b = g a b) : x35 n f = x35 n g := by
  unfold x35 x6z
  refine congrArg D.lst (List.map_congr_left fun a ha => ?_)
  refine congrArg (fun l => D.lst (x0e l)) (List.map_congr_left fun b hb => ?_)
  exact h a b (List.mem_range.mp ha) (List.mem_range.mp hb)
theorem x6i {α : Type} {g : Nat -> α} {n m : Nat} {x : α} : ((List.range n).map g).set m x = (List.range n).map fun a => if a = m then x else g a := by
  apply List.ext_getElem?
  intro i
  by_cases hi : i < n
  · by_cases h : m = i
    · subst h
      rw [List.getElem?_set_self (by simpa using hi), List.getElem?_map, List.getElem?_range hi]
      simp
    · rw [List.getElem?_set_ne h, List.getElem?_map, List.getElem?_map, List.getElem?_range hi]
      simp
      exact fun z => absurd z.symm h
  · rw [List.getElem?_eq_none (by simp; omega), List.getElem?_eq_none (by simp; omega)]
theorem y3i {g : Nat -> Nat} {n : Nat} : x0e ((List.range n).map g) = (List.range n).map fun i => .int (Int.ofNat (g i)) := by simp [x0e]
theorem y7j {n : Nat} {f : Nat -> Nat -> Nat} {a b v : Nat} : D.lst (((List.range n).map fun i => x6z n f i).set a (.lst ((x0e ((List.range n).map fun j => f a j)).set b (.int (Int.ofNat v))))) = x35 n fun i j => if i = a /\ j = b then v else f i j := by
  unfold x35
  rw [x6i]
  refine congrArg D.lst (List.map_congr_left fun i hi => ?_)
  by_cases h : i = a
  · subst h
    rw [if_pos rfl, y3i, x6i]
    unfold x6z
    rw [y3i]
    refine congrArg D.lst (List.map_congr_left fun j hj => ?_)
    by_cases hj : j = b <;> simp [hj]
  · rw [if_neg h]
    unfold x6z
    simp [h]
theorem z7t (n : Nat) : D.lst (List.replicate n [D.int 0]).flatten = x6z n (fun _ _ => 0) 0 := by
  unfold x6z x0e
  congr 1
  simp [List.flatten_replicate_singleton, List.map_const']
theorem y3q : ∀ ds : List D, x57 ds = ds.map toP
  | [] => rfl
  | d :: ds => by rw [x57, y3q ds]; rfl
noncomputable def lay (d : D) : Bool := x6a d && (toP d).canLay0
theorem z4c {d : D} (h : lay d = true) : x6a d = true := (Bool.and_eq_true_iff.mp h).1
theorem z72 {d : D} (h : lay d = true) : (toP d).canLay0 = true := (Bool.and_eq_true_iff.mp h).2
theorem x7a : ∀ {ds : List D}, (∀ d ∈ ds, lay d = true) -> x8u ds = true
  | [], _ => rfl
  | d :: ds, h => by
    show (x6a d && x8u ds) = true
    rw [z4c (h d List.mem_cons_self), x7a fun x m => h x (List.mem_cons_of_mem _ m)]
    rfl
noncomputable def dep (d : D) : Nat := (toP d).depth
theorem y67 : ∀ {ds : List D}, (∀ d ∈ ds, lay d = true) -> PyData.canLayAll0 (x57 ds) = true
  | [], _ => rfl
  | d :: ds, h => by
    rw [x57, PyData.canLayAll0, y67 fun x m => h x (List.mem_cons_of_mem _ m), Bool.and_true]
    exact z72 (h d List.mem_cons_self)
theorem y6l {k : Nat} : ∀ {ds : List D}, (∀ d ∈ ds, dep d <= k) -> PyData.depthAll (x57 ds) <= k
  | [], _ => Nat.zero_le _
  | d :: ds, h => by
    rw [x57, PyData.depthAll]
    exact Nat.max_le.mpr ⟨h d List.mem_cons_self, y6l fun x m => h x (List.mem_cons_of_mem _ m)⟩
noncomputable def Sh (k : Nat) (d : D) : Prop := lay d = true /\ dep d <= k
theorem Sh.int {k : Nat} (i : Int) : Sh k (.int i) := ⟨rfl, Nat.zero_le _⟩
theorem Sh.non {k : Nat} : Sh k .non := ⟨rfl, Nat.zero_le _⟩
theorem Sh.tup {k : Nat} {ds : List D} (h : ∀ d ∈ ds, Sh k d) : Sh (k + 1) (.tup ds) := ⟨Bool.and_eq_true_iff.mpr ⟨x7a fun d m => (h d m).1, y67 fun d m => (h d m).1⟩, Nat.succ_le_succ (y6l fun d m => (h d m).2)⟩
theorem Sh.lst {k : Nat} {ds : List D} (h : ∀ d ∈ ds, Sh k d) : Sh (k + 1) (.lst ds) := ⟨Bool.and_eq_true_iff.mpr ⟨x7a fun d m => (h d m).1, y67 fun d m => (h d m).1⟩, Nat.succ_le_succ (y6l fun d m => (h d m).2)⟩
theorem Sh.ok {k : Nat} {d : D} (h : Sh k d) (hk : k <= 64 := by decide) : okD d = true := by
  show (x6a d && ((toP d).canLay0 && decide ((toP d).depth <= 64))) = true
  rw [z4c h.1, z72 h.1, Bool.true_and, Bool.true_and]
  exact decide_eq_true (Nat.le_trans h.2 hk)
theorem y6a {l : List Nat} {d : D} (m : d ∈ x0e l) : Sh 0 d := by
  obtain ⟨x, _, rfl⟩ := List.mem_map.mp m
  exact .int _
theorem z8m (l : List Nat) : Sh 1 (.lst (x0e l)) := .lst fun _ m => y6a m
theorem z1i (l : List Nat) : Sh 1 (.tup (x0e l)) := .tup fun _ m => y6a m
theorem z3i (n : Nat) (f : Nat -> Nat -> Nat) : Sh 2 (x0n n f) := .tup fun d m => by
  obtain ⟨x, _, rfl⟩ := List.mem_map.mp m
  exact z1i _
theorem x64 : ∀ l l' : List Nat, PyData.eqvAll (x57 (x0e l)) (x57 (x0e l')) = decide (l = l')
  | [], [] => rfl
  | [], _ :: _ => rfl
  | _ :: _, [] => rfl
  | x :: l, y :: l' => by
    show (((x : Int) == (y : Int)) && PyData.eqvAll (x57 (x0e l)) (x57 (x0e l'))) = _
    rw [x64 l l']
    by_cases h : x = y
    · subst h; simp
    · have : ((x : Int) == (y : Int)) = false := by simp; omega
      rw [this]
      simp [h]
theorem z7l (l l' : List Nat) : eqD (.lst (x0e l)) (.lst (x0e l')) = decide (l = l') := x64 l l'
theorem z5g (l l' : List Nat) : eqD (.tup (x0e l)) (.tup (x0e l')) = decide (l = l') := x64 l l'
theorem y2v (i j : Int) : eqD (.int i) (.int j) = decide (i = j) := by
  show (i == j) = _
  rw [Bool.beq_eq_decide_eq]
theorem z1z (i j : Nat) : eqD (.int (Int.ofNat i)) (.int (Int.ofNat j)) = decide (i = j) := by
  rw [y2v]
  exact decide_eq_decide.mpr ⟨fun h => Int.ofNat.inj h, fun h => by rw [h]⟩
theorem z7s (l l' : List Nat) : dEq (.lst (x0e l)) (.lst (x0e l')) = some (.bl (decide (l = l'))) := by unfold dEq; rw [if_pos ⟨(z8m l).ok, (z8m l').ok⟩, z7l]
theorem y6m (i j : Int) : dEq (.int i) (.int j) = some (.bl (decide (i = j))) := by unfold dEq; rw [if_pos ⟨(Sh.int (k := 0) i).ok, (Sh.int (k := 0) j).ok⟩, y2v]
theorem y5v (i j : Int) : dNe (.int i) (.int j) = some (.bl (!decide (i = j))) := by unfold dNe; rw [if_pos ⟨(Sh.int (k := 0) i).ok, (Sh.int (k := 0) j).ok⟩, y2v]
theorem y6t (i j : Nat) : dEq (.int (Int.ofNat i)) (.int (Int.ofNat j)) = some (.bl (decide (i = j))) := by unfold dEq; rw [if_pos ⟨(Sh.int (k := 0) _).ok, (Sh.int (k := 0) _).ok⟩, z1z]
theorem x6j {α : Type} {p : α -> Bool} : ∀ {l : List α} {j : Nat} {x : α}, l[j]? = some x -> p x = true -> (∀ i y, i < j -> l[i]? = some y -> p y = false) -> l.findIdx? p = some j
  | [], j, x, h, _, _ => by simp at h
  | a :: l, 0, x, h, hp, _ => by
    simp at h; subst h
    simp [List.findIdx?_cons, hp]
  | a :: l, j + 1, x, h, hp, hn => by
    have h0 : p a = false := hn 0 a (Nat.succ_pos _) rfl
    have ih := x6j (l := l) (j := j) (x := x) (by simpa using h) hp fun i y hi hy => hn (i + 1) y (Nat.succ_lt_succ hi) (by simpa using hy)
    simp [List.findIdx?_cons, h0, ih]
structure Lad (n : Nat) (f : Nat -> Nat -> Nat) : Prop where
  lo : 0 < n
  hi : n <= 8
  cl : ∀ i j, i < n -> j < n -> f i j < n
  idem : ∀ i, i < n -> f i i = i
  comm : ∀ i j, i < n -> j < n -> f i j = f j i
  assoc : ∀ i j k, i < n -> j < n -> k < n -> f (f i j) k = f i (f j k)
  bot : ∃ z, z < n /\ ∀ j, j < n -> f z j = j
noncomputable def z83 (n : Nat) (f : Nat -> Nat -> Nat) : Bool :=
  decide (0 < n) && decide (n <= 8) && ((List.range n).all fun i => (List.range n).all fun j => decide (f i j < n)) && ((List.range n).all fun i => decide (f i i = i)) && ((List.range n).all fun i => (List.range n).all fun j => decide (f i j = f j i)) &&
  ((List.range n).all fun i => (List.range n).all fun j => (List.range n).all fun k => decide (f (f i j) k = f i (f j k))) && ((List.range n).any fun z => (List.range n).all fun j => decide (f z j = j))
theorem z1l {n : Nat} {f : Nat -> Nat -> Nat} (h : z83 n f = true) : Lad n f := by
  unfold z83 at h
  simp only [Bool.and_eq_true, decide_eq_true_eq, List.all_eq_true, List.any_eq_true, List.mem_range] at h
  obtain ⟨⟨⟨⟨⟨⟨h1, h2⟩, h3⟩, h4⟩, h5⟩, h6⟩, z, hz, h7⟩ := h
  exact ⟨h1, h2, fun i j hi hj => h3 i hi j hj, h4, fun i j hi hj => h5 i hi j hj, fun i j k hi hj hk => h6 i hi j hj k hk, z, hz, h7⟩
theorem Lad.ren {n : Nat} {f : Nat -> Nat -> Nat} (L : Lad n f) {π ι : Nat -> Nat} (h1 : ∀ i, i < n -> π i < n) (h2 : ∀ i, i < n -> ι i < n) (h3 : ∀ i, i < n -> ι (π i) = i) (h4 : ∀ i, i < n -> π (ι i) = i) : Lad n fun a b => π (f (ι a) (ι b)) := by
  obtain ⟨l1, l2, cl, idem, comm, assoc, z, hz, bot⟩ := L
  refine ⟨l1, l2, fun i j hi hj => h1 _ (cl _ _ (h2 i hi) (h2 j hj)), fun i hi => ?_, fun i j hi hj => ?_, fun i j k hi hj hk => ?_, π z, h1 z hz, fun j hj => ?_⟩
  · show π (f (ι i) (ι i)) = i
    rw [idem _ (h2 i hi), h4 i hi]
  · show π (f (ι i) (ι j)) = π (f (ι j) (ι i))
    rw [comm _ _ (h2 i hi) (h2 j hj)]
  · show π (f (ι (π (f (ι i) (ι j)))) (ι k)) = π (f (ι i) (ι (π (f (ι j) (ι k)))))
    rw [h3 _ (cl _ _ (h2 i hi) (h2 j hj)), h3 _ (cl _ _ (h2 j hj) (h2 k hk)), assoc _ _ _ (h2 i hi) (h2 j hj) (h2 k hk)]
  · show π (f (ι (π z)) (ι j)) = j
    rw [h3 z hz, bot _ (h2 j hj), h4 j hj]
noncomputable def x54 (p : Nat -> Nat -> Nat) (n : Nat) : Nat -> List Nat
  | 0 => List.range n
  | k + 1 => (x54 p n k).eraseIdx (p k (x54 p n k).length)
noncomputable def drawn (p : Nat -> Nat -> Nat) (n k : Nat) : Nat := (x54 p n k).getD (p k (x54 p n k).length) 0
theorem x9s : ∀ (l : List Nat) (j : Nat), (x0e l).eraseIdx j = x0e (l.eraseIdx j)
  | [], _ => rfl
  | _ :: _, 0 => rfl
  | a :: l, j + 1 => congrArg (D.int (Int.ofNat a) :: ·) (x9s l j)
theorem x6d {p : Nat -> Nat -> Nat} {n : Nat} (hp : ∀ k m, 0 < m -> p k m < m) : ∀ k, k <= n -> (x54 p n k).length = n - k
  | 0, _ => by simp [x54]
  | k + 1, h => by
    have ih := x6d hp k (Nat.le_of_succ_le h)
    have := hp k (n - k) (by omega)
    rw [x54, List.length_eraseIdx, ih, if_pos this]
    omega
theorem x9v : ∀ {l : List Nat} {j : Nat} (h : j < l.length), (l[j] :: l.eraseIdx j).Perm l
  | a :: l, 0, _ => List.Perm.refl _
  | a :: l, j + 1, h => (List.Perm.swap a (l[j]'(by simpa using h)) (l.eraseIdx j)).trans (List.Perm.cons a (x9v (by simpa using h)))
theorem y1z {p : Nat -> Nat -> Nat} {n : Nat} (hp : ∀ k m, 0 < m -> p k m < m) : ∀ k, k <= n -> (((List.range k).map (drawn p n)) ++ x54 p n k).Perm (List.range n)
  | 0, _ => by simp [x54]
  | k + 1, h => by
    have ih := y1z hp k (Nat.le_of_succ_le h)
    have hl := x6d hp k (by omega : k <= n)
    have hj : p k (x54 p n k).length < (x54 p n k).length := by rw [hl]; exact hp k _ (by omega)
    refine List.Perm.trans ?_ ih
    rw [List.range_succ, List.map_append, List.append_assoc]
    refine List.Perm.append_left _ ?_
    have e : drawn p n k = (x54 p n k)[p k (x54 p n k).length] := by unfold drawn; rw [List.getD_eq_getElem?_getD, List.getElem?_eq_getElem hj]; rfl
    show (drawn p n k :: (x54 p n (k + 1))).Perm _
    rw [e, x54]
    exact x9v hj
theorem x5p {p : Nat -> Nat -> Nat} {n : Nat} (hp : ∀ k m, 0 < m -> p k m < m) : ((List.range n).map (drawn p n)).Perm (List.range n) := by
  have h := y1z hp n (Nat.le_refl n)
  have hl := x6d hp n (Nat.le_refl n)
  rw [Nat.sub_self] at hl
  rw [List.length_eq_zero_iff.mp hl, List.append_nil] at h
  exact h
theorem y3x {p : Nat -> Nat -> Nat} {n : Nat} (hp : ∀ k m, 0 < m -> p k m < m) {i : Nat} (h : i < n) : drawn p n i < n := by
  have m : drawn p n i ∈ (List.range n).map (drawn p n) := List.mem_map.mpr ⟨i, List.mem_range.mpr h, rfl⟩
  exact List.mem_range.mp ((x5p hp).mem_iff.mp m)
noncomputable def x30 (p : Nat -> Nat -> Nat) (n a : Nat) : Nat := ((List.range n).map (drawn p n)).idxOf a
theorem x9q {p : Nat -> Nat -> Nat} {n : Nat} (hp : ∀ k m, 0 < m -> p k m < m) {a : Nat} (h : a < n) : x30 p n a < n := by
  have m : a ∈ (List.range n).map (drawn p n) := (x5p hp).mem_iff.mpr (List.mem_range.mpr h)
  have := List.idxOf_lt_length_of_mem m
  rw [List.length_map, List.length_range] at this
  exact this
theorem x6h {p : Nat -> Nat -> Nat} {n : Nat} (hp : ∀ k m, 0 < m -> p k m < m) {a : Nat} (h : a < n) : drawn p n (x30 p n a) = a := by
  have m : a ∈ (List.range n).map (drawn p n) := (x5p hp).mem_iff.mpr (List.mem_range.mpr h)
  have := List.getElem_idxOf (List.idxOf_lt_length_of_mem m)
  rw [List.getElem_map, List.getElem_range] at this
  exact this
theorem x6w {p : Nat -> Nat -> Nat} {n : Nat} (hp : ∀ k m, 0 < m -> p k m < m) {i : Nat} (h : i < n) : x30 p n (drawn p n i) = i := by
  have nd : ((List.range n).map (drawn p n)).Nodup := (x5p hp).nodup_iff.mpr List.nodup_range
  have hi : i < ((List.range n).map (drawn p n)).length := by simpa using h
  have := nd.idxOf_getElem i hi
  rw [List.getElem_map, List.getElem_range] at this
  exact this
end L3
namespace L3
open PySem PySem.Spec PyProof.Rows L2
theorem y4r {i n : Nat} {tt : x1y} {te : Den} {ρ : Rho} {deep : Bool} (hi : ρ.length = i) (b : Nat -> Bool) (v : Nat -> D) (q : Nat -> Nat) (ht : ∀ j, j < n -> tt (ρ ++ [some (.int (Int.ofNat j), 9)]) = some (b j, ρ ++ [some (.int (Int.ofNat j), 9)]))
    (he : ∀ j, j < n -> b j = true -> te (ρ ++ [some (.int (Int.ofNat j), 9)]) = some (v j, q j, ρ ++ [some (.int (Int.ofNat j), 9)])) (hd : deep = true -> ∀ j, (v j).isL = true -> q j = 1 := by intro h; cases h) :
    x6t 1 (x0o i) tt te deep (x16 n) ρ = some (((List.range n).filter b).map v, ρ) := by
  have h := x4k (k := 1) (pt := x0o i) (tt := tt) (te := te) (deep := deep) (x16 n) (fun _ => ρ) b v (fun j hj => ?_)
  · rw [x0q] at h
    exact h
  · rw [x0q] at hj
    refine ⟨ρ ++ [some (.int (Int.ofNat j), 9)], _, ?_, ht j hj, ?_⟩
    · have : (x16 n)[j]'(by rw [x0q]; exact hj) = .int (Int.ofNat j) := by simp [x16]
      rw [this]
      unfold x0o
      rw [if_pos (by simp [hi])]
      subst hi
      simp [List.set_append]
    · by_cases hb : b j = true
      · rw [if_pos hb]
        exact ⟨q j, _, he j hj hb, fun ⟨h1, h2, h3⟩ => h3 (hd h1 j h2), by simp⟩
      · rw [if_neg hb]
        simp
theorem y01 {z : Nat} : ∀ n : Nat, (List.range n).filter (fun w => decide (w = z)) = if z < n then [z] else []
  | 0 => by simp
  | n + 1 => by
    rw [List.range_succ, List.filter_append, y01 n]
    by_cases h : n = z
    · subst h; simp
    · have : ¬ (n = z) := h
      by_cases h2 : z < n
      · rw [if_pos h2, if_pos (by omega)]; simp [h]
      · rw [if_neg h2, if_neg (by omega)]; simp [h]
theorem y1h {n : Nat} {g : Nat -> Nat} : (List.range n).map g = List.range n ↔ ∀ j, j < n -> g j = j := by
  constructor
  · intro h j hj
    have := congrArg (fun l => l[j]?) h
    simpa [hj] using this
  · intro h
    have e := List.map_congr_left (l := List.range n) (f := g) (g := id) fun a ha => h a (List.mem_range.mp ha)
    rw [e, List.map_id]
namespace Lad
variable {n : Nat} {f : Nat -> Nat -> Nat} (L : Lad n f)
include L
theorem bot_uniq {z x : Nat} (hz : z < n) (bz : ∀ j, j < n -> f z j = j) (hx : x < n) (bx : ∀ j, j < n -> f x j = j) : x = z := by
  have h1 := bx z hz
  have h2 := bz x hx
  rw [L.comm x z hx hz] at h1
  omega
theorem fold_lt : ∀ {l : List Nat} {a : Nat}, a < n -> (∀ x ∈ l, x < n) -> l.foldl f a < n
  | [], a, ha, _ => ha
  | y :: l, a, ha, h => fold_lt (l := l) (L.cl a y ha (h y List.mem_cons_self)) fun x m => h x (List.mem_cons_of_mem _ m)
theorem y73 : ∀ {l : List Nat} {a x : Nat}, a < n -> x < n -> (∀ x ∈ l, x < n) -> f x a = a -> f x (l.foldl f a) = l.foldl f a
  | [], a, x, _, _, _, e => e
  | y :: l, a, x, ha, hx, h, e => by
    have hy := h y List.mem_cons_self
    refine y73 (l := l) (L.cl a y ha hy) hx (fun x m => h x (List.mem_cons_of_mem _ m)) ?_
    rw [<- L.assoc x a y hx ha hy, e]
theorem fold_mem : ∀ {l : List Nat} {a x : Nat}, a < n -> (∀ x ∈ l, x < n) -> x ∈ l -> f x (l.foldl f a) = l.foldl f a
  | y :: l, a, x, ha, h, m => by
    have hy := h y List.mem_cons_self
    have hl : ∀ x ∈ l, x < n := fun x m => h x (List.mem_cons_of_mem _ m)
    rcases List.mem_cons.mp m with rfl | m
    · refine y73 L (l := l) (L.cl a x ha hy) hy hl ?_
      rw [L.comm a x ha hy, <- L.assoc x x a hy hy ha, L.idem x hy]
    · exact fold_mem (l := l) (L.cl a y ha hy) hl m
theorem fold_out {z : Nat} (hz : z < n) (bz : ∀ j, j < n -> f z j = j) : ∀ {l : List Nat} {a : Nat}, a < n -> (∀ x ∈ l, x < n) -> l.foldl f a = f a (l.foldl f z)
  | [], a, ha, _ => by show a = f a z; rw [L.comm a z ha hz, bz a ha]
  | y :: l, a, ha, h => by
    have hy := h y List.mem_cons_self
    have hl : ∀ x ∈ l, x < n := fun x m => h x (List.mem_cons_of_mem _ m)
    show l.foldl f (f a y) = f a (l.foldl f (f z y))
    rw [bz y hy, fold_out hz bz (L.cl a y ha hy) hl, fold_out hz bz hy hl, L.assoc a y _ ha hy (L.fold_lt hz hl)]
end Lad
end L3
namespace L3
open PySem PySem.Spec PyProof.Rows L2
theorem y5s {l : List Nat} {i : Nat} (h : i < (x0e l).length) : (x0e l)[i] = .int (Int.ofNat (l.getD i 0)) := by
  have h' : i < l.length := by rw [x1m] at h; exact h
  simp [x0e, h']
theorem y40 {l : List Nat} {i : Nat} (h : i < l.length) : l.getD i 0 ∈ l := by
  rw [List.getD_eq_getElem?_getD, List.getElem?_eq_getElem h]
  exact List.getElem_mem h
theorem z7y {i : Nat} {te : Den} {ρ : Rho} {deep : Bool} (l : List Nat) (hi : ρ.length = i) (v : Nat -> D) (q : Nat -> Nat)
    (he : ∀ x, x ∈ l -> te (ρ ++ [some (.int (Int.ofNat x), 9)]) = some (v x, q x, ρ ++ [some (.int (Int.ofNat x), 9)])) (hd : deep = true -> ∀ j, (v j).isL = true -> q j = 1 := by intro h; cases h) :
    x6t 1 (x0o i) x2m te deep (x0e l) ρ = some (l.map v, ρ) := by
  have h := x4k (k := 1) (pt := x0o i) (tt := x2m) (te := te) (deep := deep) (x0e l) (fun _ => ρ) (fun _ => true) (fun j => v (l.getD j 0)) (fun j hj => ?_)
  · rw [x1m, show (List.range l.length).filter (fun _ => true) = List.range l.length by simp] at h
    rw [h]
    have e : (List.range l.length).map (fun j => v (l.getD j 0)) = l.map v := by
      apply List.ext_getElem?
      intro k
      by_cases hk : k < l.length
      · simp [hk]
      · rw [List.getElem?_eq_none (by simp; omega), List.getElem?_eq_none (by simp; omega)]
    rw [e]
  · have hj' : j < l.length := by rw [x1m] at hj; exact hj
    refine ⟨ρ ++ [some (.int (Int.ofNat (l.getD j 0)), 9)], _, ?_, rfl, ?_⟩
    · rw [y5s hj]
      unfold x0o
      rw [if_pos (by simp [hi])]
      subst hi
      simp [List.set_append]
    · rw [if_pos rfl]
      exact ⟨q _, _, he _ (y40 hj'), fun ⟨h1, h2, h3⟩ => h3 (hd h1 _ h2), by simp⟩
theorem y2j {g : D -> D -> Option D} {fa fb : Den} {ρ ρ1 ρ2 : Rho} {x y d : D} {q q' : Nat} (ha : fa ρ = some (x, q, ρ1)) (hb : fb ρ1 = some (y, q', ρ2)) (hg : g x y = some d) : e2 g fa fb ρ = some (d, 9, ρ2) := by unfold e2; rw [ha]; simp only [hb, hg]
theorem x8t {f : Den} {ρ ρ1 : Rho} {b : Bool} {q : Nat} (h : f ρ = some (.bl b, q, ρ1)) : x3d f ρ = some (b, ρ1) := by unfold x3d; rw [h]
theorem y09 {i : Nat} {g : x1h} {ρ ρ1 ρ2 : Rho} {ds : List D} {d : D} (hl : y36 ρ[i]? = true) (hg : g ρ = some ([d], ρ1)) (h1 : ρ1[i]? = some (some (.lst ds, 1))) (hn : ds.length <= 1000) (e : ρ1.set i (some (.lst (ds ++ [d]), 1)) = ρ2) : x34 (x7q i g) ρ = some (.nx ρ2) := by
  unfold x34 x7q
  rw [if_pos hl, hg]
  simp only [h1, if_pos hn, e]
theorem z1f {b : List D -> Option D} {g : x1h} {ρ ρ1 : Rho} {ds : List D} {d : D} (h : g ρ = some (ds, ρ1)) (hd : b ds = some d) : eB b g ρ = some (d, 9, ρ1) := by unfold eB; rw [h]; simp only [hd]
noncomputable def x9e (n : Nat) (r : Nat -> Nat) : D := .tup (x0e ((List.range n).map r))
@[simp] theorem z63 {n : Nat} {r : Nat -> Nat} : (x9e n r).isL = false := rfl
theorem y47 {n i : Nat} {r : Nat -> Nat} (h : i < n) : atD (x9e n r) (Int.ofNat i) = some (.int (Int.ofNat (r i))) := x21 h
theorem x99 (l l' : List Nat) : dNe (.tup (x0e l)) (.tup (x0e l')) = some (.bl (!decide (l = l'))) := by unfold dNe; rw [if_pos ⟨(z1i l).ok, (z1i l').ok⟩, z5g]
namespace Lad
variable {n : Nat} {f : Nat -> Nat -> Nat} (L : Lad n f)
include L
theorem le_trans {x y z : Nat} (hx : x < n) (hy : y < n) (hz : z < n) (h1 : f x y = y) (h2 : f y z = z) : f x z = z := by
  rw [<- h2, <- L.assoc x y z hx hy hz, h1]
theorem le_anti {x y : Nat} (hx : x < n) (hy : y < n) (h1 : f x y = y) (h2 : f y x = x) : x = y := by
  rw [L.comm y x hy hx, h1] at h2; exact h2.symm
theorem le_l {x y : Nat} (hx : x < n) (hy : y < n) : f x (f x y) = f x y := by rw [<- L.assoc x x y hx hx hy, L.idem x hx]
theorem le_r {x y : Nat} (hx : x < n) (hy : y < n) : f y (f x y) = f x y := by rw [L.comm x y hx hy]; exact L.le_l hy hx
theorem lub {x y z : Nat} (hx : x < n) (hy : y < n) (hz : z < n) (h1 : f x z = z) (h2 : f y z = z) : f (f x y) z = z := by rw [L.assoc x y z hx hy hz, h2, h1]
theorem sup_least {z : Nat} (hz : z < n) (bz : ∀ j, j < n -> f z j = j) {b : Nat} (hb : b < n) : ∀ {l : List Nat}, (∀ x ∈ l, x < n) -> (∀ x ∈ l, f x b = b) -> f (l.foldl f z) b = b
  | [], _, _ => bz b hb
  | y :: l, h, k => by
    have hy := h y List.mem_cons_self
    have hl : ∀ x ∈ l, x < n := fun x m => h x (List.mem_cons_of_mem _ m)
    have e : (y :: l).foldl f z = f y (l.foldl f z) := by
      show l.foldl f (f z y) = _
      rw [bz y hy, L.fold_out hz bz hy hl]
    rw [e]
    exact L.lub hy (L.fold_lt hz hl) hb (k y List.mem_cons_self) (sup_least hz bz hb hl fun x m => k x (List.mem_cons_of_mem _ m))
omit L
noncomputable def low (n : Nat) (f : Nat -> Nat -> Nat) (x : Nat) : List Nat := (List.range n).filter fun y => decide (f y x = x)
theorem mem_low {x y : Nat} : y ∈ low n f x ↔ y < n /\ f y x = x := by simp [low]
noncomputable def lr (n : Nat) (f : Nat -> Nat -> Nat) (z : Nat) (r : Nat -> Nat) (x : Nat) : Nat := ((low n f x).map r).foldl f z
include L
variable {z : Nat} (hz : z < n) (bz : ∀ j, j < n -> f z j = j) {r s : Nat -> Nat} (hr : ∀ i, i < n -> r i < n)
include hz bz hr
theorem lr_mem {x : Nat} : ∀ y ∈ (low n f x).map r, y < n := fun y m => by
  obtain ⟨k, hk, rfl⟩ := List.mem_map.mp m
  exact hr k (mem_low.mp hk).1
theorem lr_lt (x : Nat) : lr n f z r x < n := L.fold_lt hz (lr_mem L hz bz hr)
theorem lr_ub {x y : Nat} (hy : y < n) (h : f y x = x) : f (r y) (lr n f z r x) = lr n f z r x := L.fold_mem hz (lr_mem L hz bz hr) (List.mem_map.mpr ⟨y, mem_low.mpr ⟨hy, h⟩, rfl⟩)
theorem lr_least {x b : Nat} (hb : b < n) (h : ∀ y, y < n -> f y x = x -> f (r y) b = b) : f (lr n f z r x) b = b := L.sup_least hz bz hb (lr_mem L hz bz hr) fun y m => by
  obtain ⟨k, hk, rfl⟩ := List.mem_map.mp m
  exact h k (mem_low.mp hk).1 (mem_low.mp hk).2
theorem lr_rises {x y : Nat} (hx : x < n) (hy : y < n) (h : f x y = y) : f (lr n f z r x) (lr n f z r y) = lr n f z r y :=
  L.lr_least hz bz hr (L.lr_lt hz bz hr y) fun k hk e => L.lr_ub hz bz hr hk (L.le_trans hk hx hy e h)
end Lad
end L3
namespace L3
open PySem PySem.Spec PyProof.Rows L2
theorem j05 {α : Type} {us : List α} (h : us.length = 1) : ∃ a, us = [a] := match us, h with | [a], _ => ⟨a, rfl⟩
theorem j02 {α : Type} {us : List α} (h : us.length = 2) : ∃ a b, us = [a, b] := by
  cases us with
  | nil => cases h
  | cons a us =>
    obtain ⟨b, hh⟩ := j05 (Nat.succ.inj h)
    exact ⟨a, b, by rw [hh]⟩
theorem z9u {α : Type} {us : List α} (h : us.length = 3) : ∃ a b c, us = [a, b, c] := by
  cases us with
  | nil => cases h
  | cons a us =>
    obtain ⟨b, c, hh⟩ := j02 (Nat.succ.inj h)
    exact ⟨a, b, c, by rw [hh]⟩
theorem j07 {α : Type} {us : List α} (h : us.length = 4) : ∃ a b c d, us = [a, b, c, d] := by
  cases us with
  | nil => cases h
  | cons a us =>
    obtain ⟨b, c, d, hh⟩ := z9u (Nat.succ.inj h)
    exact ⟨a, b, c, d, by rw [hh]⟩
theorem z15 {pt : x5w} {body : x1c} {d : D} {ds : List D} {ρ ρ1 ρ2 : Rho} (h1 : pt d ρ = some ρ1) (h2 : body ρ1 = some (.nx ρ2)) : x98 pt body (d :: ds) ρ = x98 pt body ds ρ2 := by
  show (match pt d ρ with | none => none | some ρ1 => _) = _
  simp only [h1, h2]
theorem x70 {α J σ : Type} {pt : x5w} {body : x1c} (enc : α -> D) (S : σ -> J -> Rho) (g : σ -> α -> σ) (I : σ -> Prop) : ∀ (l : List α) (s : σ) (j : J), I s ->
    (∀ x ∈ l, ∀ s j, I s -> I (g s x) /\ ∃ ρ1 j', pt (enc x) (S s j) = some ρ1 /\ body ρ1 = some (.nx (S (g s x) j'))) -> ∃ j', x98 pt body (l.map enc) (S s j) = some (.nx (S (l.foldl g s) j')) /\ I (l.foldl g s)
  | [], s, j, i, _ => ⟨j, rfl, i⟩
  | x :: l, s, j, i, h => by
    obtain ⟨i1, ρ1, j1, h1, h2⟩ := h x List.mem_cons_self s j i
    obtain ⟨j2, e, i2⟩ := x70 enc S g I l (g s x) j1 i1 fun y m => h y (List.mem_cons_of_mem _ m)
    exact ⟨j2, (z15 h1 h2).trans e, i2⟩
theorem x9n {c : x1y} {b : x1c} {Q : Rho -> Prop} (I : Nat -> Rho -> Prop)
    (h : ∀ k ρ, I k ρ -> (∃ ρ1, c ρ = some (false, ρ1) /\ Q ρ1) \/ (∃ ρ1 ρ2 k', c ρ = some (true, ρ1) /\ b ρ1 = some (.nx ρ2) /\ k' < k /\ I k' ρ2)) : ∀ m k ρ, k < m -> I k ρ -> ∃ ρ', x59 c b m ρ = some (.nx ρ') /\ Q ρ'
  | 0, k, _, hk, _ => absurd hk (Nat.not_lt_zero k)
  | m + 1, k, ρ, hk, i => by
    rcases h k ρ i with ⟨ρ1, h1, h2⟩ | ⟨ρ1, ρ2, k', h1, h2, h3, h4⟩
    · exact ⟨ρ1, by unfold x59; simp [h1], h2⟩
    · obtain ⟨ρ', e, q⟩ := x9n I h m k' ρ2 (by omega) h4
      refine ⟨ρ', ?_, q⟩
      unfold x59
      simp [h1, h2, e]
theorem x77 {c : x1y} {b : x1c} {Q : Rho -> Prop} (I : Nat -> Rho -> Prop) {k : Nat} {ρ : Rho} (hk : k < 1000) (i : I k ρ)
    (h : ∀ k ρ, I k ρ -> (∃ ρ1, c ρ = some (false, ρ1) /\ Q ρ1) \/ (∃ ρ1 ρ2 k', c ρ = some (true, ρ1) /\ b ρ1 = some (.nx ρ2) /\ k' < k /\ I k' ρ2)) : ∃ ρ', y21 c b ρ = some (.nx ρ') /\ Q ρ' := x9n I h 1000 k ρ hk i
noncomputable def gv (v : List Nat) (i : Nat) : Nat := v.getD i 0
theorem y6w {v : List Nat} {i : Nat} (h : i < v.length) : v[i]? = some (gv v i) := by unfold gv; simp [h]
theorem z57 {v : List Nat} {i : Nat} (h : i < v.length) : gv v i ∈ v := y40 h
theorem z7d {v : List Nat} {i : Nat} (h : i < v.length) : atD (.tup (x0e v)) (Int.ofNat i) = some (.int (Int.ofNat (gv v i))) := y72 (y6w h)
theorem z58 {v : List Nat} {i : Nat} (h : i < v.length) (x j : Nat) : gv (v.set i x) j = if j = i then x else gv v j := by
  unfold gv
  rw [List.getD_eq_getElem?_getD, List.getD_eq_getElem?_getD]
  by_cases e : j = i
  · subst e; rw [if_pos rfl, List.getElem?_set_self h]; rfl
  · rw [if_neg e, List.getElem?_set_ne (fun z => e z.symm)]
theorem z0j {u v : List Nat} (h : u.length = v.length) (k : ∀ i, i < u.length -> gv u i = gv v i) : u = v := by
  apply List.ext_getElem?
  intro i
  by_cases hi : i < u.length
  · rw [y6w hi, y6w (by omega), k i hi]
  · rw [List.getElem?_eq_none (by omega), List.getElem?_eq_none (by omega)]
structure Vn (n p : Nat) (v : List Nat) : Prop where
  len : v.length = p
  lt : ∀ x ∈ v, x < n
theorem Vn.gv {n p : Nat} {v : List Nat} (h : Vn n p v) {i : Nat} (hi : i < p) : gv v i < n := h.lt _ (z57 (by rw [h.len]; exact hi))
theorem Vn.set {n p : Nat} {v : List Nat} (h : Vn n p v) {i x : Nat} (hx : x < n) : Vn n p (v.set i x) := ⟨by rw [List.length_set]; exact h.len, fun y hy => by
  rcases List.mem_or_eq_of_mem_set hy with h' | h'
  · exact h.lt y h'
  · rw [h']; exact hx⟩
noncomputable def leV (f : Nat -> Nat -> Nat) (p : Nat) (u v : List Nat) : Prop := ∀ i, i < p -> f (gv u i) (gv v i) = gv v i
noncomputable abbrev ChS := Nat × (List Nat -> Nat)
noncomputable def doS (f : Nat -> Nat -> Nat) (v : List Nat) (s : ChS) : List Nat := v.set s.1 (f (gv v s.1) (s.2 v))
structure OkS (n p : Nat) (f : Nat -> Nat -> Nat) (s : ChS) : Prop where
  pl : s.1 < p
  lt : ∀ v, Vn n p v -> s.2 v < n
  mono : ∀ u v, Vn n p u -> Vn n p v -> leV f p u v -> f (s.2 u) (s.2 v) = s.2 v
noncomputable def ClS (f : Nat -> Nat -> Nat) (l : List ChS) (v : List Nat) : Prop := ∀ s ∈ l, f (s.2 v) (gv v s.1) = gv v s.1
namespace Lad
variable {n : Nat} {f : Nat -> Nat -> Nat} (L : Lad n f) {p : Nat}
include L
theorem leV_refl {v : List Nat} (h : Vn n p v) : leV f p v v := fun i hi => L.idem _ (h.gv hi)
theorem leV_trans {u v w : List Nat} (hu : Vn n p u) (hv : Vn n p v) (hw : Vn n p w) (a : leV f p u v) (b : leV f p v w) : leV f p u w := fun i hi => L.le_trans (hu.gv hi) (hv.gv hi) (hw.gv hi) (a i hi) (b i hi)
theorem leV_anti {u v : List Nat} (hu : Vn n p u) (hv : Vn n p v) (a : leV f p u v) (b : leV f p v u) : u = v :=
  z0j (hu.len.trans hv.len.symm) fun i hi => by
    rw [hu.len] at hi
    exact L.le_anti (hu.gv hi) (hv.gv hi) (a i hi) (b i hi)
theorem doS_V {v : List Nat} {s : ChS} (hs : OkS n p f s) (h : Vn n p v) : Vn n p (doS f v s) := h.set (L.cl _ _ (h.gv hs.pl) (hs.lt v h))
theorem doS_gv {v : List Nat} {s : ChS} (hs : OkS n p f s) (h : Vn n p v) (i : Nat) : gv (doS f v s) i = if i = s.1 then f (gv v s.1) (s.2 v) else gv v i := z58 (by rw [h.len]; exact hs.pl) _ _
theorem doS_up {v : List Nat} {s : ChS} (hs : OkS n p f s) (h : Vn n p v) : leV f p v (doS f v s) := fun i hi => by
  rw [L.doS_gv hs h]
  by_cases e : i = s.1
  · subst e; rw [if_pos rfl]; exact L.le_l (h.gv hi) (hs.lt v h)
  · rw [if_neg e]; exact L.idem _ (h.gv hi)
theorem doS_mono {u v : List Nat} {s : ChS} (hs : OkS n p f s) (hu : Vn n p u) (hv : Vn n p v) (a : leV f p u v) : leV f p (doS f u s) (doS f v s) := fun i hi => by
  rw [L.doS_gv hs hu, L.doS_gv hs hv]
  by_cases e : i = s.1
  · subst e
    rw [if_pos rfl, if_pos rfl]
    have h1 := hu.gv hs.pl
    have h2 := hs.lt u hu
    have h3 := hv.gv hs.pl
    have h4 := hs.lt v hv
    exact L.lub h1 h2 (L.cl _ _ h3 h4) (L.le_trans h1 h3 (L.cl _ _ h3 h4) (a _ hs.pl) (L.le_l h3 h4)) (L.le_trans h2 h4 (L.cl _ _ h3 h4) (hs.mono u v hu hv a) (L.le_r h3 h4))
  · rw [if_neg e, if_neg e]; exact a i hi
theorem doS_fix {v : List Nat} {s : ChS} (hs : OkS n p f s) (h : Vn n p v) : doS f v s = v ↔ f (s.2 v) (gv v s.1) = gv v s.1 := by
  constructor
  · intro e
    have := congrArg (fun u => gv u s.1) e
    rw [L.doS_gv hs h, if_pos rfl] at this
    rw [L.comm _ _ (hs.lt v h) (h.gv hs.pl)]
    exact this
  · intro e
    refine z0j (by unfold doS; rw [List.length_set]) fun i hi => ?_
    rw [L.doS_gv hs h]
    by_cases e' : i = s.1
    · subst e'; rw [if_pos rfl, L.comm _ _ (h.gv hs.pl) (hs.lt v h)]; exact e
    · rw [if_neg e']
theorem foldS_V : ∀ {l : List ChS} {v : List Nat}, (∀ s ∈ l, OkS n p f s) -> Vn n p v -> Vn n p (l.foldl (doS f) v)
  | [], v, _, h => h
  | s :: l, v, hs, h => foldS_V (l := l) (fun t m => hs t (List.mem_cons_of_mem _ m)) (L.doS_V (hs s List.mem_cons_self) h)
theorem foldS_up : ∀ {l : List ChS} {v : List Nat}, (∀ s ∈ l, OkS n p f s) -> Vn n p v -> leV f p v (l.foldl (doS f) v)
  | [], v, _, h => L.leV_refl h
  | s :: l, v, hs, h => by
    have h1 := L.doS_V (hs s List.mem_cons_self) h
    have hl : ∀ t ∈ l, OkS n p f t := fun t m => hs t (List.mem_cons_of_mem _ m)
    exact L.leV_trans h h1 (L.foldS_V (l := l) hl h1) (L.doS_up (hs s List.mem_cons_self) h) (foldS_up (l := l) hl h1)
theorem foldS_below {a : List Nat} (ha : Vn n p a) : ∀ {l : List ChS} {v : List Nat}, (∀ s ∈ l, OkS n p f s) -> Vn n p v -> ClS f l a -> leV f p v a -> leV f p (l.foldl (doS f) v) a
  | [], v, _, h, _, e => e
  | s :: l, v, hs, h, c, e => by
    have s0 := hs s List.mem_cons_self
    have h1 := L.doS_V s0 h
    have hl : ∀ t ∈ l, OkS n p f t := fun t m => hs t (List.mem_cons_of_mem _ m)
    refine foldS_below ha (l := l) hl h1 (fun t m => c t (List.mem_cons_of_mem _ m)) ?_
    have := L.doS_mono s0 h ha e
    rw [(L.doS_fix s0 ha).mpr (c s List.mem_cons_self)] at this
    exact this
theorem foldS_fix : ∀ {l : List ChS} {v : List Nat}, (∀ s ∈ l, OkS n p f s) -> Vn n p v -> (l.foldl (doS f) v = v ↔ ClS f l v)
  | [], v, _, h => ⟨fun _ _ m => (List.not_mem_nil m).elim, fun _ => rfl⟩
  | s :: l, v, hs, h => by
    have s0 := hs s List.mem_cons_self
    have h1 := L.doS_V s0 h
    have hl : ∀ t ∈ l, OkS n p f t := fun t m => hs t (List.mem_cons_of_mem _ m)
    constructor
    · intro e
      have e0 : l.foldl (doS f) (doS f v s) = v := e
      have up := L.foldS_up hl h1
      rw [e0] at up
      have e1 : doS f v s = v := L.leV_anti h1 h up (L.doS_up s0 h)
      rw [e1] at e0
      have c := (foldS_fix (l := l) hl h).mp e0
      intro t m
      rcases List.mem_cons.mp m with rfl | m
      · exact (L.doS_fix s0 h).mp e1
      · exact c t m
    · intro c
      show l.foldl (doS f) (doS f v s) = v
      rw [(L.doS_fix s0 h).mpr (c s List.mem_cons_self)]
      exact (foldS_fix (l := l) hl h).mpr fun t m => c t (List.mem_cons_of_mem _ m)
noncomputable def cnt (n : Nat) (f : Nat -> Nat -> Nat) (x : Nat) : Nat := ((List.range n).filter fun y => decide (f x y = y)).length
noncomputable def mu (n : Nat) (f : Nat -> Nat -> Nat) (v : List Nat) : Nat := (v.map (cnt n f)).sum
omit L in
theorem z6r (x : Nat) : cnt n f x <= n := by
  have := List.length_filter_le (fun y => decide (f x y = y)) (List.range n)
  rw [List.length_range] at this
  exact this
omit L in
theorem mu_le {v : List Nat} (h : Vn n p v) : mu n f v <= p * n := by
  have key : ∀ l : List Nat, (l.map (cnt n f)).sum <= l.length * n := by
    intro l
    induction l with
    | nil => simp
    | cons x l ih =>
      have := z6r (n := n) (f := f) x
      simp only [List.map_cons, List.sum_cons, List.length_cons, Nat.succ_mul]
      omega
  have := key v
  rw [h.len] at this
  exact this
omit L in
theorem x6g {q r : Nat -> Bool} {a : Nat} : ∀ {l : List Nat}, (∀ x ∈ l, r x = true -> q x = true) -> a ∈ l -> q a = true -> r a = false -> (l.filter r).length < (l.filter q).length
  | y :: l, h, ha, hq, hr => by
    have hl : ∀ x ∈ l, r x = true -> q x = true := fun x m => h x (List.mem_cons_of_mem _ m)
    have le : ∀ l : List Nat, (∀ x ∈ l, r x = true -> q x = true) -> (l.filter r).length <= (l.filter q).length := by
      intro l
      induction l with
      | nil => intro _; simp
      | cons z l ih =>
        intro h
        have i := ih fun x m => h x (List.mem_cons_of_mem _ m)
        by_cases hz : r z = true
        · rw [List.filter_cons_of_pos hz, List.filter_cons_of_pos (h z List.mem_cons_self hz)]
          simp only [List.length_cons]; omega
        · rw [List.filter_cons_of_neg hz]
          by_cases hz' : q z = true
          · rw [List.filter_cons_of_pos hz']; simp only [List.length_cons]; omega
          · rw [List.filter_cons_of_neg hz']; exact i
    by_cases e : y = a
    · subst e
      rw [List.filter_cons_of_neg (by rw [hr]; simp), List.filter_cons_of_pos hq]
      have := le l hl
      simp only [List.length_cons]; omega
    · have ha' : a ∈ l := by
        rcases List.mem_cons.mp ha with h' | h'
        · exact absurd h'.symm e
        · exact h'
      have i := x6g (l := l) hl ha' hq hr
      by_cases hz : r y = true
      · rw [List.filter_cons_of_pos hz, List.filter_cons_of_pos (h y List.mem_cons_self hz)]
        simp only [List.length_cons]; omega
      · rw [List.filter_cons_of_neg hz]
        by_cases hz' : q y = true
        · rw [List.filter_cons_of_pos hz']; simp only [List.length_cons]; omega
        · rw [List.filter_cons_of_neg hz']; exact i
theorem cnt_lt {x y : Nat} (hx : x < n) (hy : y < n) (h : f x y = y) (ne : x ≠ y) : cnt n f y < cnt n f x := by
  refine x6g (a := x) (fun k m hk => ?_) (List.mem_range.mpr hx) (decide_eq_true (L.idem x hx)) (decide_eq_false fun e => ne (L.le_anti hx hy h e))
  exact decide_eq_true (L.le_trans hx hy (List.mem_range.mp m) h (of_decide_eq_true hk))
theorem mu_lt {u v : List Nat} (hu : Vn n p u) (hv : Vn n p v) (a : leV f p u v) (ne : u ≠ v) : mu n f v < mu n f u := by
  have key : ∀ (u v : List Nat), u.length = v.length -> (∀ x ∈ u, x < n) -> (∀ x ∈ v, x < n) -> (∀ i, i < u.length -> f (gv u i) (gv v i) = gv v i) -> ((v.map (cnt n f)).sum <= (u.map (cnt n f)).sum) /\ (u ≠ v -> (v.map (cnt n f)).sum < (u.map (cnt n f)).sum) := by
    intro u
    induction u with
    | nil =>
      intro v hl _ _ _
      have : v = [] := List.length_eq_zero_iff.mp hl.symm
      subst this
      exact ⟨Nat.le_refl _, fun h => absurd rfl h⟩
    | cons x u ih =>
      intro v hl h1 h2 h3
      cases v with
      | nil => cases hl
      | cons y v =>
        have hl' : u.length = v.length := by simpa using hl
        obtain ⟨i1, i2⟩ := ih v hl' (fun z m => h1 z (List.mem_cons_of_mem _ m)) (fun z m => h2 z (List.mem_cons_of_mem _ m)) (fun i hi => h3 (i + 1) (by simpa using hi))
        have e0 : f x y = y := h3 0 (by simp)
        have hx := h1 x List.mem_cons_self
        have hy := h2 y List.mem_cons_self
        simp only [List.map_cons, List.sum_cons]
        by_cases e : x = y
        · subst e
          exact ⟨by omega, fun h => by have := i2 (fun z => h (by rw [z])); omega⟩
        · have := L.cnt_lt hx hy e0 e
          exact ⟨by omega, fun _ => by omega⟩
  exact (key u v (hu.len.trans hv.len.symm) hu.lt hv.lt (fun i hi => a i (by rw [<- hu.len]; exact hi))).2 ne
end Lad
end L3
namespace My
open PySem PySem.Spec PyProof.Rows L2 L3
noncomputable def top (i : Nat) : Stmt := PySem.Challenge.pw_ladderhall_k31_whole_any_order.main.body.getD i (.Pass ⟨0, 0, 0, 0⟩)
structure Bt (mg : Str -> Option Value) : Prop where
  m_ValueError : mg "ValueError" = none
  m_all : mg "all" = none
  m_bool : mg "bool" = none
  m_int : mg "int" = none
  m_isinstance : mg "isinstance" = none
  m_len : mg "len" = none
  m_list : mg "list" = none
  m_max : mg "max" = none
  m_range : mg "range" = none
  m_str : mg "str" = none
  m_tuple : mg "tuple" = none
structure Xt (K : PySem.W.Frag) (mg : Str -> Option Value) : Prop where
  u : y58 K mg "RiseError" ["NoStep"]
  x : ∃ C, XNm K mg "NoStep" C
  i_NoHouse : IsC K mg ["NoStep"] "NoHouse"
  i_NoMap : IsC K mg ["NoStep"] "NoMap"
  i_NoPlace : IsC K mg ["NoStep"] "NoPlace"
  i_NoRule : IsC K mg ["NoStep"] "NoRule"
  i_NoStep : IsC K mg ["NoStep"] "NoStep"
  i_TooGreat : IsC K mg ["NoStep"] "TooGreat"
section
variable {P : Program} {w : World} {K : PySem.W.Frag} {mg : Str -> Option Value} {base : Heap}
noncomputable def x95 : x1c := x0y (sIf (x3d (e2 dLt (x08 1) (x13 0))) (x3f (x1q 0 (x08 1))) (x71))
  (x0y (sIf (x3d (e2 dEq (x08 0) (x49 (x0h)))) (x3f (eC (.int 0))) (x71))
  (x3f (e2 x29 (e2 x8s (x1q 0 (e2 z0c (x08 1) (x13 0))) (eC (.int 31))) (x08 1))))
noncomputable def x3q : List D -> Option (D × Nat) := fnD 2 x95
theorem y29 : FnScope ["_law_script", "_law_k"] ["_law_script", "_law_k"] (x0d (top 26)) := ⟨rfl, rfl, rfl, by decide +kernel, rfl, by decide +kernel, by decide +kernel⟩
theorem y2w (B : Bt mg)  (a : At K mg "_law_cell" (top 26) ["_law_script", "_law_k"]) : Cal P w K mg base 1 "_law_cell" 2 x3q :=
  Cal.mkQ (k := 0) a y29 fun f cdv A outer s H E hr =>
    x09 (x2v (y3o (x02 (qv 1 rfl (Or.inl rfl))) (x0z B.m_len (qv 0 rfl (Or.inl rfl)))) (x0f (x0l (x0s (qv 0 rfl (Or.inl rfl)) (x02 (qv 1 rfl (Or.inl rfl)))))) (x24))
    (x09 (x2v (x7p hr (x02 (qv 0 rfl (Or.inl rfl))) (x1w (x03))) (x0f (x0l (x0b))) (x24))
    (x0f (x0l (x14 (x51 (x0s (qv 0 rfl (Or.inl rfl)) (x9t (x02 (qv 1 rfl (Or.inl rfl))) (x0z B.m_len (qv 0 rfl (Or.inl rfl))))) (x0b)) (x02 (qv 1 rfl (Or.inl rfl)))))))
noncomputable def x8z : x1c := x0y (x1n 3 (e2 z0c (e2 x8s (e2 x29 (x0k x3q 2 (x01 (x08 0) (x01 (x08 1) (x0h)))) (e2 x8s (eC (.int 6151)) (e2 x29 (x08 1) (eC (.int 1))))) (eC (.int 40692))) (eC (.int 2147483399))))
  (x3f (e2 z0c (e2 z0c (e2 x29 (e2 x8s (x08 3) (x08 3)) (e2 z4x (x08 3) (eC (.int 31)))) (eC (.int 2147483629))) (x08 2)))
noncomputable def x0a : List D -> Option (D × Nat) := fnD 4 x8z
theorem x7s : FnScope ["_law_script", "_law_k", "_law_many", "_law_drawn"] ["_law_script", "_law_k", "_law_many"] (x0d (top 27)) := ⟨rfl, rfl, rfl, by decide +kernel, rfl, by decide +kernel, by decide +kernel⟩
theorem y2u (B : Bt mg) (c__law_cell : Cal P w K mg base 1 "_law_cell" 2 x3q) (a : At K mg "_law_pick" (top 27) ["_law_script", "_law_k", "_law_many"]) : Cal P w K mg base 2 "_law_pick" 3 x0a :=
  Cal.mkQ (k := 1) a x7s fun f cdv A outer s H E hr =>
    x09 (x0j (i := 3) x7s.nd rfl (Or.inl rfl) (x9t (x51 (x14 (x0c c__law_cell hr (by decide) (x00 (x02 (qv 0 rfl (Or.inl rfl))) (x00 (x02 (qv 1 rfl (Or.inl rfl))) (x03) x05) x05)) (x51 (x0b) (x14 (x02 (qv 1 rfl (Or.inl rfl))) (x0b)))) (x0b)) (x0b)))
    (x0f (x0l (x9t (x9t (x14 (x51 (x02 (qv 3 rfl (Or.inl rfl))) (x02 (qv 3 rfl (Or.inl rfl)))) (y6r (x02 (qv 3 rfl (Or.inl rfl))) (x0b))) (x0b)) (x02 (qv 2 rfl (Or.inl rfl))))))
noncomputable def y1y : x1c := x3f (x3a 1 (x10 (x01 (x08 0) (x0h))) (x0o 1) (x2m) (x3a 1 (x10 (x01 (x08 0) (x0h))) (x0o 2) (x2m) (eB z6l (x01 (x08 1) (x01 (x08 2) (x0h)))) false) false)
noncomputable def x0w : List D -> Option (D × Nat) := fnD 1 y1y
theorem y0u : FnScope ["_law_many"] ["_law_many"] (x0d (top 28)) := ⟨rfl, rfl, rfl, by decide +kernel, rfl, by decide +kernel, by decide +kernel⟩
theorem y1s (B : Bt mg)  (a : At K mg "_law_chain" (top 28) ["_law_many"]) : Cal P w K mg base 1 "_law_chain" 1 x0w :=
  Cal.mkQ (k := 0) a y0u fun f cdv A outer s H E hr =>
    x0f (x0l (x3h (k := 1) (N' := ["_law_many", "_law_one"]) false rfl ⟨rfl, by decide +kernel, rfl, rfl, rfl⟩ (x0r B.m_range (x00 (x02 (qv 0 rfl (Or.inr (Or.inl rfl)))) (x03) x05)) (fun _ _ _ _ => x0m (i := 1) (show 1 <= 1 by decide) (show List.Nodup (["_law_many", "_law_one"] : List Str) by decide +kernel) rfl (Or.inr rfl) (Or.inl rfl)) (fun _ _ _ _ => x2l) (fun _ _ _ _ => x3h (k := 1) (N' := ["_law_many", "_law_one", "_law_other"]) false rfl ⟨rfl, by decide +kernel, rfl, rfl, rfl⟩ (x0r B.m_range (x00 (x02 (qv 0)) (x03) x05)) (fun _ _ _ _ => x0m (i := 2) (show 2 <= 2 by decide) (show List.Nodup (["_law_many", "_law_one", "_law_other"] : List Str) by decide +kernel) rfl (Or.inl rfl) (Or.inr rfl)) (fun _ _ _ _ => x2l) (fun _ _ _ _ => y6c rfl B.m_max PyProof.Rows.boot_max (x00 (x02 (qv 1)) (x00 (x02 (qv 2)) (x03) x05) x05)))))
noncomputable def x9k : x1c := x0y (x1n 2 (x13 1))
  (x0y (x1n 3 (x49 (x0h)))
  (x0y (x7i (x10 (x01 (e2 x8s (x13 0) (x08 2)) (x0h))) (x0o 4) (x0y (x1n 5 (x49 (x0h)))
  (x0y (x7i (x10 (x01 (e2 x8s (x13 0) (x08 2)) (x0h))) (x0o 6) (x0y (x1n 7 (eIx (x1q 0 (e2 z4x (x08 4) (x08 2))) (e2 z4x (x08 6) (x08 2))))
  (x34 (x7q 5 (x01 (e2 x29 (e2 x8s (x08 7) (x08 2)) (eIx (x1q 1 (e2 z0c (x08 4) (x08 2))) (e2 z0c (x08 6) (x08 2)))) (x0h))))))
  (x34 (x7q 3 (x01 (x08 5) (x0h)))))))
  (x3f (x08 3))))
noncomputable def x12 : List D -> Option (D × Nat) := fnD 8 x9k
theorem x1l : FnScope ["_law_one", "_law_other", "_law_many", "_law_made", "_law_here", "_law_row", "_law_there", "_law_first"] ["_law_one", "_law_other"] (x0d (top 29)) := ⟨rfl, rfl, rfl, by decide +kernel, rfl, by decide +kernel, by decide +kernel⟩
theorem x9d (B : Bt mg)  (a : At K mg "_law_couples" (top 29) ["_law_one", "_law_other"]) : Cal P w K mg base 1 "_law_couples" 2 x12 :=
  Cal.mkQ (k := 0) a x1l fun f cdv A outer s H E hr =>
    x09 (x0j (i := 2) x1l.nd rfl (Or.inl rfl) (x0z B.m_len (qv 1 rfl (Or.inl rfl))))
    (x09 (x0j (i := 3) x1l.nd rfl (Or.inl rfl) (x1w (x03)))
    (x09 (x2n PassesOwn.never rfl (x0r B.m_range (x00 (x51 (x0z B.m_len (qv 0 rfl (Or.inl rfl))) (x02 (qv 2 rfl (Or.inl rfl)))) (x03) x0v)) (x0m (i := 4) (show 0 <= 4 by decide) x1l.nd rfl (Or.inl rfl)) (x09 (x0j (i := 5) x1l.nd rfl (Or.inl rfl) (x1w (x03)))
    (x09 (x2n PassesOwn.never rfl (x0r B.m_range (x00 (x51 (x0z B.m_len (qv 0 rfl (Or.inl rfl))) (x02 (qv 2 rfl (Or.inl rfl)))) (x03) x0v)) (x0m (i := 6) (show 0 <= 6 by decide) x1l.nd rfl (Or.inl rfl)) (x09 (x0j (i := 7) x1l.nd rfl (Or.inl rfl) (x41 (x0s (qv 0 rfl (Or.inl rfl)) (y6r (x02 (qv 4 rfl (Or.inl rfl))) (x02 (qv 2 rfl (Or.inl rfl))))) (y6r (x02 (qv 6 rfl (Or.inl rfl))) (x02 (qv 2 rfl (Or.inl rfl))))))
    (x0f (x2c (x28 (qv 5 rfl (Or.inl rfl)) (x00 (x14 (x51 (x02 (qv 7 rfl (Or.inl rfl))) (x02 (qv 2 rfl (Or.inl rfl)))) (x41 (x0s (qv 1 rfl (Or.inl rfl)) (x9t (x02 (qv 4 rfl (Or.inl rfl))) (x02 (qv 2 rfl (Or.inl rfl))))) (x9t (x02 (qv 6 rfl (Or.inl rfl))) (x02 (qv 2 rfl (Or.inl rfl)))))) (x03) x0v))))))
    (x0f (x2c (x28 (qv 3 rfl (Or.inl rfl)) (x00 (x02 (qv 5 rfl (Or.inl rfl))) (x03) x05)))))))
    (x0f (x0l (x02 (qv 3 rfl (Or.inl rfl)))))))
noncomputable def x66 : x1c := x0y (x1n 1 (x49 (x0h)))
  (x0y (x7i (x10 (x01 (e2 x29 (x08 0) (eC (.int 2))) (x0h))) (x0o 2) (x0y (x1n 3 (x49 (x0h)))
  (x0y (x7i (x10 (x01 (e2 x29 (x08 0) (eC (.int 2))) (x0h))) (x0o 4) (x34 (x7q 3 (x01 (eIf (y7c (x3d (e2 dIn (eC (.int 0)) (x5e (x01 (x08 2) (x01 (x08 4) (x0h)))))) (x3d (e2 dEq (x08 2) (x08 4)))) (eB z6l (x01 (x08 2) (x01 (x08 4) (x0h)))) (e2 x29 (x08 0) (eC (.int 1)))) (x0h)))))
  (x34 (x7q 1 (x01 (x08 3) (x0h)))))))
  (x3f (x08 1)))
noncomputable def x0t : List D -> Option (D × Nat) := fnD 5 x66
theorem x1f : FnScope ["_law_many", "_law_made", "_law_one", "_law_row", "_law_other"] ["_law_many"] (x0d (top 30)) := ⟨rfl, rfl, rfl, by decide +kernel, rfl, by decide +kernel, by decide +kernel⟩
theorem x62 (B : Bt mg)  (a : At K mg "_law_side_by_side" (top 30) ["_law_many"]) : Cal P w K mg base 1 "_law_side_by_side" 1 x0t :=
  Cal.mkQ (k := 0) a x1f fun f cdv A outer s H E hr =>
    x09 (x0j (i := 1) x1f.nd rfl (Or.inl rfl) (x1w (x03)))
    (x09 (x2n PassesOwn.never rfl (x0r B.m_range (x00 (x14 (x02 (qv 0 rfl (Or.inl rfl))) (x0b)) (x03) x0v)) (x0m (i := 2) (show 0 <= 2 by decide) x1f.nd rfl (Or.inl rfl)) (x09 (x0j (i := 3) x1f.nd rfl (Or.inl rfl) (x1w (x03)))
    (x09 (x2n PassesOwn.never rfl (x0r B.m_range (x00 (x14 (x02 (qv 0 rfl (Or.inl rfl))) (x0b)) (x03) x0v)) (x0m (i := 4) (show 0 <= 4 by decide) x1f.nd rfl (Or.inl rfl)) (x0f (x2c (x28 (qv 3 rfl (Or.inl rfl)) (x00 (y8q (y7m (y28 (z5h hr (x0b) (x2u (x00 (x02 (qv 2 rfl (Or.inl rfl))) (x00 (x02 (qv 4 rfl (Or.inl rfl))) (x03) x05) x05))) (y0h (x7p hr (x02 (qv 2 rfl (Or.inl rfl))) (x02 (qv 4 rfl (Or.inl rfl))))))) (y6c rfl B.m_max PyProof.Rows.boot_max (x00 (x02 (qv 2 rfl (Or.inl rfl))) (x00 (x02 (qv 4 rfl (Or.inl rfl))) (x03) x05) x05)) (x14 (x02 (qv 0 rfl (Or.inl rfl))) (x0b))) (x03) y90)))))
    (x0f (x2c (x28 (qv 1 rfl (Or.inl rfl)) (x00 (x02 (qv 3 rfl (Or.inl rfl))) (x03) x05)))))))
    (x0f (x0l (x02 (qv 1 rfl (Or.inl rfl))))))
noncomputable def x8w : x1c := x0y (x1n 2 (x0k x0a 3 (x01 (x08 0) (x01 (x08 1) (x01 (eC (.int 9)) (x0h))))))
  (x0y (sIf (x3d (e2 dLt (x08 2) (eC (.int 3)))) (x3f (x0k x0w 1 (x01 (e2 x29 (eC (.int 1)) (x0k x0a 3 (x01 (x08 0) (x01 (e2 x29 (x08 1) (eC (.int 1))) (x01 (eC (.int 5)) (x0h)))))) (x0h)))) (x71))
  (x0y (sIf (x3d (e2 dLt (x08 2) (eC (.int 5)))) (x3f (x0k x12 2 (x01 (x0k x0w 1 (x01 (eC (.int 2)) (x0h))) (x01 (x0k x0w 1 (x01 (eIx (x49 (x01 (eC (.int 2)) (x01 (eC (.int 3)) (x01 (eC (.int 4)) (x0h))))) (x0k x0a 3 (x01 (x08 0) (x01 (e2 x29 (x08 1) (eC (.int 1))) (x01 (eC (.int 3)) (x0h)))))) (x0h))) (x0h))))) (x71))
  (x0y (sIf (x3d (e2 dLt (x08 2) (eC (.int 7)))) (x3f (x0k x0t 1 (x01 (x0k x0a 3 (x01 (x08 0) (x01 (e2 x29 (x08 1) (eC (.int 1))) (x01 (eC (.int 5)) (x0h))))) (x0h)))) (x71))
  (x0y (sIf (x3d (e2 dEq (x08 2) (eC (.int 7)))) (x3f (x0k x12 2 (x01 (x0k x0w 1 (x01 (eC (.int 2)) (x0h))) (x01 (x0k x12 2 (x01 (x0k x0w 1 (x01 (eC (.int 2)) (x0h))) (x01 (x0k x0w 1 (x01 (eC (.int 2)) (x0h))) (x0h)))) (x0h))))) (x71))
  (x0y (x1n 3 (x49 (x01 (x49 (x01 (eC (.int 0)) (x01 (eC (.int 1)) (x01 (eC (.int 2)) (x01 (eC (.int 3)) (x01 (eC (.int 4)) (x0h))))))) (x01 (x49 (x01 (eC (.int 1)) (x01 (eC (.int 1)) (x01 (eC (.int 2)) (x01 (eC (.int 4)) (x01 (eC (.int 4)) (x0h))))))) (x01 (x49 (x01 (eC (.int 2)) (x01 (eC (.int 2)) (x01 (eC (.int 2)) (x01 (eC (.int 4)) (x01 (eC (.int 4)) (x0h))))))) (x01 (x49 (x01 (eC (.int 3)) (x01 (eC (.int 4)) (x01 (eC (.int 4)) (x01 (eC (.int 3)) (x01 (eC (.int 4)) (x0h))))))) (x01 (x49 (x01 (eC (.int 4)) (x01 (eC (.int 4)) (x01 (eC (.int 4)) (x01 (eC (.int 4)) (x01 (eC (.int 4)) (x0h))))))) (x0h))))))))
  (x3f (x08 3)))))))
noncomputable def x3o : List D -> Option (D × Nat) := fnD 4 x8w
theorem x5f : FnScope ["_law_script", "_law_at", "_law_kind", "_law_rows"] ["_law_script", "_law_at"] (x0d (top 31)) := ⟨rfl, rfl, rfl, by decide +kernel, rfl, by decide +kernel, by decide +kernel⟩
theorem y2s (B : Bt mg) (c__law_pick : Cal P w K mg base 2 "_law_pick" 3 x0a) (c__law_chain : Cal P w K mg base 1 "_law_chain" 1 x0w) (c__law_couples : Cal P w K mg base 1 "_law_couples" 2 x12) (c__law_side_by_side : Cal P w K mg base 1 "_law_side_by_side" 1 x0t) (a : At K mg "_law_base" (top 31) ["_law_script", "_law_at"]) : Cal P w K mg base 3 "_law_base" 2 x3o :=
  Cal.mkQ (k := 2) a x5f fun f cdv A outer s H E hr =>
    x09 (x0j (i := 2) x5f.nd rfl (Or.inl rfl) (x0c c__law_pick hr (by decide) (x00 (x02 (qv 0 rfl (Or.inl rfl))) (x00 (x02 (qv 1 rfl (Or.inl rfl))) (x00 (x0b) (x03) x06) x05) x05)))
    (x09 (x2v (y3o (x02 (qv 2 rfl (Or.inl rfl))) (x0b)) (x0f (x0l (x0c c__law_chain hr (by decide) (x00 (x14 (x0b) (x0c c__law_pick hr (by decide) (x00 (x02 (qv 0 rfl (Or.inl rfl))) (x00 (x14 (x02 (qv 1 rfl (Or.inl rfl))) (x0b)) (x00 (x0b) (x03) x06) x0v) x05))) (x03) x0v)))) (x24))
    (x09 (x2v (y3o (x02 (qv 2 rfl (Or.inl rfl))) (x0b)) (x0f (x0l (x0c c__law_couples hr (by decide) (x00 (x0c c__law_chain hr (by decide) (x00 (x0b) (x03) x06)) (x00 (x0c c__law_chain hr (by decide) (x00 (x41 (x1w (x00 (x0b) (x00 (x0b) (x00 (x0b) (x03) x06) x06) x06)) (x0c c__law_pick hr (by decide) (x00 (x02 (qv 0 rfl (Or.inl rfl))) (x00 (x14 (x02 (qv 1 rfl (Or.inl rfl))) (x0b)) (x00 (x0b) (x03) x06) x0v) x05))) (x03) x0u)) (x03) x0i) x0i)))) (x24))
    (x09 (x2v (y3o (x02 (qv 2 rfl (Or.inl rfl))) (x0b)) (x0f (x0l (x0c c__law_side_by_side hr (by decide) (x00 (x0c c__law_pick hr (by decide) (x00 (x02 (qv 0 rfl (Or.inl rfl))) (x00 (x14 (x02 (qv 1 rfl (Or.inl rfl))) (x0b)) (x00 (x0b) (x03) x06) x0v) x05)) (x03) x0i)))) (x24))
    (x09 (x2v (x7p hr (x02 (qv 2 rfl (Or.inl rfl))) (x0b)) (x0f (x0l (x0c c__law_couples hr (by decide) (x00 (x0c c__law_chain hr (by decide) (x00 (x0b) (x03) x06)) (x00 (x0c c__law_couples hr (by decide) (x00 (x0c c__law_chain hr (by decide) (x00 (x0b) (x03) x06)) (x00 (x0c c__law_chain hr (by decide) (x00 (x0b) (x03) x06)) (x03) x0i) x0i)) (x03) x0i) x0i)))) (x24))
    (x09 (x0j (i := 3) x5f.nd rfl (Or.inl rfl) (x1w (x00 (x1w (x00 (x0b) (x00 (x0b) (x00 (x0b) (x00 (x0b) (x00 (x0b) (x03) x06) x06) x06) x06) x06)) (x00 (x1w (x00 (x0b) (x00 (x0b) (x00 (x0b) (x00 (x0b) (x00 (x0b) (x03) x06) x06) x06) x06) x06)) (x00 (x1w (x00 (x0b) (x00 (x0b) (x00 (x0b) (x00 (x0b) (x00 (x0b) (x03) x06) x06) x06) x06) x06)) (x00 (x1w (x00 (x0b) (x00 (x0b) (x00 (x0b) (x00 (x0b) (x00 (x0b) (x03) x06) x06) x06) x06) x06)) (x00 (x1w (x00 (x0b) (x00 (x0b) (x00 (x0b) (x00 (x0b) (x00 (x0b) (x03) x06) x06) x06) x06) x06)) (x03) x94) x94) x94) x94) x94)))
    (x0f (x0l (x02 (qv 3 rfl (Or.inl rfl))))))))))
noncomputable def x6n : x1c := x0y (x1n 2 (x0k x3o 2 (x01 (x08 0) (x01 (x08 1) (x0h)))))
  (x0y (x1n 3 (x6e (x01 (x13 2) (x0h))))
  (x0y (x1n 4 (x3a 1 (x10 (x01 (x13 2) (x0h))) (x0o 8) (x2m) (y75 3 (x01 (x0k x0a 3 (x01 (x08 0) (x01 (e2 x29 (e2 x29 (x08 1) (eC (.int 2))) (x08 8)) (x01 (x13 3) (x0h))))) (x0h))) false))
  (x0y (x1n 5 (x3a 1 (x9l (x08 2)) (x0o 8) (x2m) (y2x (x49 (x01 (eC (.int 0)) (x0h))) (x13 2)) true))
  (x0y (x7i (x10 (x01 (x13 2) (x0h))) (x0o 6) (x7i (x10 (x01 (x13 2) (x0h))) (x0o 7) (y5d 5 (qIx 4 (z00 6)) (qIx 4 (z00 7)) (x1q 4 (eIx (x1q 2 (x08 6)) (x08 7))))))
  (x3f (x3i (x01 (x3a 1 (x9l (x08 5)) (x0o 8) (x2m) (x3i (x01 (x08 8) (x0h))) false) (x0h))))))))
noncomputable def x32 : List D -> Option (D × Nat) := fnD 8 x6n
theorem x1p : FnScope ["_law_script", "_law_at", "_law_base_here", "_law_left", "_law_name", "_law_made", "_law_one", "_law_other"] ["_law_script", "_law_at"] (x0d (top 32)) := ⟨rfl, rfl, rfl, by decide +kernel, rfl, by decide +kernel, by decide +kernel⟩
theorem y0a (B : Bt mg) (c__law_base : Cal P w K mg base 3 "_law_base" 2 x3o) (c__law_pick : Cal P w K mg base 2 "_law_pick" 3 x0a) (a : At K mg "_law_ladder" (top 32) ["_law_script", "_law_at"]) : Cal P w K mg base 4 "_law_ladder" 2 x32 :=
  Cal.mkQ (k := 3) a x1p fun f cdv A outer s H E hr =>
    x09 (x0j (i := 2) x1p.nd rfl (Or.inr rfl) (x0c c__law_base hr (by decide) (x00 (x02 (qv 0 rfl (Or.inr (Or.inl rfl)))) (x00 (x02 (qv 1 rfl (Or.inr (Or.inl rfl)))) (x03) x05) x05)))
    (x09 (x0j (i := 3) x1p.nd rfl (Or.inr rfl) (y0b rfl B.m_list PyProof.Rows.boot_list B.m_range (x00 (x0z B.m_len (qv 2 rfl (Or.inr (Or.inl rfl)))) (x03) x0i)))
    (x09 (y0n (i := 4) (k := 1) (N' := ["_law_script", "_law_at", "_law_base_here", "_law_left", "_law_name", "_law_made", "_law_one", "_law_other", "_law_k"]) false x1p.nd rfl (Or.inl rfl) rfl rfl ⟨rfl, by decide +kernel, rfl, rfl, rfl⟩ (x0r B.m_range (x00 (x0z B.m_len (qv 2 rfl (Or.inr (Or.inl rfl)))) (x03) x0i)) (fun _ _ _ _ => x0m (i := 8) (show 8 <= 8 by decide) (show List.Nodup (["_law_script", "_law_at", "_law_base_here", "_law_left", "_law_name", "_law_made", "_law_one", "_law_other", "_law_k"] : List Str) by decide +kernel) rfl (Or.inl rfl) (Or.inr rfl)) (fun _ _ _ _ => x2l) (fun _ _ _ _ => z09 (qv 3) (x00 (x0c c__law_pick hr (by decide) (x00 (x02 (qv 0)) (x00 (x14 (x14 (x02 (qv 1)) (x0b)) (x02 (qv 8))) (x00 (x0z B.m_len (qv 3)) (x03) x0i) x0v) x05)) (x03) x0i)))
    (x09 (y0n (i := 5) (k := 1) (N' := ["_law_script", "_law_at", "_law_base_here", "_law_left", "_law_name", "_law_made", "_law_one", "_law_other", "_law_row"]) true x1p.nd rfl (Or.inl rfl) rfl rfl ⟨rfl, by decide +kernel, rfl, rfl, rfl⟩ (x5m (x02 (qv 2 rfl (Or.inr (Or.inl rfl))))) (fun _ _ _ _ => x0m (i := 8) (show 8 <= 8 by decide) (show List.Nodup (["_law_script", "_law_at", "_law_base_here", "_law_left", "_law_name", "_law_made", "_law_one", "_law_other", "_law_row"] : List Str) by decide +kernel) rfl (Or.inl rfl) (Or.inr rfl)) (fun _ _ _ _ => x2l) (fun _ _ _ _ => y5w (x1w (x00 (x0b) (x03) x06)) (x0z B.m_len (qv 2))))
    (x09 (x2n PassesOwn.never rfl (x0r B.m_range (x00 (x0z B.m_len (qv 2 rfl (Or.inr (Or.inl rfl)))) (x03) x0i)) (x0m (i := 6) (show 0 <= 6 by decide) x1p.nd rfl (Or.inl rfl)) (x0f (x2n PassesOwn.never rfl (x0r B.m_range (x00 (x0z B.m_len (qv 2 rfl (Or.inr (Or.inl rfl)))) (x03) x0i)) (x0m (i := 7) (show 0 <= 7 by decide) x1p.nd rfl (Or.inl rfl)) (x0f (y91 (qv 5 rfl (Or.inl rfl)) (z6j (qv 4 rfl (Or.inl rfl)) (z01 (qv 6 rfl (Or.inl rfl)))) (z6j (qv 4 rfl (Or.inl rfl)) (z01 (qv 7 rfl (Or.inl rfl)))) (x0s (qv 4 rfl (Or.inl rfl)) (x41 (x0s (qv 2 rfl (Or.inr (Or.inl rfl))) (x02 (qv 6 rfl (Or.inl rfl)))) (x02 (qv 7 rfl (Or.inl rfl))))))))))
    (x0f (x0l (x40 B.m_tuple PyProof.Rows.boot_tuple (x00 (x3h (k := 1) (N' := ["_law_script", "_law_at", "_law_base_here", "_law_left", "_law_name", "_law_made", "_law_one", "_law_other", "_law_row"]) false rfl ⟨rfl, by decide +kernel, rfl, rfl, rfl⟩ (x5m (x02 (qv 5 rfl (Or.inl rfl)))) (fun _ _ _ _ => x0m (i := 8) (show 8 <= 8 by decide) (show List.Nodup (["_law_script", "_law_at", "_law_base_here", "_law_left", "_law_name", "_law_made", "_law_one", "_law_other", "_law_row"] : List Str) by decide +kernel) rfl (Or.inl rfl) (Or.inr rfl)) (fun _ _ _ _ => x2l) (fun _ _ _ _ => x40 B.m_tuple PyProof.Rows.boot_tuple (x00 (x02 (qv 8)) (x03) x05))) (x03) x3r))))))))
noncomputable def y06 : x1c := x3f (eIx (x3a 1 (x10 (x01 (x13 0) (x0h))) (x0o 1) (x3d (e2 dEq (x7f (x01 (x1q 0 (x08 1)) (x0h))) (x6e (x01 (x13 0) (x0h))))) (x08 1) false) (eC (.int 0)))
noncomputable def x1r : List D -> Option (D × Nat) := fnD 1 y06
theorem y2z : FnScope ["_law_ladder_here"] ["_law_ladder_here"] (x0d (top 33)) := ⟨rfl, rfl, rfl, by decide +kernel, rfl, by decide +kernel, by decide +kernel⟩
theorem y5b (B : Bt mg)  (a : At K mg "_law_low" (top 33) ["_law_ladder_here"]) : Cal P w K mg base 1 "_law_low" 1 x1r :=
  Cal.mkQ (k := 0) a y2z fun f cdv A outer s H E hr =>
    x0f (x0l (x41 (x3h (k := 1) (N' := ["_law_ladder_here", "_law_worth"]) false rfl ⟨rfl, by decide +kernel, rfl, rfl, rfl⟩ (x0r B.m_range (x00 (x0z B.m_len (qv 0 rfl (Or.inr (Or.inl rfl)))) (x03) x0i)) (fun _ _ _ _ => x0m (i := 1) (show 1 <= 1 by decide) (show List.Nodup (["_law_ladder_here", "_law_worth"] : List Str) by decide +kernel) rfl (Or.inl rfl) (Or.inr rfl)) (fun _ _ _ _ => y4g (x7p hr (y6d B.m_list PyProof.Rows.boot_list (x00 (x0s (qv 0) (x02 (qv 1))) (x03) x0u)) (y0b rfl B.m_list PyProof.Rows.boot_list B.m_range (x00 (x0z B.m_len (qv 0)) (x03) x0i)))) (fun _ _ _ _ => x02 (qv 1))) (x0b)))
noncomputable def x8b : x1c := x0y (x1n 2 (x0k x1r 1 (x01 (x08 0) (x0h))))
  (x0y (x7i (x9l (x08 1)) (x0o 3) (x1n 2 (eIx (x1q 0 (x08 2)) (x08 3))))
  (x3f (x08 2)))
noncomputable def x2q : List D -> Option (D × Nat) := fnD 4 x8b
theorem x3z : FnScope ["_law_ladder_here", "_law_worths", "_law_here", "_law_worth"] ["_law_ladder_here", "_law_worths"] (x0d (top 34)) := ⟨rfl, rfl, rfl, by decide +kernel, rfl, by decide +kernel, by decide +kernel⟩
theorem y39 (B : Bt mg) (c__law_low : Cal P w K mg base 1 "_law_low" 1 x1r) (a : At K mg "_law_join" (top 34) ["_law_ladder_here", "_law_worths"]) : Cal P w K mg base 2 "_law_join" 2 x2q :=
  Cal.mkQ (k := 1) a x3z fun f cdv A outer s H E hr =>
    x09 (x0j (i := 2) x3z.nd rfl (Or.inl rfl) (x0c c__law_low hr (by decide) (x00 (x02 (qv 0 rfl (Or.inl rfl))) (x03) x05)))
    (x09 (x2n PassesOwn.never rfl (x5m (x02 (qv 1 rfl (Or.inl rfl)))) (x0m (i := 3) (show 0 <= 3 by decide) x3z.nd rfl (Or.inl rfl)) (x0f (x0j (i := 2) x3z.nd rfl (Or.inl rfl) (x41 (x0s (qv 0 rfl (Or.inl rfl)) (x02 (qv 2 rfl (Or.inl rfl)))) (x02 (qv 3 rfl (Or.inl rfl)))))))
    (x0f (x0l (x02 (qv 2 rfl (Or.inl rfl))))))
noncomputable def x7m : x1c := x3f (x3a 1 (x10 (x01 (x13 0) (x0h))) (x0o 2) (x3d (e2 dEq (eIx (x1q 0 (x08 2)) (x08 1)) (x08 1))) (x08 2) false)
noncomputable def x1z : List D -> Option (D × Nat) := fnD 2 x7m
theorem y0o : FnScope ["_law_ladder_here", "_law_worth"] ["_law_ladder_here", "_law_worth"] (x0d (top 35)) := ⟨rfl, rfl, rfl, by decide +kernel, rfl, by decide +kernel, by decide +kernel⟩
theorem y1r (B : Bt mg)  (a : At K mg "_law_under" (top 35) ["_law_ladder_here", "_law_worth"]) : Cal P w K mg base 1 "_law_under" 2 x1z :=
  Cal.mkQ (k := 0) a y0o fun f cdv A outer s H E hr =>
    x0f (x0l (x3h (k := 1) (N' := ["_law_ladder_here", "_law_worth", "_law_one"]) false rfl ⟨rfl, by decide +kernel, rfl, rfl, rfl⟩ (x0r B.m_range (x00 (x0z B.m_len (qv 0 rfl (Or.inr (Or.inl rfl)))) (x03) x0i)) (fun _ _ _ _ => x0m (i := 2) (show 2 <= 2 by decide) (show List.Nodup (["_law_ladder_here", "_law_worth", "_law_one"] : List Str) by decide +kernel) rfl (Or.inl rfl) (Or.inr rfl)) (fun _ _ _ _ => y4g (x7p hr (x41 (x0s (qv 0) (x02 (qv 2))) (x02 (qv 1))) (x02 (qv 1)))) (fun _ _ _ _ => x02 (qv 2))))
noncomputable def x96 : x1c := x0y (x1n 3 (x0k x1r 1 (x01 (x08 2) (x0h))))
  (x0y (x1n 4 (x49 (x0h)))
  (x0y (x7i (x10 (x01 (x13 2) (x0h))) (x0o 5) (x34 (x7q 4 (x01 (eIx (x49 (x01 (x08 3) (x01 (x08 5) (x01 (x0k x0a 3 (x01 (x08 0) (x01 (e2 x29 (x08 1) (x08 5)) (x01 (x13 2) (x0h))))) (x0h))))) (x0k x0a 3 (x01 (x08 0) (x01 (e2 x29 (e2 x29 (x08 1) (eC (.int 8))) (x08 5)) (x01 (eC (.int 3)) (x0h)))))) (x0h)))))
  (x0y (x1n 6 (x49 (x0h)))
  (x0y (x7i (x10 (x01 (x13 2) (x0h))) (x0o 5) (x34 (x7q 6 (x01 (x0k x2q 2 (x01 (x08 2) (x01 (x3a 1 (x9l (x0k x1z 2 (x01 (x08 2) (x01 (x08 5) (x0h))))) (x0o 7) (x2m) (x1q 4 (x08 7)) false) (x0h)))) (x0h)))))
  (x3f (x3i (x01 (x08 6) (x0h))))))))
noncomputable def x2g : List D -> Option (D × Nat) := fnD 7 x96
theorem x2t : FnScope ["_law_script", "_law_at", "_law_ladder_here", "_law_low_here", "_law_drawn", "_law_worth", "_law_made"] ["_law_script", "_law_at", "_law_ladder_here"] (x0d (top 36)) := ⟨rfl, rfl, rfl, by decide +kernel, rfl, by decide +kernel, by decide +kernel⟩
theorem y2t (B : Bt mg) (c__law_low : Cal P w K mg base 1 "_law_low" 1 x1r) (c__law_pick : Cal P w K mg base 2 "_law_pick" 3 x0a) (c__law_join : Cal P w K mg base 2 "_law_join" 2 x2q) (c__law_under : Cal P w K mg base 1 "_law_under" 2 x1z) (a : At K mg "_law_rule" (top 36) ["_law_script", "_law_at", "_law_ladder_here"]) : Cal P w K mg base 3 "_law_rule" 3 x2g :=
  Cal.mkQ (k := 2) a x2t fun f cdv A outer s H E hr =>
    x09 (x0j (i := 3) x2t.nd rfl (Or.inl rfl) (x0c c__law_low hr (by decide) (x00 (x02 (qv 2 rfl (Or.inl rfl))) (x03) x05)))
    (x09 (x0j (i := 4) x2t.nd rfl (Or.inr rfl) (x1w (x03)))
    (x09 (x2n PassesOwn.never rfl (x0r B.m_range (x00 (x0z B.m_len (qv 2 rfl (Or.inl rfl))) (x03) x0i)) (x0m (i := 5) (show 0 <= 5 by decide) x2t.nd rfl (Or.inl rfl)) (x0f (x2c (x28 (qv 4 rfl (Or.inr (Or.inl rfl))) (x00 (x41 (x1w (x00 (x02 (qv 3 rfl (Or.inl rfl))) (x00 (x02 (qv 5 rfl (Or.inl rfl))) (x00 (x0c c__law_pick hr (by decide) (x00 (x02 (qv 0 rfl (Or.inl rfl))) (x00 (x14 (x02 (qv 1 rfl (Or.inl rfl))) (x02 (qv 5 rfl (Or.inl rfl)))) (x00 (x0z B.m_len (qv 2 rfl (Or.inl rfl))) (x03) x0i) x0v) x05)) (x03) x0i) x05) x05)) (x0c c__law_pick hr (by decide) (x00 (x02 (qv 0 rfl (Or.inl rfl))) (x00 (x14 (x14 (x02 (qv 1 rfl (Or.inl rfl))) (x0b)) (x02 (qv 5 rfl (Or.inl rfl)))) (x00 (x0b) (x03) x06) x0v) x05))) (x03) x0u)))))
    (x09 (x0j (i := 6) x2t.nd rfl (Or.inl rfl) (x1w (x03)))
    (x09 (x2n PassesOwn.never rfl (x0r B.m_range (x00 (x0z B.m_len (qv 2 rfl (Or.inl rfl))) (x03) x0i)) (x0m (i := 5) (show 0 <= 5 by decide) x2t.nd rfl (Or.inl rfl)) (x0f (x2c (x28 (qv 6 rfl (Or.inl rfl)) (x00 (x0c c__law_join hr (by decide) (x00 (x02 (qv 2 rfl (Or.inl rfl))) (x00 (x3h (k := 1) (N' := ["_law_script", "_law_at", "_law_ladder_here", "_law_low_here", "_law_drawn", "_law_worth", "_law_made", "_law_one"]) false rfl ⟨rfl, by decide +kernel, rfl, rfl, rfl⟩ (x5m (x0c c__law_under hr (by decide) (x00 (x02 (qv 2 rfl (Or.inl rfl))) (x00 (x02 (qv 5 rfl (Or.inl rfl))) (x03) x05) x05))) (fun _ _ _ _ => x0m (i := 7) (show 7 <= 7 by decide) (show List.Nodup (["_law_script", "_law_at", "_law_ladder_here", "_law_low_here", "_law_drawn", "_law_worth", "_law_made", "_law_one"] : List Str) by decide +kernel) rfl (Or.inl rfl) (Or.inr rfl)) (fun _ _ _ _ => x2l) (fun _ _ _ _ => x0s (qv 4) (x02 (qv 7)))) (x03) x3r) x05)) (x03) x0i)))))
    (x0f (x0l (x40 B.m_tuple PyProof.Rows.boot_tuple (x00 (x02 (qv 6 rfl (Or.inl rfl))) (x03) x05))))))))
noncomputable def x9f : x1c := x0y (x7i (x10 (x01 (x13 0) (x0h))) (x0o 2) (x7i (x10 (x01 (x08 2) (x0h))) (x0o 3) (x0y (x1n 4 (eIx (x1q 0 (x1q 1 (x08 2))) (x1q 1 (x08 3))))
  (sIf (x3d (e2 dNe (x1q 1 (eIx (x1q 0 (x08 2)) (x08 3))) (x08 4))) (x3f (eC (.bl false))) (x71)))))
  (x3f (eC (.bl true)))
noncomputable def x42 : List D -> Option (D × Nat) := fnD 5 x9f
theorem x31 : FnScope ["_law_ladder_here", "_law_rule_here", "_law_one", "_law_other", "_law_due"] ["_law_ladder_here", "_law_rule_here"] (x0d (top 37)) := ⟨rfl, rfl, rfl, by decide +kernel, rfl, by decide +kernel, by decide +kernel⟩
theorem x9j (B : Bt mg)  (a : At K mg "_law_spreads" (top 37) ["_law_ladder_here", "_law_rule_here"]) : Cal P w K mg base 1 "_law_spreads" 2 x42 :=
  Cal.mkQ (k := 0) a x31 fun f cdv A outer s H E hr =>
    x09 (x2n PassesOwn.never rfl (x0r B.m_range (x00 (x0z B.m_len (qv 0 rfl (Or.inl rfl))) (x03) x0i)) (x0m (i := 2) (show 0 <= 2 by decide) x31.nd rfl (Or.inl rfl)) (x0f (x2n PassesOwn.never rfl (x0r B.m_range (x00 (x02 (qv 2 rfl (Or.inl rfl))) (x03) x05)) (x0m (i := 3) (show 0 <= 3 by decide) x31.nd rfl (Or.inl rfl)) (x09 (x0j (i := 4) x31.nd rfl (Or.inl rfl) (x41 (x0s (qv 0 rfl (Or.inl rfl)) (x0s (qv 1 rfl (Or.inl rfl)) (x02 (qv 2 rfl (Or.inl rfl))))) (x0s (qv 1 rfl (Or.inl rfl)) (x02 (qv 3 rfl (Or.inl rfl))))))
    (x0f (x2v (x6u hr (x0s (qv 1 rfl (Or.inl rfl)) (x41 (x0s (qv 0 rfl (Or.inl rfl)) (x02 (qv 2 rfl (Or.inl rfl)))) (x02 (qv 3 rfl (Or.inl rfl))))) (x02 (qv 4 rfl (Or.inl rfl)))) (x0f (x0l (x8f))) (x24)))))))
    (x0f (x0l (x8f)))
noncomputable def x6l : x1c := x0y (x1n 3 (x0k x2g 3 (x01 (x08 0) (x01 (x08 1) (x01 (x08 2) (x0h))))))
  (x0y (sIf (y2d (x0k x42 2 (x01 (x08 2) (x01 (x08 3) (x0h))))) (x3f (x08 3)) (x71))
  (x0y (x1n 4 (x0k x0a 3 (x01 (x08 0) (x01 (e2 x29 (x08 1) (eC (.int 17))) (x01 (x13 2) (x0h))))))
  (x0y (x1n 5 (x49 (x01 (x3i (x01 (x6e (x01 (x13 2) (x0h))) (x0h))) (x01 (y57 (x5e (x01 (x08 4) (x0h))) (x13 2)) (x0h)))))
  (x0y (x34 (x7q 5 (x01 (x3i (x01 (x3a 1 (x10 (x01 (x13 2) (x0h))) (x0o 6) (x2m) (eIx (x1q 2 (x08 6)) (x08 4)) false) (x0h))) (x0h))))
  (x3f (x1q 5 (x0k x0a 3 (x01 (x08 0) (x01 (e2 x29 (x08 1) (eC (.int 16))) (x01 (eC (.int 3)) (x0h)))))))))))
noncomputable def x2b : List D -> Option (D × Nat) := fnD 6 x6l
theorem x22 : FnScope ["_law_script", "_law_at", "_law_ladder_here", "_law_rule_here", "_law_worth", "_law_some"] ["_law_script", "_law_at", "_law_ladder_here"] (x0d (top 38)) := ⟨rfl, rfl, rfl, by decide +kernel, rfl, by decide +kernel, by decide +kernel⟩
theorem x6r (B : Bt mg) (c__law_rule : Cal P w K mg base 3 "_law_rule" 3 x2g) (c__law_spreads : Cal P w K mg base 1 "_law_spreads" 2 x42) (c__law_pick : Cal P w K mg base 2 "_law_pick" 3 x0a) (a : At K mg "_law_spread_rule" (top 38) ["_law_script", "_law_at", "_law_ladder_here"]) : Cal P w K mg base 4 "_law_spread_rule" 3 x2b :=
  Cal.mkQ (k := 3) a x22 fun f cdv A outer s H E hr =>
    x09 (x0j (i := 3) x22.nd rfl (Or.inl rfl) (x0c c__law_rule hr (by decide) (x00 (x02 (qv 0 rfl (Or.inl rfl))) (x00 (x02 (qv 1 rfl (Or.inl rfl))) (x00 (x02 (qv 2 rfl (Or.inr (Or.inl rfl)))) (x03) x05) x05) x05)))
    (x09 (x2v (x5a (x0c c__law_spreads hr (by decide) (x00 (x02 (qv 2 rfl (Or.inr (Or.inl rfl)))) (x00 (x02 (qv 3 rfl (Or.inl rfl))) (x03) x05) x05))) (x0f (x0l (x02 (qv 3 rfl (Or.inl rfl))))) (x24))
    (x09 (x0j (i := 4) x22.nd rfl (Or.inr rfl) (x0c c__law_pick hr (by decide) (x00 (x02 (qv 0 rfl (Or.inl rfl))) (x00 (x14 (x02 (qv 1 rfl (Or.inl rfl))) (x0b)) (x00 (x0z B.m_len (qv 2 rfl (Or.inr (Or.inl rfl)))) (x03) x0i) x0v) x05)))
    (x09 (x0j (i := 5) x22.nd rfl (Or.inl rfl) (x1w (x00 (x40 B.m_tuple PyProof.Rows.boot_tuple (x00 (y0b rfl B.m_list PyProof.Rows.boot_list B.m_range (x00 (x0z B.m_len (qv 2 rfl (Or.inr (Or.inl rfl)))) (x03) x0i)) (x03) x0i)) (x00 (y5u (x2u (x00 (x02 (qv 4 rfl (Or.inr (Or.inl rfl)))) (x03) x05)) (x0z B.m_len (qv 2 rfl (Or.inr (Or.inl rfl))))) (x03) x0v) x0i)))
    (x09 (x2c (x28 (qv 5 rfl (Or.inl rfl)) (x00 (x40 B.m_tuple PyProof.Rows.boot_tuple (x00 (x3h (k := 1) (N' := ["_law_script", "_law_at", "_law_ladder_here", "_law_rule_here", "_law_worth", "_law_some", "_law_one"]) false rfl ⟨rfl, by decide +kernel, rfl, rfl, rfl⟩ (x0r B.m_range (x00 (x0z B.m_len (qv 2 rfl (Or.inr (Or.inl rfl)))) (x03) x0i)) (fun _ _ _ _ => x0m (i := 6) (show 6 <= 6 by decide) (show List.Nodup (["_law_script", "_law_at", "_law_ladder_here", "_law_rule_here", "_law_worth", "_law_some", "_law_one"] : List Str) by decide +kernel) rfl (Or.inl rfl) (Or.inr rfl)) (fun _ _ _ _ => x2l) (fun _ _ _ _ => x41 (x0s (qv 2) (x02 (qv 6))) (x02 (qv 4)))) (x03) x3r)) (x03) x0i)))
    (x0f (x0l (x0s (qv 5 rfl (Or.inl rfl)) (x0c c__law_pick hr (by decide) (x00 (x02 (qv 0 rfl (Or.inl rfl))) (x00 (x14 (x02 (qv 1 rfl (Or.inl rfl))) (x0b)) (x00 (x0b) (x03) x06) x0v) x05)))))))))
noncomputable abbrev x4s : x1c := x0y (x1n 7 (e2 x29 (e2 x29 (x08 1) (eC (.int 10))) (e2 x8s (eC (.int 22)) (x08 6))))
  (x0y (x1n 8 (x0k x2g 3 (x01 (x08 0) (x01 (e2 x29 (x08 7) (eC (.int 2))) (x01 (x08 2) (x0h))))))
  (x0y (sIf (y2d (x08 3)) (x1n 8 (x0k x2b 3 (x01 (x08 0) (x01 (e2 x29 (x08 7) (eC (.int 2))) (x01 (x08 2) (x0h)))))) (x71))
  (x34 (x7q 5 (x01 (x5e (x01 (x0k x0a 3 (x01 (x08 0) (x01 (x08 7) (x01 (x08 4) (x0h))))) (x01 (x0k x0a 3 (x01 (x08 0) (x01 (e2 x29 (x08 7) (eC (.int 1))) (x01 (x08 4) (x0h))))) (x01 (x08 8) (x0h))))) (x0h))))))
noncomputable abbrev x50 : x1c := x0y (x1n 10 (x0k x0a 3 (x01 (x08 0) (x01 (e2 x29 (e2 x29 (x08 1) (eC (.int 3))) (e2 x8s (eC (.int 2)) (x08 6))) (x01 (x13 2) (x0h))))))
  (x34 (x7q 9 (x01 (x5e (x01 (x0k x0a 3 (x01 (x08 0) (x01 (e2 x29 (e2 x29 (x08 1) (eC (.int 4))) (e2 x8s (eC (.int 2)) (x08 6))) (x01 (x08 4) (x0h))))) (x01 (x08 10) (x0h)))) (x0h))))
noncomputable def x7t : x1c := x0y (x1n 4 (e2 x29 (eC (.int 1)) (x0k x0a 3 (x01 (x08 0) (x01 (x08 1) (x01 (eC (.int 5)) (x0h)))))))
  (x0y (x1n 5 (x49 (x0h)))
  (x0y (x7i (x10 (x01 (x0k x0a 3 (x01 (x08 0) (x01 (e2 x29 (x08 1) (eC (.int 1))) (x01 (eC (.int 8)) (x0h))))) (x0h))) (x0o 6) (x0y (x1n 7 (e2 x29 (e2 x29 (x08 1) (eC (.int 10))) (e2 x8s (eC (.int 22)) (x08 6))))
  (x0y (x1n 8 (x0k x2g 3 (x01 (x08 0) (x01 (e2 x29 (x08 7) (eC (.int 2))) (x01 (x08 2) (x0h))))))
  (x0y (sIf (y2d (x08 3)) (x1n 8 (x0k x2b 3 (x01 (x08 0) (x01 (e2 x29 (x08 7) (eC (.int 2))) (x01 (x08 2) (x0h)))))) (x71))
  (x34 (x7q 5 (x01 (x5e (x01 (x0k x0a 3 (x01 (x08 0) (x01 (x08 7) (x01 (x08 4) (x0h))))) (x01 (x0k x0a 3 (x01 (x08 0) (x01 (e2 x29 (x08 7) (eC (.int 1))) (x01 (x08 4) (x0h))))) (x01 (x08 8) (x0h))))) (x0h))))))))
  (x0y (x1n 9 (x49 (x0h)))
  (x0y (x7i (x10 (x01 (x0k x0a 3 (x01 (x08 0) (x01 (e2 x29 (x08 1) (eC (.int 2))) (x01 (eC (.int 4)) (x0h))))) (x0h))) (x0o 6) (x0y (x1n 10 (x0k x0a 3 (x01 (x08 0) (x01 (e2 x29 (e2 x29 (x08 1) (eC (.int 3))) (e2 x8s (eC (.int 2)) (x08 6))) (x01 (x13 2) (x0h))))))
  (x34 (x7q 9 (x01 (x5e (x01 (x0k x0a 3 (x01 (x08 0) (x01 (e2 x29 (e2 x29 (x08 1) (eC (.int 4))) (e2 x8s (eC (.int 2)) (x08 6))) (x01 (x08 4) (x0h))))) (x01 (x08 10) (x0h)))) (x0h))))))
  (x3f (x5e (x01 (x08 4) (x01 (x3i (x01 (x08 5) (x0h))) (x01 (x3i (x01 (x08 9) (x0h))) (x0h))))))))))
noncomputable def x3e : List D -> Option (D × Nat) := fnD 11 x7t
theorem x19 : FnScope ["_law_script", "_law_at", "_law_ladder_here", "_law_spread", "_law_places", "_law_ways", "_law_k", "_law_base_here", "_law_rule_here", "_law_begins", "_law_worth"] ["_law_script", "_law_at", "_law_ladder_here", "_law_spread"] (x0d (top 39)) := ⟨rfl, rfl, rfl, by decide +kernel, rfl, by decide +kernel, by decide +kernel⟩
theorem y20 (B : Bt mg) (c__law_pick : Cal P w K mg base 2 "_law_pick" 3 x0a) (c__law_rule : Cal P w K mg base 3 "_law_rule" 3 x2g) (c__law_spread_rule : Cal P w K mg base 4 "_law_spread_rule" 3 x2b) (a : At K mg "_law_chart" (top 39) ["_law_script", "_law_at", "_law_ladder_here", "_law_spread"]) : Cal P w K mg base 5 "_law_chart" 4 x3e :=
  Cal.mkQ (k := 4) a x19 fun f cdv A outer s H E hr =>
    x09 (x0j (i := 4) x19.nd rfl (Or.inl rfl) (x14 (x0b) (x0c c__law_pick hr (by decide) (x00 (x02 (qv 0 rfl (Or.inl rfl))) (x00 (x02 (qv 1 rfl (Or.inl rfl))) (x00 (x0b) (x03) x06) x05) x05))))
    (x09 (x0j (i := 5) x19.nd rfl (Or.inl rfl) (x1w (x03)))
    (x09 (x2n PassesOwn.never rfl (x0r B.m_range (x00 (x0c c__law_pick hr (by decide) (x00 (x02 (qv 0 rfl (Or.inl rfl))) (x00 (x14 (x02 (qv 1 rfl (Or.inl rfl))) (x0b)) (x00 (x0b) (x03) x06) x0v) x05)) (x03) x0i)) (x0m (i := 6) (show 0 <= 6 by decide) x19.nd rfl (Or.inl rfl)) (x09 (x0j (i := 7) x19.nd rfl (Or.inl rfl) (x14 (x14 (x02 (qv 1 rfl (Or.inl rfl))) (x0b)) (x51 (x0b) (x02 (qv 6 rfl (Or.inl rfl))))))
    (x09 (x0j (i := 8) x19.nd rfl (Or.inl rfl) (x0c c__law_rule hr (by decide) (x00 (x02 (qv 0 rfl (Or.inl rfl))) (x00 (x14 (x02 (qv 7 rfl (Or.inl rfl))) (x0b)) (x00 (x02 (qv 2 rfl (Or.inl rfl))) (x03) x05) x0v) x05)))
    (x09 (x2v (x5a (x02 (qv 3 rfl (Or.inl rfl)))) (x0f (x0j (i := 8) x19.nd rfl (Or.inl rfl) (x0c c__law_spread_rule hr (by decide) (x00 (x02 (qv 0 rfl (Or.inl rfl))) (x00 (x14 (x02 (qv 7 rfl (Or.inl rfl))) (x0b)) (x00 (x02 (qv 2 rfl (Or.inl rfl))) (x03) x05) x0v) x05)))) (x24))
    (x0f (x2c (x28 (qv 5 rfl (Or.inl rfl)) (x00 (x2u (x00 (x0c c__law_pick hr (by decide) (x00 (x02 (qv 0 rfl (Or.inl rfl))) (x00 (x02 (qv 7 rfl (Or.inl rfl))) (x00 (x02 (qv 4 rfl (Or.inl rfl))) (x03) x05) x05) x05)) (x00 (x0c c__law_pick hr (by decide) (x00 (x02 (qv 0 rfl (Or.inl rfl))) (x00 (x14 (x02 (qv 7 rfl (Or.inl rfl))) (x0b)) (x00 (x02 (qv 4 rfl (Or.inl rfl))) (x03) x05) x0v) x05)) (x00 (x02 (qv 8 rfl (Or.inl rfl))) (x03) x05) x0i) x0i)) (x03) x5s))))))))
    (x09 (x0j (i := 9) x19.nd rfl (Or.inl rfl) (x1w (x03)))
    (x09 (x2n PassesOwn.never rfl (x0r B.m_range (x00 (x0c c__law_pick hr (by decide) (x00 (x02 (qv 0 rfl (Or.inl rfl))) (x00 (x14 (x02 (qv 1 rfl (Or.inl rfl))) (x0b)) (x00 (x0b) (x03) x06) x0v) x05)) (x03) x0i)) (x0m (i := 6) (show 0 <= 6 by decide) x19.nd rfl (Or.inl rfl)) (x09 (x0j (i := 10) x19.nd rfl (Or.inl rfl) (x0c c__law_pick hr (by decide) (x00 (x02 (qv 0 rfl (Or.inl rfl))) (x00 (x14 (x14 (x02 (qv 1 rfl (Or.inl rfl))) (x0b)) (x51 (x0b) (x02 (qv 6 rfl (Or.inl rfl))))) (x00 (x0z B.m_len (qv 2 rfl (Or.inl rfl))) (x03) x0i) x0v) x05)))
    (x0f (x2c (x28 (qv 9 rfl (Or.inl rfl)) (x00 (x2u (x00 (x0c c__law_pick hr (by decide) (x00 (x02 (qv 0 rfl (Or.inl rfl))) (x00 (x14 (x14 (x02 (qv 1 rfl (Or.inl rfl))) (x0b)) (x51 (x0b) (x02 (qv 6 rfl (Or.inl rfl))))) (x00 (x02 (qv 4 rfl (Or.inl rfl))) (x03) x05) x0v) x05)) (x00 (x02 (qv 10 rfl (Or.inl rfl))) (x03) x05) x0i)) (x03) x5s))))))
    (x0f (x0l (x2u (x00 (x02 (qv 4 rfl (Or.inl rfl))) (x00 (x40 B.m_tuple PyProof.Rows.boot_tuple (x00 (x02 (qv 5 rfl (Or.inl rfl))) (x03) x05)) (x00 (x40 B.m_tuple PyProof.Rows.boot_tuple (x00 (x02 (qv 9 rfl (Or.inl rfl))) (x03) x05)) (x03) x0i) x0i) x05))))))))
noncomputable def x4c : x1c := x3f (x68 (x3a 1 (x10 (x01 (eB y0i (x01 (x1q 0 (eC (.int 2))) (x0h))) (x0h))) (x0o 1) (x2m) (x5e (x01 (eC (.str "begin")) (x01 (x08 1) (x0h)))) false) (x3a 1 (x10 (x01 (eB y0i (x01 (x1q 0 (eC (.int 1))) (x0h))) (x0h))) (x0o 1) (x2m) (x5e (x01 (eC (.str "way")) (x01 (x08 1) (x0h)))) false))
noncomputable def x1t : List D -> Option (D × Nat) := fnD 1 x4c
theorem x6x : FnScope ["_law_chart_here"] ["_law_chart_here"] (x0d (top 41)) := ⟨rfl, rfl, rfl, by decide +kernel, rfl, by decide +kernel, by decide +kernel⟩
theorem x7j (B : Bt mg)  (a : At K mg "_law_every_step" (top 41) ["_law_chart_here"]) : Cal P w K mg base 1 "_law_every_step" 1 x1t :=
  Cal.mkQ (k := 0) a x6x fun f cdv A outer s H E hr =>
    x0f (x0l (y08 (x3h (k := 1) (N' := ["_law_chart_here", "_law_k"]) false rfl ⟨rfl, by decide +kernel, rfl, rfl, rfl⟩ (x0r B.m_range (x00 (x8e B.m_len (x00 (x0s (qv 0 rfl (Or.inl rfl)) (x0b)) (x03) x0u)) (x03) x0i)) (fun _ _ _ _ => x0m (i := 1) (show 1 <= 1 by decide) (show List.Nodup (["_law_chart_here", "_law_k"] : List Str) by decide +kernel) rfl (Or.inl rfl) (Or.inr rfl)) (fun _ _ _ _ => x2l) (fun _ _ _ _ => x2u (x00 (x37) (x00 (x02 (qv 1)) (x03) x05) x06))) (x3h (k := 1) (N' := ["_law_chart_here", "_law_k"]) false rfl ⟨rfl, by decide +kernel, rfl, rfl, rfl⟩ (x0r B.m_range (x00 (x8e B.m_len (x00 (x0s (qv 0 rfl (Or.inl rfl)) (x0b)) (x03) x0u)) (x03) x0i)) (fun _ _ _ _ => x0m (i := 1) (show 1 <= 1 by decide) (show List.Nodup (["_law_chart_here", "_law_k"] : List Str) by decide +kernel) rfl (Or.inl rfl) (Or.inr rfl)) (fun _ _ _ _ => x2l) (fun _ _ _ _ => x2u (x00 (x37) (x00 (x02 (qv 1)) (x03) x05) x06)))))
noncomputable def y2p : x1c := x0y (x1n 1 (x49 (x01 (y96 ["NoStep"] "NoHouse" (x08 0)) (x01 (y96 ["NoStep"] "NoMap" (x08 0)) (x01 (y96 ["NoStep"] "NoPlace" (x08 0)) (x01 (y96 ["NoStep"] "NoRule" (x08 0)) (x0h)))))))
  (x0y (x34 (z7a 1 (x49 (x01 (y96 ["NoStep"] "NoStep" (x08 0)) (x01 (y96 ["NoStep"] "TooGreat" (x08 0)) (x0h))))))
  (x0y (sIf (y7c (x3d (e2 dNe (z7c (x08 1) (x01 (eC (.bl true)) (x0h))) (eC (.int 1)))) (x8q (y2d (z78 (x08 0))))) (x3f (eC (.str "wrong"))) (x71))
  (x3f (eIx (x49 (x01 (eC (.str "no house")) (x01 (eC (.str "no map")) (x01 (eC (.str "no place")) (x01 (eC (.str "no rule")) (x01 (eC (.str "no step")) (x01 (eC (.str "too great")) (x0h)))))))) (y0c (x08 1) (x01 (eC (.bl true)) (x0h)))))))
noncomputable def x4i : List D -> Option (D × Nat) := fnD 2 y2p
theorem x7v : FnScope ["_law_kept", "_law_kinds"] ["_law_kept"] (x0d (top 40)) := ⟨rfl, rfl, rfl, by decide +kernel, rfl, by decide +kernel, by decide +kernel⟩
theorem y2m (B : Bt mg) (T : Xt K mg)  (a : At K mg "_law_word" (top 40) ["_law_kept"]) : Cal P w K mg base 1 "_law_word" 1 x4i :=
  Cal.mkQ (k := 0) a x7v fun f cdv A outer s H E hr =>
    x09 (x0j (i := 1) x7v.nd rfl (Or.inl rfl) (x1w (x00 (x9w T.i_NoHouse B.m_isinstance (x02 (qv 0 rfl (Or.inl rfl)))) (x00 (x9w T.i_NoMap B.m_isinstance (x02 (qv 0 rfl (Or.inl rfl)))) (x00 (x9w T.i_NoPlace B.m_isinstance (x02 (qv 0 rfl (Or.inl rfl)))) (x00 (x9w T.i_NoRule B.m_isinstance (x02 (qv 0 rfl (Or.inl rfl)))) (x03) x0i) x0i) x0i) x0i)))
    (x09 (x2c (y6h (qv 1 rfl (Or.inl rfl)) (x1w (x00 (x9w T.i_NoStep B.m_isinstance (x02 (qv 0 rfl (Or.inl rfl)))) (x00 (x9w T.i_TooGreat B.m_isinstance (x02 (qv 0 rfl (Or.inl rfl)))) (x03) x0i) x0i))))
    (x09 (x2v (y7m (y28 (x6u hr (z2l hr (x02 (qv 1 rfl (Or.inl rfl))) (x00 (x8f) (x03) x06)) (x0b)) (y0h (x8a (x5a (z4m B.m_isinstance B.m_ValueError (x02 (qv 0 rfl (Or.inl rfl))))))))) (x0f (x0l (x37))) (x24))
    (x0f (x0l (x41 (x1w (x00 (x37) (x00 (x37) (x00 (x37) (x00 (x37) (x00 (x37) (x00 (x37) (x03) x06) x06) x06) x06) x06) x06)) (y69 hr (x02 (qv 1 rfl (Or.inl rfl))) (x00 (x8f) (x03) x06)))))))
noncomputable def x9p : x1c := x3f (z5e (z3e .int (x08 0)) (z77 (z3e .bool (x08 0))))
noncomputable def x4d : List D -> Option (D × Nat) := fnD 1 x9p
theorem y33 : FnScope ["thing"] ["thing"] (x0d (top 9)) := ⟨rfl, rfl, rfl, by decide +kernel, rfl, by decide +kernel, by decide +kernel⟩
theorem y54 (B : Bt mg)  (a : At K mg "is_whole" (top 9) ["thing"]) : Cal P w K mg base 1 "is_whole" 1 x4d :=
  Cal.mkQ (k := 0) a y33 fun f cdv A outer s H E hr =>
    x0f (x0l (z07 (y4a .int B.m_isinstance B.m_int PyProof.Rows.boot_int (x02 (qv 0 rfl (Or.inl rfl)))) (z08 (z50 (y4a .bool B.m_isinstance B.m_bool PyProof.Rows.boot_bool (x02 (qv 0 rfl (Or.inl rfl))))))))
noncomputable def x60 : x1c := x3f (z5e (x0k x4d 1 (x01 (x08 0) (x0h))) (eCh dLe dLt (eC (.int 0)) (x08 0) (x08 1)))
noncomputable def x1g : List D -> Option (D × Nat) := fnD 2 x60
theorem x91 : FnScope ["thing", "many"] ["thing", "many"] (x0d (top 10)) := ⟨rfl, rfl, rfl, by decide +kernel, rfl, by decide +kernel, by decide +kernel⟩
theorem x9g (B : Bt mg) (c_is_whole : Cal P w K mg base 1 "is_whole" 1 x4d) (a : At K mg "is_number_of" (top 10) ["thing", "many"]) : Cal P w K mg base 2 "is_number_of" 2 x1g :=
  Cal.mkQ (k := 1) a x91 fun f cdv A outer s H E hr =>
    x0f (x0l (z07 (x0c c_is_whole hr (by decide) (x00 (x02 (qv 0 rfl (Or.inl rfl))) (x03) x05)) (z08 (y3f (x0b) (x02 (qv 0 rfl (Or.inl rfl))) (x02 (qv 1 rfl (Or.inl rfl)))))))
noncomputable def x39 : x1c := x0y (sIf (y7c (x8q (y2d (z3e .tuple (x08 0)))) (y7c (x3d (e2 dNe (x13 0) (eC (.int 2)))) (x8q (y2d (z3e .str (x1q 0 (eC (.int 0)))))))) (x3f (eC (.bl false))) (x71))
  (x3f (x0k x1g 2 (x01 (x1q 0 (eC (.int 1))) (x01 (y9r (x08 1) (x1q 0 (eC (.int 0))) (eC (.int 0))) (x0h)))))
noncomputable def x17 : List D -> Option (D × Nat) := fnD 2 x39
theorem x6q : FnScope ["thing", "many_by_name"] ["thing", "many_by_name"] (x0d (top 11)) := ⟨rfl, rfl, rfl, by decide +kernel, rfl, by decide +kernel, by decide +kernel⟩
theorem x75 (B : Bt mg) (c_is_number_of : Cal P w K mg base 2 "is_number_of" 2 x1g) (a : At K mg "is_named_number" (top 11) ["thing", "many_by_name"]) : Cal P w K mg base 3 "is_named_number" 2 x17 :=
  Cal.mkQ (k := 2) a x6q fun f cdv A outer s H E hr =>
    x09 (x2v (y7m (y28 (x8a (x5a (y4a .tuple B.m_isinstance B.m_tuple PyProof.Rows.boot_tuple (x02 (qv 0 rfl (Or.inl rfl)))))) (y28 (x6u hr (x0z B.m_len (qv 0 rfl (Or.inl rfl))) (x0b)) (y0h (x8a (x5a (y4a .str B.m_isinstance B.m_str PyProof.Rows.boot_str (x0s (qv 0 rfl (Or.inl rfl)) (x0b))))))))) (x0f (x0l (x8f))) (x24))
    (x0f (x0l (x0c c_is_number_of hr (by decide) (x00 (x0s (qv 0 rfl (Or.inl rfl)) (x0b)) (x00 (z1v hr (x02 (qv 1 rfl (Or.inl rfl))) (x0s (qv 0 rfl (Or.inl rfl)) (x0b)) (x0b)) (x03) x0i) x0u))))
noncomputable def x90 : x1c := x3f (x0k x17 2 (x01 (x08 1) (x01 (y1e "begin" "way" (x47 0 2) (x47 0 1)) (x0h))))
noncomputable def x1e : List D -> Option (D × Nat) := fnD 2 x90
theorem y4p : FnScope ["chart", "thing"] ["chart", "thing"] (x0d (top 19)) := ⟨rfl, rfl, rfl, by decide +kernel, rfl, by decide +kernel, by decide +kernel⟩
theorem y64 (B : Bt mg) (c_is_named_number : Cal P w K mg base 3 "is_named_number" 2 x17) (a : At K mg "is_step" (top 19) ["chart", "thing"]) : Cal P w K mg base 4 "is_step" 2 x1e :=
  Cal.mkQ (k := 3) a y4p fun f cdv A outer s H E hr =>
    x0f (x0l (x0c c_is_named_number hr (by decide) (x00 (x02 (qv 1 rfl (Or.inl rfl))) (x00 (z3a (by decide) (y3r B.m_len (qv 0 rfl (Or.inl rfl))) (y3r B.m_len (qv 0 rfl (Or.inl rfl)))) (x03) z3m) x05)))
noncomputable def x55 : x1c := sIf (x8q (y2d (eB z0g (x01 (x3a 1 (x9l (x08 1)) (x0o 2) (x2m) (x0k x1e 2 (x01 (x08 0) (x01 (x08 2) (x0h)))) false) (x0h))))) (y3v) (x71)
noncomputable def x27 : List D -> Option (D × Nat) := fnD 2 x55
theorem x46 : FnScope ["chart", "steps"] ["chart", "steps"] (x0d (top 20)) := ⟨rfl, rfl, rfl, by decide +kernel, rfl, by decide +kernel, by decide +kernel⟩
theorem x7y (B : Bt mg) (c_is_step : Cal P w K mg base 4 "is_step" 2 x1e) (a : At K mg "refuse_no_step" (top 20) ["chart", "steps"]) : Cal P w K mg base 5 "refuse_no_step" 2 x27 :=
  Cal.mkQ (k := 4) a x46 fun f cdv A outer s H E hr =>
    x0f (x2v (x8a (x5a (y9w rfl B.m_all (x00 (x3h (k := 1) (N' := ["chart", "steps", "step"]) false rfl ⟨rfl, by decide +kernel, rfl, rfl, rfl⟩ (x5m (x02 (qv 1 rfl (Or.inl rfl)))) (fun _ _ _ _ => x0m (i := 2) (show 2 <= 2 by decide) (show List.Nodup (["chart", "steps", "step"] : List Str) by decide +kernel) rfl (Or.inl rfl) (Or.inr rfl)) (fun _ _ _ _ => x2l) (fun _ _ _ _ => x0c c_is_step hr (by decide) (x00 (x02 (qv 0)) (x00 (x02 (qv 2)) (x03) x05) x05))) (x03) x3r)))) (x0f (y5m)) (x24))
noncomputable def x53 : y7w := xIf (x8q (y2d (eB z0g (x01 (x3a 1 (x9l (x08 1)) (x0o 2) (x2m) (x0k x1e 2 (x01 (x08 0) (x01 (x08 2) (x0h)))) false) (x0h))))) "NoStep"
noncomputable def x1v : List D -> Option Str := fnX 2 x53
theorem x76 (B : Bt mg) (T : Xt K mg) (c_is_step : Cal P w K mg base 4 "is_step" 2 x1e) (a : At K mg "refuse_no_step" (top 20) ["chart", "steps"]) : y5f P w K mg base 5 "refuse_no_step" 2 x1v :=
  y5f.mk (k := 4) a x46 fun f cdv A outer s H E hr =>
    z82 hr T.x (x8a (x5a (y9w rfl B.m_all (x00 (x3h (k := 1) (N' := ["chart", "steps", "step"]) false rfl ⟨rfl, by decide +kernel, rfl, rfl, rfl⟩ (x5m (x02 (qv 1 rfl (Or.inl rfl)))) (fun _ _ _ _ => x0m (i := 2) (show 2 <= 2 by decide) (show List.Nodup (["chart", "steps", "step"] : List Str) by decide +kernel) rfl (Or.inl rfl) (Or.inr rfl)) (fun _ _ _ _ => x2l) (fun _ _ _ _ => x0c c_is_step hr (by decide) (x00 (x02 (qv 0)) (x00 (x02 (qv 2)) (x03) x05) x05))) (x03) x3r))))
noncomputable def x4b : x1c := x0y (sIf (x3d (e2 dEq (x1q 2 (eC (.int 0))) (eC (.str "begin")))) (x3f (eIx (x1q 0 (eC (.int 2))) (x1q 2 (eC (.int 1))))) (x71))
  (x0y (x1n 3 (eIx (x1q 0 (eC (.int 1))) (x1q 2 (eC (.int 1)))))
  (x3f (x5e (x01 (x1q 3 (eC (.int 1))) (x01 (eIx (x1q 3 (eC (.int 2))) (x1q 1 (x1q 3 (eC (.int 0))))) (x0h))))))
noncomputable def x1s : List D -> Option (D × Nat) := fnD 4 x4b
theorem x3w : FnScope ["chart", "worths", "step", "way"] ["chart", "worths", "step"] (x0d (top 21)) := ⟨rfl, rfl, rfl, by decide +kernel, rfl, by decide +kernel, by decide +kernel⟩
theorem x79 (B : Bt mg)  (a : At K mg "place_and_worth" (top 21) ["chart", "worths", "step"]) : Cal P w K mg base 1 "place_and_worth" 3 x1s :=
  Cal.mkQ (k := 0) a x3w fun f cdv A outer s H E hr =>
    x09 (x2v (x7p hr (x0s (qv 2 rfl (Or.inl rfl)) (x0b)) (x37)) (x0f (x0l (x41 (x0s (qv 0 rfl (Or.inl rfl)) (x0b)) (x0s (qv 2 rfl (Or.inl rfl)) (x0b))))) (x24))
    (x09 (x0j (i := 3) x3w.nd rfl (Or.inl rfl) (x41 (x0s (qv 0 rfl (Or.inl rfl)) (x0b)) (x0s (qv 2 rfl (Or.inl rfl)) (x0b))))
    (x0f (x0l (x2u (x00 (x0s (qv 3 rfl (Or.inl rfl)) (x0b)) (x00 (x41 (x0s (qv 3 rfl (Or.inl rfl)) (x0b)) (x0s (qv 1 rfl (Or.inl rfl)) (x0s (qv 3 rfl (Or.inl rfl)) (x0b)))) (x03) x0u) x0u)))))
noncomputable def x5o : x1c := x0y (x1n 4 (x0k x1s 3 (x01 (x08 1) (x01 (x08 2) (x01 (x08 3) (x0h))))))
  (x0y (x1n 5 (x1q 4 (eC (.int 0))))
  (x0y (x1n 6 (eIx (x1q 0 (x1q 2 (x08 5))) (x1q 4 (eC (.int 1)))))
  (x3f (z2r (z2r (eSl (x08 2) (x58) (x4m (x08 5))) (x5e (x01 (x08 6) (x0h)))) (eSl (x08 2) (x4m (e2 x29 (x08 5) (eC (.int 1)))) (x58))))))
noncomputable def x1k : List D -> Option (D × Nat) := fnD 7 x5o
theorem x2p : FnScope ["ladder", "chart", "worths", "step", "coming", "place", "joined"] ["ladder", "chart", "worths", "step"] (x0d (top 22)) := ⟨rfl, rfl, rfl, by decide +kernel, rfl, by decide +kernel, by decide +kernel⟩
theorem x8g (B : Bt mg) (c_place_and_worth : Cal P w K mg base 1 "place_and_worth" 3 x1s) (a : At K mg "worths_behind" (top 22) ["ladder", "chart", "worths", "step"]) : Cal P w K mg base 2 "worths_behind" 4 x1k :=
  Cal.mkQ (k := 1) a x2p fun f cdv A outer s H E hr =>
    x09 (x0j (i := 4) x2p.nd rfl (Or.inl rfl) (x0c c_place_and_worth hr (by decide) (x00 (x02 (qv 1 rfl (Or.inl rfl))) (x00 (x02 (qv 2 rfl (Or.inl rfl))) (x00 (x02 (qv 3 rfl (Or.inl rfl))) (x03) x05) x05) x05)))
    (x09 (x0j (i := 5) x2p.nd rfl (Or.inl rfl) (x0s (qv 4 rfl (Or.inl rfl)) (x0b)))
    (x09 (x0j (i := 6) x2p.nd rfl (Or.inl rfl) (x41 (x0s (qv 0 rfl (Or.inl rfl)) (x0s (qv 2 rfl (Or.inl rfl)) (x02 (qv 5 rfl (Or.inl rfl))))) (x0s (qv 4 rfl (Or.inl rfl)) (x0b))))
    (x0f (x0l (y4b (y4b (y7z (x02 (qv 2 rfl (Or.inl rfl))) (x4n) (x4w (x02 (qv 5 rfl (Or.inl rfl))))) (x2u (x00 (x02 (qv 6 rfl (Or.inl rfl))) (x03) x05))) (y7z (x02 (qv 2 rfl (Or.inl rfl))) (x4w (x14 (x02 (qv 5 rfl (Or.inl rfl))) (x0b))) (x4n)))))))
noncomputable abbrev x4u : x1c := x0y (x1n 5 (x08 3))
  (x7i (x9l (x08 2)) (x0o 6) (x0y (x1n 7 (x0k x1k 4 (x01 (x08 0) (x01 (x08 1) (x01 (x08 3) (x01 (x08 6) (x0h)))))))
  (x0y (sIf (x3d (e2 dNe (x08 7) (x08 3))) (x34 (x7q 4 (x01 (x08 6) (x0h)))) (x71))
  (x1n 3 (x08 7)))))
noncomputable abbrev x3x : x1c := x0y (x1n 7 (x0k x1k 4 (x01 (x08 0) (x01 (x08 1) (x01 (x08 3) (x01 (x08 6) (x0h)))))))
  (x0y (sIf (x3d (e2 dNe (x08 7) (x08 3))) (x34 (x7q 4 (x01 (x08 6) (x0h)))) (x71))
  (x1n 3 (x08 7)))
noncomputable def y2o : x1c := x0y (x1n 4 (x49 (x0h)))
  (x0y (x1n 5 (eC .non))
  (x0y (y21 (x3d (e2 dNe (x08 3) (x08 5))) (x0y (x1n 5 (x08 3))
  (x7i (x9l (x08 2)) (x0o 6) (x0y (x1n 7 (x0k x1k 4 (x01 (x08 0) (x01 (x08 1) (x01 (x08 3) (x01 (x08 6) (x0h)))))))
  (x0y (sIf (x3d (e2 dNe (x08 7) (x08 3))) (x34 (x7q 4 (x01 (x08 6) (x0h)))) (x71))
  (x1n 3 (x08 7)))))))
  (x3f (x5e (x01 (x08 3) (x01 (x08 4) (x0h)))))))
noncomputable def x67 : List D -> Option (D × Nat) := fnD 8 y2o
theorem x4g : FnScope ["ladder", "chart", "order", "worths", "raising", "ahead", "step", "behind"] ["ladder", "chart", "order", "worths"] (x0d (top 23)) := ⟨rfl, rfl, rfl, by decide +kernel, rfl, by decide +kernel, by decide +kernel⟩
theorem z2a (B : Bt mg) (c_worths_behind : Cal P w K mg base 2 "worths_behind" 4 x1k) (a : At K mg "risen" (top 23) ["ladder", "chart", "order", "worths"]) : Cal P w K mg base 3 "risen" 4 x67 :=
  Cal.mkQ (k := 2) a x4g fun f cdv A outer s H E hr =>
    x09 (x0j (i := 4) x4g.nd rfl (Or.inl rfl) (x1w (x03)))
    (x09 (x0j (i := 5) x4g.nd rfl (Or.inl rfl) (y43))
    (x09 (y1f PassesOwn.never (x6u hr (x02 (qv 3 rfl (Or.inl rfl))) (x02 (qv 5 rfl (Or.inl rfl)))) (x09 (x0j (i := 5) x4g.nd rfl (Or.inl rfl) (x02 (qv 3 rfl (Or.inl rfl))))
    (x0f (x2n PassesOwn.never rfl (x5m (x02 (qv 2 rfl (Or.inl rfl)))) (x0m (i := 6) (show 0 <= 6 by decide) x4g.nd rfl (Or.inl rfl)) (x09 (x0j (i := 7) x4g.nd rfl (Or.inl rfl) (x0c c_worths_behind hr (by decide) (x00 (x02 (qv 0 rfl (Or.inl rfl))) (x00 (x02 (qv 1 rfl (Or.inl rfl))) (x00 (x02 (qv 3 rfl (Or.inl rfl))) (x00 (x02 (qv 6 rfl (Or.inl rfl))) (x03) x05) x05) x05) x05)))
    (x09 (x2v (x6u hr (x02 (qv 7 rfl (Or.inl rfl))) (x02 (qv 3 rfl (Or.inl rfl)))) (x0f (x2c (x28 (qv 4 rfl (Or.inl rfl)) (x00 (x02 (qv 6 rfl (Or.inl rfl))) (x03) x05)))) (x24))
    (x0f (x0j (i := 3) x4g.nd rfl (Or.inl rfl) (x02 (qv 7 rfl (Or.inl rfl)))))))))))
    (x0f (x0l (x2u (x00 (x02 (qv 3 rfl (Or.inl rfl))) (x00 (x02 (qv 4 rfl (Or.inl rfl))) (x03) x05) x05))))))
noncomputable def x61 : x1c := x3f (z1c (x01 (x08 0) (x0h)))
noncomputable def x2o : List D -> Option (D × Nat) := fnD 1 x61
theorem x8i : FnScope ["many"] ["many"] (x0d (top 13)) := ⟨rfl, rfl, rfl, by decide +kernel, rfl, by decide +kernel, by decide +kernel⟩
theorem x9c (B : Bt mg)  (a : At K mg "row_of_least" (top 13) ["many"]) : Cal P w K mg base 1 "row_of_least" 1 x2o :=
  Cal.mkQ (k := 0) a x8i fun f cdv A outer s H E hr =>
    x0f (x0l (z0r rfl B.m_tuple PyProof.Rows.boot_tuple B.m_range (x00 (x02 (qv 0 rfl (Or.inl rfl))) (x03) x05)))
noncomputable def x9y : x1c := x3f (y4d (x08 0) (x01 (x0k x2o 1 (x01 (x13 0) (x0h))) (x0h)))
noncomputable def x44 : List D -> Option (D × Nat) := fnD 1 x9y
theorem y2n : FnScope ["ladder"] ["ladder"] (x0d (top 14)) := ⟨rfl, rfl, rfl, by decide +kernel, rfl, by decide +kernel, by decide +kernel⟩
theorem y4k (B : Bt mg) (c_row_of_least : Cal P w K mg base 1 "row_of_least" 1 x2o) (a : At K mg "least_of" (top 14) ["ladder"]) : Cal P w K mg base 2 "least_of" 1 x44 :=
  Cal.mkQ (k := 1) a y2n fun f cdv A outer s H E hr =>
    x0f (x0l (y8r hr (x02 (qv 0 rfl (Or.inl rfl))) (x00 (x0c c_row_of_least hr (by decide) (x00 (x0z B.m_len (qv 0 rfl (Or.inl rfl))) (x03) x0i)) (x03) x0i)))
noncomputable def y3h : x1c := x3f (x3i (x01 (y2x (x49 (x01 (x0k x44 1 (x01 (x08 0) (x0h))) (x0h))) (x1q 1 (eC (.int 0)))) (x0h)))
noncomputable def x6s : List D -> Option (D × Nat) := fnD 2 y3h
theorem y6u : FnScope ["ladder", "chart"] ["ladder", "chart"] (x0d (top 16)) := ⟨rfl, rfl, rfl, by decide +kernel, rfl, by decide +kernel, by decide +kernel⟩
theorem y8h (B : Bt mg) (c_least_of : Cal P w K mg base 2 "least_of" 1 x44) (a : At K mg "lowest" (top 16) ["ladder", "chart"]) : Cal P w K mg base 3 "lowest" 2 x6s :=
  Cal.mkQ (k := 2) a y6u fun f cdv A outer s H E hr =>
    x0f (x0l (x40 B.m_tuple PyProof.Rows.boot_tuple (x00 (y5w (x1w (x00 (x0c c_least_of hr (by decide) (x00 (x02 (qv 0 rfl (Or.inl rfl))) (x03) x05)) (x03) x0i)) (x0s (qv 1 rfl (Or.inl rfl)) (x0b))) (x03) x0v)))
noncomputable def x7e : x1c := x0y (x34 (x0k x27 2 (x01 (x08 1) (x01 (x08 2) (x0h)))))
  (x0y (x1n 3 (x0k x67 4 (x01 (x08 0) (x01 (x08 1) (x01 (x08 2) (x01 (x0k x6s 2 (x01 (x08 0) (x01 (x08 1) (x0h)))) (x0h)))))))
  (x3f (x5e (x01 (x1q 3 (eC (.int 0))) (x01 (eB y0i (x01 (x1q 3 (eC (.int 1))) (x0h))) (x0h))))))
noncomputable def x1u : List D -> Option (D × Nat) := fnD 4 x7e
theorem x65 : FnScope ["ladder", "chart", "order", "ended"] ["ladder", "chart", "order"] (x0d (top 24)) := ⟨rfl, rfl, rfl, by decide +kernel, rfl, by decide +kernel, by decide +kernel⟩
theorem y51 (B : Bt mg) (c_refuse_no_step : Cal P w K mg base 5 "refuse_no_step" 2 x27) (c_risen : Cal P w K mg base 3 "risen" 4 x67) (c_lowest : Cal P w K mg base 3 "lowest" 2 x6s) (a : At K mg "least_by" (top 24) ["ladder", "chart", "order"]) : Cal P w K mg base 6 "least_by" 3 x1u :=
  Cal.mkQ (k := 5) a x65 fun f cdv A outer s H E hr =>
    x09 (x2c (x0c c_refuse_no_step hr (by decide) (x00 (x02 (qv 1 rfl (Or.inl rfl))) (x00 (x02 (qv 2 rfl (Or.inl rfl))) (x03) x05) x05)))
    (x09 (x0j (i := 3) x65.nd rfl (Or.inl rfl) (x0c c_risen hr (by decide) (x00 (x02 (qv 0 rfl (Or.inl rfl))) (x00 (x02 (qv 1 rfl (Or.inl rfl))) (x00 (x02 (qv 2 rfl (Or.inl rfl))) (x00 (x0c c_lowest hr (by decide) (x00 (x02 (qv 0 rfl (Or.inl rfl))) (x00 (x02 (qv 1 rfl (Or.inl rfl))) (x03) x05) x05)) (x03) x0i) x05) x05) x05)))
    (x0f (x0l (x2u (x00 (x0s (qv 3 rfl (Or.inl rfl)) (x0b)) (x00 (x8e B.m_len (x00 (x0s (qv 3 rfl (Or.inl rfl)) (x0b)) (x03) x0u)) (x03) x0i) x0u)))))
noncomputable def y4q : y7w := y9h x1v 2 (x01 (x08 1) (x01 (x08 2) (x0h)))
noncomputable def x4y : List D -> Option Str := fnX 4 y4q
theorem y2h (B : Bt mg) (T : Xt K mg)  (cx_refuse_no_step : y5f P w K mg base 5 "refuse_no_step" 2 x1v) (a : At K mg "least_by" (top 24) ["ladder", "chart", "order"]) : y5f P w K mg base 6 "least_by" 3 x4y :=
  y5f.mk (k := 5) a x65 fun f cdv A outer s H E hr =>
    z2c cx_refuse_no_step hr (by decide) (x00 (x02 (qv 1 rfl (Or.inl rfl))) (x00 (x02 (qv 2 rfl (Or.inl rfl))) (x03) x05) x05)
noncomputable def x5k : x1c := x0y (x1n 3 (eC .non))
  (x0y (x1n 4 (eC .non))
  (x0y (z3u ["NoStep"] x1u x4y 3 (x01 (x08 0) (x01 (x08 1) (x01 (x08 2) (x0h)))) 4 5 3)
  (x0y (sIf (x3d (e2 z42 (x08 3) (eC .non))) (x3f (x08 4)) (x71))
  (x3f (x0k x4i 1 (x01 (x08 3) (x0h)))))))
noncomputable def x1a : List D -> Option (D × Nat) := fnD 6 x5k
theorem x2x : FnScope ["_law_ladder_here", "_law_chart_here", "_law_order", "_law_kept", "_law_answer", "e"] ["_law_ladder_here", "_law_chart_here", "_law_order"] (x0d (top 43)) := ⟨rfl, rfl, rfl, by decide +kernel, rfl, by decide +kernel, by decide +kernel⟩
theorem y13 (B : Bt mg) (T : Xt K mg) (c_least_by : Cal P w K mg base 6 "least_by" 3 x1u) (c__law_word : Cal P w K mg base 1 "_law_word" 1 x4i) (cx_least_by : y5f P w K mg base 6 "least_by" 3 x4y) (a : At K mg "_law_tried" (top 43) ["_law_ladder_here", "_law_chart_here", "_law_order"]) : Cal P w K mg base 7 "_law_tried" 3 x1a :=
  Cal.mkQ (k := 6) a x2x fun f cdv A outer s H E hr =>
    x09 (x0j (i := 3) x2x.nd rfl (Or.inl rfl) (y43))
    (x09 (x0j (i := 4) x2x.nd rfl (Or.inl rfl) (y43))
    (x09 (z0l (ie := 5) (ik := 3) T.u cx_least_by hr (by decide) (x00 (x02 (qv 0 rfl (Or.inl rfl))) (x00 (x02 (qv 1 rfl (Or.inl rfl))) (x00 (x02 (qv 2 rfl (Or.inl rfl))) (x03) x05) x05) x05) (x0j (i := 4) x2x.nd rfl (Or.inl rfl) (x0c c_least_by hr (by decide) (x00 (x02 (qv 0 rfl (Or.inl rfl))) (x00 (x02 (qv 1 rfl (Or.inl rfl))) (x00 (x02 (qv 2 rfl (Or.inl rfl))) (x03) x05) x05) x05))) x2x.nd rfl rfl)
    (x09 (x2v (z21 (x02 (qv 3 rfl (Or.inl rfl))) (y43)) (x0f (x0l (x02 (qv 4 rfl (Or.inl rfl))))) (x24))
    (x0f (x0l (x0c c__law_word hr (by decide) (x00 (x02 (qv 3 rfl (Or.inl rfl))) (x03) x05)))))))
noncomputable def x92 : x1c := x0y (sIf (x3d (e2 dEq (x1q 3 (eC (.int 0))) (eC (.str "begin")))) (z2v (eIx (x1q 1 (eC (.int 2))) (x1q 3 (eC (.int 1)))) (z1h (x2e (x0o 4) (x2e (x0o 5) (y0y))))) (x0y (z2v (eIx (x1q 1 (eC (.int 1))) (x1q 3 (eC (.int 1)))) (z1h (x2e (x0o 6) (x2e (x0o 4) (x2e (x0o 7) (y0y))))))
  (x1n 5 (x1q 7 (x1q 2 (x08 6))))))
  (x3f (z2r (z2r (eSl (x08 2) (x58) (x4m (x08 4))) (x5e (x01 (eIx (x1q 0 (x1q 2 (x08 4))) (x08 5)) (x0h)))) (eSl (x08 2) (x4m (e2 x29 (x08 4) (eC (.int 1)))) (x58))))
noncomputable def x2s : List D -> Option (D × Nat) := fnD 8 x92
theorem x2f : FnScope ["_law_ladder_here", "_law_chart_here", "_law_worths", "_law_step_here", "_law_place", "_law_worth", "_law_start", "_law_rule_here"] ["_law_ladder_here", "_law_chart_here", "_law_worths", "_law_step_here"] (x0d (top 42)) := ⟨rfl, rfl, rfl, by decide +kernel, rfl, by decide +kernel, by decide +kernel⟩
theorem y3c (B : Bt mg)  (a : At K mg "_law_step" (top 42) ["_law_ladder_here", "_law_chart_here", "_law_worths", "_law_step_here"]) : Cal P w K mg base 1 "_law_step" 4 x2s :=
  Cal.mkQ (k := 0) a x2f fun f cdv A outer s H E hr =>
    x09 (x2v (x7p hr (x0s (qv 3 rfl (Or.inl rfl)) (x0b)) (x37)) (x0f (y60 (x41 (x0s (qv 1 rfl (Or.inl rfl)) (x0b)) (x0s (qv 3 rfl (Or.inl rfl)) (x0b))) (y71 (n := 2) rfl (x5i (x0m (i := 4) (show 0 <= 4 by decide) x2f.nd rfl (Or.inl rfl)) (x5i (x0m (i := 5) (show 0 <= 5 by decide) x2f.nd rfl (Or.inl rfl)) (y44))) z1a))) (x09 (y60 (x41 (x0s (qv 1 rfl (Or.inl rfl)) (x0b)) (x0s (qv 3 rfl (Or.inl rfl)) (x0b))) (y71 (n := 3) rfl (x5i (x0m (i := 6) (show 0 <= 6 by decide) x2f.nd rfl (Or.inl rfl)) (x5i (x0m (i := 4) (show 0 <= 4 by decide) x2f.nd rfl (Or.inl rfl)) (x5i (x0m (i := 7) (show 0 <= 7 by decide) x2f.nd rfl (Or.inl rfl)) (y44)))) z2b))
    (x0f (x0j (i := 5) x2f.nd rfl (Or.inl rfl) (x0s (qv 7 rfl (Or.inl rfl)) (x0s (qv 2 rfl (Or.inl rfl)) (x02 (qv 6 rfl (Or.inl rfl)))))))))
    (x0f (x0l (y4b (y4b (y7z (x02 (qv 2 rfl (Or.inl rfl))) (x4n) (x4w (x02 (qv 4 rfl (Or.inl rfl))))) (x2u (x00 (x41 (x0s (qv 0 rfl (Or.inl rfl)) (x0s (qv 2 rfl (Or.inl rfl)) (x02 (qv 4 rfl (Or.inl rfl))))) (x02 (qv 5 rfl (Or.inl rfl)))) (x03) x0u))) (y7z (x02 (qv 2 rfl (Or.inl rfl))) (x4w (x14 (x02 (qv 4 rfl (Or.inl rfl))) (x0b))) (x4n)))))
noncomputable abbrev x6b : x1c := x0y (x1n 5 (eC (.bl false)))
  (x7i (x9l (x08 2)) (x0o 6) (x0y (x1n 7 (x0k x2s 4 (x01 (x08 0) (x01 (x08 1) (x01 (x08 3) (x01 (x08 6) (x0h)))))))
  (sIf (x3d (e2 dNe (x08 7) (x08 3))) (x0y (x1n 3 (x08 7))
  (x0y (x1n 4 (e2 x29 (x08 4) (eC (.int 1))))
  (x1n 5 (eC (.bl true))))) (x71))))
noncomputable abbrev x4r : x1c := x0y (x1n 7 (x0k x2s 4 (x01 (x08 0) (x01 (x08 1) (x01 (x08 3) (x01 (x08 6) (x0h)))))))
  (sIf (x3d (e2 dNe (x08 7) (x08 3))) (x0y (x1n 3 (x08 7))
  (x0y (x1n 4 (e2 x29 (x08 4) (eC (.int 1))))
  (x1n 5 (eC (.bl true))))) (x71))
noncomputable def x7r : x1c := x0y (x1n 3 (y57 (x5e (x01 (x0k x1r 1 (x01 (x08 0) (x0h))) (x0h))) (x1q 1 (eC (.int 0)))))
  (x0y (x1n 4 (eC (.int 0)))
  (x0y (x1n 5 (eC (.bl true)))
  (x0y (y21 (y2d (x08 5)) (x0y (x1n 5 (eC (.bl false)))
  (x7i (x9l (x08 2)) (x0o 6) (x0y (x1n 7 (x0k x2s 4 (x01 (x08 0) (x01 (x08 1) (x01 (x08 3) (x01 (x08 6) (x0h)))))))
  (sIf (x3d (e2 dNe (x08 7) (x08 3))) (x0y (x1n 3 (x08 7))
  (x0y (x1n 4 (e2 x29 (x08 4) (eC (.int 1))))
  (x1n 5 (eC (.bl true))))) (x71))))))
  (x3f (x5e (x01 (x08 3) (x01 (x08 4) (x0h))))))))
noncomputable def x20 : List D -> Option (D × Nat) := fnD 8 x7r
theorem x18 : FnScope ["_law_ladder_here", "_law_chart_here", "_law_order", "_law_worths", "_law_many", "_law_again", "_law_step_here", "_law_behind"] ["_law_ladder_here", "_law_chart_here", "_law_order"] (x0d (top 44)) := ⟨rfl, rfl, rfl, by decide +kernel, rfl, by decide +kernel, by decide +kernel⟩
theorem y19 (B : Bt mg) (c__law_low : Cal P w K mg base 1 "_law_low" 1 x1r) (c__law_step : Cal P w K mg base 1 "_law_step" 4 x2s) (a : At K mg "_law_round" (top 44) ["_law_ladder_here", "_law_chart_here", "_law_order"]) : Cal P w K mg base 2 "_law_round" 3 x20 :=
  Cal.mkQ (k := 1) a x18 fun f cdv A outer s H E hr =>
    x09 (x0j (i := 3) x18.nd rfl (Or.inl rfl) (y5u (x2u (x00 (x0c c__law_low hr (by decide) (x00 (x02 (qv 0 rfl (Or.inl rfl))) (x03) x05)) (x03) x0i)) (x0s (qv 1 rfl (Or.inl rfl)) (x0b))))
    (x09 (x0j (i := 4) x18.nd rfl (Or.inl rfl) (x0b))
    (x09 (x0j (i := 5) x18.nd rfl (Or.inl rfl) (x8f))
    (x09 (y1f PassesOwn.never (x5a (x02 (qv 5 rfl (Or.inl rfl)))) (x09 (x0j (i := 5) x18.nd rfl (Or.inl rfl) (x8f))
    (x0f (x2n PassesOwn.never rfl (x5m (x02 (qv 2 rfl (Or.inl rfl)))) (x0m (i := 6) (show 0 <= 6 by decide) x18.nd rfl (Or.inl rfl)) (x09 (x0j (i := 7) x18.nd rfl (Or.inl rfl) (x0c c__law_step hr (by decide) (x00 (x02 (qv 0 rfl (Or.inl rfl))) (x00 (x02 (qv 1 rfl (Or.inl rfl))) (x00 (x02 (qv 3 rfl (Or.inl rfl))) (x00 (x02 (qv 6 rfl (Or.inl rfl))) (x03) x05) x05) x05) x05)))
    (x0f (x2v (x6u hr (x02 (qv 7 rfl (Or.inl rfl))) (x02 (qv 3 rfl (Or.inl rfl)))) (x09 (x0j (i := 3) x18.nd rfl (Or.inl rfl) (x02 (qv 7 rfl (Or.inl rfl))))
    (x09 (x0j (i := 4) x18.nd rfl (Or.inl rfl) (x14 (x02 (qv 4 rfl (Or.inl rfl))) (x0b)))
    (x0f (x0j (i := 5) x18.nd rfl (Or.inl rfl) (x8f))))) (x24))))))))
    (x0f (x0l (x2u (x00 (x02 (qv 3 rfl (Or.inl rfl))) (x00 (x02 (qv 4 rfl (Or.inl rfl))) (x03) x05) x05)))))))
noncomputable def x8j : x1c := x0y (x1n 1 (x3a 1 (x10 (x01 (eB y0i (x01 (x1q 0 (eC (.int 2))) (x0h))) (x0h))) (x0o 2) (x2m) (x5e (x01 (eC (.str "begin")) (x01 (x08 2) (x0h)))) false))
  (x3f (x68 (x08 1) (x3a 1 (x10 (x01 (eB y0i (x01 (x1q 0 (eC (.int 1))) (x0h))) (x0h))) (x0o 2) (x2m) (x5e (x01 (eC (.str "way")) (x01 (x08 2) (x0h)))) false)))
noncomputable def x3t : List D -> Option (D × Nat) := fnD 2 x8j
theorem x7u : FnScope ["chart", "begins"] ["chart"] (x0d (top 18)) := ⟨rfl, rfl, rfl, by decide +kernel, rfl, by decide +kernel, by decide +kernel⟩
theorem y3g (B : Bt mg)  (a : At K mg "all_steps" (top 18) ["chart"]) : Cal P w K mg base 1 "all_steps" 1 x3t :=
  Cal.mkQ (k := 0) a x7u fun f cdv A outer s H E hr =>
    x09 (y0n (i := 1) (k := 1) (N' := ["chart", "begins", "number"]) false x7u.nd rfl (Or.inl rfl) rfl rfl ⟨rfl, by decide +kernel, rfl, rfl, rfl⟩ (x0r B.m_range (x00 (x8e B.m_len (x00 (x0s (qv 0 rfl (Or.inl rfl)) (x0b)) (x03) x0u)) (x03) x0i)) (fun _ _ _ _ => x0m (i := 2) (show 2 <= 2 by decide) (show List.Nodup (["chart", "begins", "number"] : List Str) by decide +kernel) rfl (Or.inl rfl) (Or.inr rfl)) (fun _ _ _ _ => x2l) (fun _ _ _ _ => x2u (x00 (x37) (x00 (x02 (qv 2)) (x03) x05) x06)))
    (x0f (x0l (y08 (x02 (qv 1 rfl (Or.inl rfl))) (x3h (k := 1) (N' := ["chart", "begins", "number"]) false rfl ⟨rfl, by decide +kernel, rfl, rfl, rfl⟩ (x0r B.m_range (x00 (x8e B.m_len (x00 (x0s (qv 0 rfl (Or.inl rfl)) (x0b)) (x03) x0u)) (x03) x0i)) (fun _ _ _ _ => x0m (i := 2) (show 2 <= 2 by decide) (show List.Nodup (["chart", "begins", "number"] : List Str) by decide +kernel) rfl (Or.inl rfl) (Or.inr rfl)) (fun _ _ _ _ => x2l) (fun _ _ _ _ => x2u (x00 (x37) (x00 (x02 (qv 2)) (x03) x05) x06))))))
noncomputable def y5k : x1c := x3f (eIx (x0k x1u 3 (x01 (x08 0) (x01 (x08 1) (x01 (x0k x3t 1 (x01 (x08 1) (x0h))) (x0h))))) (eC (.int 0)))
noncomputable def x7d : List D -> Option (D × Nat) := fnD 2 y5k
theorem y9b : FnScope ["ladder", "chart"] ["ladder", "chart"] (x0d (top 17)) := ⟨rfl, rfl, rfl, by decide +kernel, rfl, by decide +kernel, by decide +kernel⟩
theorem z2m (B : Bt mg) (c_least_by : Cal P w K mg base 6 "least_by" 3 x1u) (c_all_steps : Cal P w K mg base 1 "all_steps" 1 x3t) (a : At K mg "least" (top 17) ["ladder", "chart"]) : Cal P w K mg base 7 "least" 2 x7d :=
  Cal.mkQ (k := 6) a y9b fun f cdv A outer s H E hr =>
    x0f (x0l (x41 (x0c c_least_by hr (by decide) (x00 (x02 (qv 0 rfl (Or.inl rfl))) (x00 (x02 (qv 1 rfl (Or.inl rfl))) (x00 (x0c c_all_steps hr (by decide) (x00 (x02 (qv 1 rfl (Or.inl rfl))) (x03) x05)) (x03) x0i) x05) x05)) (x0b)))
noncomputable abbrev y41 : x1c := x0y (x34 (x7q 4 (x01 (y75 3 (x01 (x0k x0a 3 (x01 (x08 0) (x01 (e2 x29 (eC (.int 200)) (e2 x8s (eC (.int 2)) (x08 5))) (x01 (x13 3) (x0h))))) (x0h))) (x0h))))
  (sIf (x3d (e2 dEq (x0k x0a 3 (x01 (x08 0) (x01 (e2 x29 (eC (.int 201)) (e2 x8s (eC (.int 2)) (x08 5))) (x01 (eC (.int 4)) (x0h))))) (eC (.int 0)))) (x34 (x7q 4 (x01 (x1q 4 (x0k x0a 3 (x01 (x08 0) (x01 (e2 x29 (eC (.int 230)) (x08 5)) (x01 (x13 4) (x0h)))))) (x0h)))) (x71))
noncomputable def z3x : x1c := x0y (x1n 1 (x0k x32 2 (x01 (x08 0) (x01 (eC (.int 0)) (x0h)))))
  (x0y (x1n 2 (x0k x3e 4 (x01 (x08 0) (x01 (eC (.int 20)) (x01 (x08 1) (x01 (eC (.bl false)) (x0h)))))))
  (x0y (x1n 3 (x0k x1t 1 (x01 (x08 2) (x0h))))
  (x0y (x1n 4 (x49 (x0h)))
  (x0y (x7i (x10 (x01 (x13 3) (x0h))) (x0o 5) (x0y (x34 (x7q 4 (x01 (y75 3 (x01 (x0k x0a 3 (x01 (x08 0) (x01 (e2 x29 (eC (.int 200)) (e2 x8s (eC (.int 2)) (x08 5))) (x01 (x13 3) (x0h))))) (x0h))) (x0h))))
  (sIf (x3d (e2 dEq (x0k x0a 3 (x01 (x08 0) (x01 (e2 x29 (eC (.int 201)) (e2 x8s (eC (.int 2)) (x08 5))) (x01 (eC (.int 4)) (x0h))))) (eC (.int 0)))) (x34 (x7q 4 (x01 (x1q 4 (x0k x0a 3 (x01 (x08 0) (x01 (e2 x29 (eC (.int 230)) (x08 5)) (x01 (x13 4) (x0h)))))) (x0h)))) (x71))))
  (x0y (x1n 6 (x0k x1a 3 (x01 (x08 1) (x01 (x08 2) (x01 (x08 4) (x0h))))))
  (x0y (sIf (y7c (x3d (e2 dNe (x08 6) (x0k x20 3 (x01 (x08 1) (x01 (x08 2) (x01 (x08 4) (x0h))))))) (x3d (e2 dNe (x1q 6 (eC (.int 0))) (x0k x7d 2 (x01 (x08 1) (x01 (x08 2) (x0h))))))) (x3f (eC (.bl false))) (x71))
  (x0y (x1n 7 (y2l (x08 4) (x58) (x4m (x0k x0a 3 (x01 (x08 0) (x01 (eC (.int 250)) (x01 (e2 x29 (x13 4) (eC (.int 1))) (x0h))))))))
  (x0y (sIf (x3d (e2 dNe (x0k x1a 3 (x01 (x08 1) (x01 (x08 2) (x01 (x08 7) (x0h))))) (x0k x20 3 (x01 (x08 1) (x01 (x08 2) (x01 (x08 7) (x0h))))))) (x3f (eC (.bl false))) (x71))
  (x0y (x1n 8 (eIx (x49 (x01 (x5e (x01 (eC (.str "way")) (x01 (eB y0i (x01 (x1q 2 (eC (.int 1))) (x0h))) (x0h)))) (x01 (x5e (x01 (eC (.str "begin")) (x01 (eB y0i (x01 (x1q 2 (eC (.int 2))) (x0h))) (x0h)))) (x01 (x5e (x01 (eC (.str "way")) (x01 (z6w (eC (.int 1))) (x0h)))) (x01 (x5e (x01 (eC (.str "stop")) (x01 (eC (.int 0)) (x0h)))) (x0h)))))) (x0k x0a 3 (x01 (x08 0) (x01 (eC (.int 251)) (x01 (eC (.int 4)) (x0h)))))))
  (x0y (x1n 9 (x0k x0a 3 (x01 (x08 0) (x01 (eC (.int 252)) (x01 (e2 x29 (x13 4) (eC (.int 1))) (x0h))))))
  (x3f (e2 dEq (x0k x1a 3 (x01 (x08 1) (x01 (x08 2) (x01 (x68 (x68 (y2l (x08 4) (x58) (x4m (x08 9))) (x49 (x01 (x08 8) (x0h)))) (y2l (x08 4) (x4m (x08 9)) (x58))) (x0h))))) (eC (.str "no step"))))))))))))))
noncomputable def y4m : List D -> Option (D × Nat) := fnD 10 z3x
theorem x5z : FnScope ["_law_script", "_law_ladder_here", "_law_chart_here", "_law_left", "_law_order", "_law_k", "_law_told", "_law_some", "_law_bad", "_law_place"] ["_law_script"] (x0d (top 45)) := ⟨rfl, rfl, rfl, by decide +kernel, rfl, by decide +kernel, by decide +kernel⟩
theorem z2d (B : Bt mg) (c__law_ladder : Cal P w K mg base 4 "_law_ladder" 2 x32) (c__law_chart : Cal P w K mg base 5 "_law_chart" 4 x3e) (c__law_every_step : Cal P w K mg base 1 "_law_every_step" 1 x1t) (c__law_pick : Cal P w K mg base 2 "_law_pick" 3 x0a) (c__law_tried : Cal P w K mg base 7 "_law_tried" 3 x1a) (c__law_round : Cal P w K mg base 2 "_law_round" 3 x20) (c_least : Cal P w K mg base 7 "least" 2 x7d) {f : Addr} {fd : FuncData} (F : Fun K "law" "law" (top 45) f fd) : FnOk P w K mg base CX0 8 f fd ["_law_script"] (spD K 1 y4m) :=
  z0s (k := 7) F x5z fun f cdv A outer s H E hr =>
    x09 (x0j (i := 1) x5z.nd rfl (Or.inl rfl) (x0c c__law_ladder hr (by decide) (x00 (x02 (qv 0 rfl (Or.inl rfl))) (x00 (x0b) (x03) x06) x05)))
    (x09 (x0j (i := 2) x5z.nd rfl (Or.inl rfl) (x0c c__law_chart hr (by decide) (x00 (x02 (qv 0 rfl (Or.inl rfl))) (x00 (x0b) (x00 (x02 (qv 1 rfl (Or.inl rfl))) (x00 (x8f) (x03) x06) x05) x06) x05)))
    (x09 (x0j (i := 3) x5z.nd rfl (Or.inl rfl) (x0c c__law_every_step hr (by decide) (x00 (x02 (qv 2 rfl (Or.inl rfl))) (x03) x05)))
    (x09 (x0j (i := 4) x5z.nd rfl (Or.inl rfl) (x1w (x03)))
    (x09 (x2n PassesOwn.never rfl (x0r B.m_range (x00 (x0z B.m_len (qv 3 rfl (Or.inl rfl))) (x03) x0i)) (x0m (i := 5) (show 0 <= 5 by decide) x5z.nd rfl (Or.inl rfl)) (x09 (x2c (x28 (qv 4 rfl (Or.inl rfl)) (x00 (z09 (qv 3 rfl (Or.inl rfl)) (x00 (x0c c__law_pick hr (by decide) (x00 (x02 (qv 0 rfl (Or.inl rfl))) (x00 (x14 (x0b) (x51 (x0b) (x02 (qv 5 rfl (Or.inl rfl))))) (x00 (x0z B.m_len (qv 3 rfl (Or.inl rfl))) (x03) x0i) x0v) x05)) (x03) x0i)) (x03) x0i)))
    (x0f (x2v (x7p hr (x0c c__law_pick hr (by decide) (x00 (x02 (qv 0 rfl (Or.inl rfl))) (x00 (x14 (x0b) (x51 (x0b) (x02 (qv 5 rfl (Or.inl rfl))))) (x00 (x0b) (x03) x06) x0v) x05)) (x0b)) (x0f (x2c (x28 (qv 4 rfl (Or.inl rfl)) (x00 (x0s (qv 4 rfl (Or.inl rfl)) (x0c c__law_pick hr (by decide) (x00 (x02 (qv 0 rfl (Or.inl rfl))) (x00 (x14 (x0b) (x02 (qv 5 rfl (Or.inl rfl)))) (x00 (x0z B.m_len (qv 4 rfl (Or.inl rfl))) (x03) x0i) x0v) x05))) (x03) x0u)))) (x24)))))
    (x09 (x0j (i := 6) x5z.nd rfl (Or.inl rfl) (x0c c__law_tried hr (by decide) (x00 (x02 (qv 1 rfl (Or.inl rfl))) (x00 (x02 (qv 2 rfl (Or.inl rfl))) (x00 (x02 (qv 4 rfl (Or.inl rfl))) (x03) x05) x05) x05)))
    (x09 (x2v (y7m (y28 (x6u hr (x02 (qv 6 rfl (Or.inl rfl))) (x0c c__law_round hr (by decide) (x00 (x02 (qv 1 rfl (Or.inl rfl))) (x00 (x02 (qv 2 rfl (Or.inl rfl))) (x00 (x02 (qv 4 rfl (Or.inl rfl))) (x03) x05) x05) x05))) (y0h (x6u hr (x0s (qv 6 rfl (Or.inl rfl)) (x0b)) (x0c c_least hr (by decide) (x00 (x02 (qv 1 rfl (Or.inl rfl))) (x00 (x02 (qv 2 rfl (Or.inl rfl))) (x03) x05) x05)))))) (x0f (x0l (x8f))) (x24))
    (x09 (x0j (i := 7) x5z.nd rfl (Or.inl rfl) (y6x (x02 (qv 4 rfl (Or.inl rfl))) (x4n) (x4w (x0c c__law_pick hr (by decide) (x00 (x02 (qv 0 rfl (Or.inl rfl))) (x00 (x0b) (x00 (x14 (x0z B.m_len (qv 4 rfl (Or.inl rfl))) (x0b)) (x03) x0v) x06) x05)))))
    (x09 (x2v (x6u hr (x0c c__law_tried hr (by decide) (x00 (x02 (qv 1 rfl (Or.inl rfl))) (x00 (x02 (qv 2 rfl (Or.inl rfl))) (x00 (x02 (qv 7 rfl (Or.inl rfl))) (x03) x05) x05) x05)) (x0c c__law_round hr (by decide) (x00 (x02 (qv 1 rfl (Or.inl rfl))) (x00 (x02 (qv 2 rfl (Or.inl rfl))) (x00 (x02 (qv 7 rfl (Or.inl rfl))) (x03) x05) x05) x05))) (x0f (x0l (x8f))) (x24))
    (x09 (x0j (i := 8) x5z.nd rfl (Or.inl rfl) (x41 (x1w (x00 (x2u (x00 (x37) (x00 (x8e B.m_len (x00 (x0s (qv 2 rfl (Or.inl rfl)) (x0b)) (x03) x0u)) (x03) x0i) x06)) (x00 (x2u (x00 (x37) (x00 (x8e B.m_len (x00 (x0s (qv 2 rfl (Or.inl rfl)) (x0b)) (x03) x0u)) (x03) x0i) x06)) (x00 (x2u (x00 (x37) (x00 (z5v (x0b)) (x03) y4x) x06)) (x00 (x2u (x00 (x37) (x00 (x0b) (x03) x06) x06)) (x03) x5s) x5s) x5s) x5s)) (x0c c__law_pick hr (by decide) (x00 (x02 (qv 0 rfl (Or.inl rfl))) (x00 (x0b) (x00 (x0b) (x03) x06) x06) x05))))
    (x09 (x0j (i := 9) x5z.nd rfl (Or.inl rfl) (x0c c__law_pick hr (by decide) (x00 (x02 (qv 0 rfl (Or.inl rfl))) (x00 (x0b) (x00 (x14 (x0z B.m_len (qv 4 rfl (Or.inl rfl))) (x0b)) (x03) x0v) x06) x05)))
    (x0f (x0l (z8e hr (x0c c__law_tried hr (by decide) (x00 (x02 (qv 1 rfl (Or.inl rfl))) (x00 (x02 (qv 2 rfl (Or.inl rfl))) (x00 (y08 (y08 (y6x (x02 (qv 4 rfl (Or.inl rfl))) (x4n) (x4w (x02 (qv 9 rfl (Or.inl rfl))))) (x1w (x00 (x02 (qv 8 rfl (Or.inl rfl))) (x03) x05))) (y6x (x02 (qv 4 rfl (Or.inl rfl))) (x4w (x02 (qv 9 rfl (Or.inl rfl)))) (x4n))) (x03) x0v) x05) x05)) (x37))))))))))))))
end
noncomputable abbrev scr (ns : List Int) : D := .lst (ns.map D.int)
noncomputable def y8n (ns : List Int) (k : Int) : Int := if k < ns.length then ns.getD k.toNat 0 else if ns = [] then 0 else ns.getD (k % ns.length).toNat 0 * 31 + k
theorem y9z {ns : List Int} {k : Int} (h0 : 0 <= k) (h : k < ns.length) : L2.atI (ns.map D.int) k = some (.int (ns.getD k.toNat 0)) := by
  obtain ⟨m, rfl⟩ : ∃ m : Nat, k = Int.ofNat m := ⟨k.toNat, by show k = (k.toNat : Int); omega⟩
  have hk : m < ns.length := by have : (m : Int) < ns.length := h; omega
  apply x8x
  rw [List.getElem?_map, List.getElem?_eq_getElem hk]
  simp [hk]
theorem z47 (ns : List Int) : Sh 1 (scr ns) := .lst fun d m => by
  obtain ⟨x, _, rfl⟩ := List.mem_map.mp m
  exact .int _
theorem z0d (ns : List Int) : dEq (scr ns) (.lst []) = some (.bl (decide (ns = []))) := by
  unfold dEq
  rw [if_pos ⟨(z47 ns).ok, (z8m []).ok⟩]
  cases ns <;> rfl
theorem z1n (ns : List Int) (k : Int) (h0 : 0 <= k) : x3q [scr ns, .int k] = some (.int (y8n ns k), 9) := by
  unfold x3q x95 y8n
  by_cases h : k < ns.length
  · simp [h, y9z h0 h, x56, atD]
  · by_cases hn : ns = []
    · subst hn
      have h' : ¬ k < 0 := by omega
      simp [h', x56, z0d]
    · have hp : (0 : Int) < ns.length := by have := List.length_pos_iff.mpr hn; omega
      have h1 := Int.emod_nonneg k (Int.ne_of_gt hp)
      have h2 := Int.emod_lt_of_pos k hp
      have h3 := y9z h1 h2
      have hp' := List.length_pos_iff.mpr hn
      simp [h, x56, atD, z0d, hn, hp', h3]
noncomputable def x7x (ns : List Int) (k : Int) : Int := (y8n ns k + 6151 * (k + 1)) * 40692 % 2147483399
noncomputable def x5x (ns : List Int) (k m : Int) : Int := (x7x ns k * x7x ns k + x7x ns k / 31) % 2147483629 % m
theorem x5d (ns : List Int) (k m : Int) (h0 : 0 <= k) (hm : 0 < m) : x0a [scr ns, .int k, .int m] = some (.int (x5x ns k m), 9) := by
  have d0 : 0 <= x7x ns k := Int.emod_nonneg _ (by decide)
  have d1 : x7x ns k < 2147483399 := Int.emod_lt_of_pos _ (by decide)
  have g1 : -18446744073709551616 < x7x ns k := by omega
  have g2 : x7x ns k < 18446744073709551616 := by omega
  have hd : (y8n ns k + 6151 * (k + 1)) * 40692 % 2147483399 = x7x ns k := rfl
  unfold x0a x8z x5x
  simp [z1n ns k h0, hm, hd, g1, g2]
theorem x4q (ns : List Int) (k : Int) {m : Int} (hm : 0 < m) : 0 <= x5x ns k m := Int.emod_nonneg _ (Int.ne_of_gt hm)
theorem x5j (ns : List Int) (k : Int) {m : Int} (hm : 0 < m) : x5x ns k m < m := Int.emod_lt_of_pos _ hm
noncomputable def tf (rows : List (List Nat)) (i j : Nat) : Nat := (rows.getD i []).getD j 0
noncomputable def x2w (rows : List (List Nat)) : D := x35 rows.length (tf rows)
noncomputable def ch (n : Nat) : List (List Nat) := (List.range n).map fun i => (List.range n).map fun j => max i j
noncomputable def cp (a b : List (List Nat)) : List (List Nat) := (List.range (a.length * b.length)).map fun i => (List.range (a.length * b.length)).map fun j => tf a (i / b.length) (j / b.length) * b.length + tf b (i % b.length) (j % b.length)
noncomputable def sb (n : Nat) : List (List Nat) := (List.range (n + 2)).map fun i => (List.range (n + 2)).map fun j => if i = 0 \/ j = 0 \/ i = j then max i j else n + 1
noncomputable def n5 : List (List Nat) := [[0, 1, 2, 3, 4], [1, 1, 2, 4, 4], [2, 2, 2, 4, 4], [3, 4, 4, 3, 4], [4, 4, 4, 4, 4]]
noncomputable def y18 : List (List (List Nat)) := [ch 1, ch 2, ch 3, ch 4, ch 5, cp (ch 2) (ch 2), cp (ch 2) (ch 3), cp (ch 2) (ch 4), sb 0, sb 1, sb 2, sb 3, sb 4, cp (ch 2) (cp (ch 2) (ch 2)), n5]
theorem ch1 : x0w [.int 1] = some (x2w (ch 1), 1) := by rfl
theorem ch2 : x0w [.int 2] = some (x2w (ch 2), 1) := by rfl
theorem ch3 : x0w [.int 3] = some (x2w (ch 3), 1) := by rfl
theorem ch4 : x0w [.int 4] = some (x2w (ch 4), 1) := by rfl
theorem ch5 : x0w [.int 5] = some (x2w (ch 5), 1) := by rfl
theorem sb0 : x0t [.int 0] = some (x2w (sb 0), 0) := by rfl
theorem sb1 : x0t [.int 1] = some (x2w (sb 1), 0) := by rfl
theorem sb2 : x0t [.int 2] = some (x2w (sb 2), 0) := by rfl
theorem sb3 : x0t [.int 3] = some (x2w (sb 3), 0) := by rfl
theorem sb4 : x0t [.int 4] = some (x2w (sb 4), 0) := by rfl
theorem z8w : x12 [x2w (ch 2), x2w (ch 2)] = some (x2w (cp (ch 2) (ch 2)), 0) := by rfl
theorem z9q : x12 [x2w (ch 2), x2w (ch 3)] = some (x2w (cp (ch 2) (ch 3)), 0) := by rfl
theorem j03 : x12 [x2w (ch 2), x2w (ch 4)] = some (x2w (cp (ch 2) (ch 4)), 0) := by rfl
theorem z7o : x12 [x2w (ch 2), x2w (cp (ch 2) (ch 2))] = some (x2w (cp (ch 2) (cp (ch 2) (ch 2))), 0) := by rfl
theorem z1p (ns : List Int) (t : Int) (h0 : 0 <= t) : ∃ rows ∈ y18, ∃ q, x3o [scr ns, .int t] = some (x2w rows, q) := by
  have k0 := x4q ns t (m := 9) (by decide)
  have k1 := x5j ns t (m := 9) (by decide)
  have p0 := x4q ns (t + 1) (m := 5) (by decide)
  have p1 := x5j ns (t + 1) (m := 5) (by decide)
  have r0 := x4q ns (t + 1) (m := 3) (by decide)
  have r1 := x5j ns (t + 1) (m := 3) (by decide)
  have e9 := x5d ns t 9 h0 (by decide)
  have e5 := x5d ns (t + 1) 5 (by omega) (by decide)
  have e3 := x5d ns (t + 1) 3 (by omega) (by decide)
  have mem : ∀ i : Nat, i < 15 -> y18.getD i [] ∈ y18 := fun i hi => by
    rw [List.getD_eq_getElem?_getD, List.getElem?_eq_getElem (show i < y18.length from hi)]
    exact List.getElem_mem _
  have hc : ∀ p : Int, 0 <= p -> p < 5 -> ∃ rows ∈ y18, x0w [.int (1 + p)] = some (x2w rows, 1) := fun p a b => by
    have : p = 0 \/ p = 1 \/ p = 2 \/ p = 3 \/ p = 4 := by omega
    rcases this with rfl | rfl | rfl | rfl | rfl
    · exact ⟨_, mem 0 (by decide), ch1⟩
    · exact ⟨_, mem 1 (by decide), ch2⟩
    · exact ⟨_, mem 2 (by decide), ch3⟩
    · exact ⟨_, mem 3 (by decide), ch4⟩
    · exact ⟨_, mem 4 (by decide), ch5⟩
  have hs : ∀ p : Int, 0 <= p -> p < 5 -> ∃ rows ∈ y18, x0t [.int p] = some (x2w rows, 0) := fun p a b => by
    have : p = 0 \/ p = 1 \/ p = 2 \/ p = 3 \/ p = 4 := by omega
    rcases this with rfl | rfl | rfl | rfl | rfl
    · exact ⟨_, mem 8 (by decide), sb0⟩
    · exact ⟨_, mem 9 (by decide), sb1⟩
    · exact ⟨_, mem 10 (by decide), sb2⟩
    · exact ⟨_, mem 11 (by decide), sb3⟩
    · exact ⟨_, mem 12 (by decide), sb4⟩
  have hp : ∀ r : Int, 0 <= r -> r < 3 -> ∃ x rows1 rows, atD (.lst [.int 2, .int 3, .int 4]) r = some (.int x) /\ x0w [.int x] = some (x2w rows1, 1) /\ rows ∈ y18 /\ x12 [x2w (ch 2), x2w rows1] = some (x2w rows, 0) := fun r a b => by
    have : r = 0 \/ r = 1 \/ r = 2 := by omega
    rcases this with rfl | rfl | rfl
    · exact ⟨2, _, _, rfl, ch2, mem 5 (by decide), z8w⟩
    · exact ⟨3, _, _, rfl, ch3, mem 6 (by decide), z9q⟩
    · exact ⟨4, _, _, rfl, ch4, mem 7 (by decide), j03⟩
  unfold x3o x8w
  generalize x5x ns t 9 = k at *
  generalize x5x ns (t + 1) 5 = p at *
  generalize x5x ns (t + 1) 3 = r at *
  by_cases h3 : k < 3
  · obtain ⟨rows, hm, e⟩ := hc p p0 p1
    exact ⟨rows, hm, 1, by simp [e9, e5, h3, e]⟩
  by_cases h5 : k < 5
  · obtain ⟨x, rows1, rows, ea, e1, hm, e2'⟩ := hp r r0 r1
    exact ⟨rows, hm, 0, by simp [e9, e3, h3, h5, ch2, ea, e1, e2']⟩
  by_cases h7 : k < 7
  · obtain ⟨rows, hm, e⟩ := hs p p0 p1
    exact ⟨rows, hm, 0, by simp [e9, e5, h3, h5, h7, e]⟩
  have : k = 7 \/ k = 8 := by omega
  rcases this with rfl | rfl
  · exact ⟨_, mem 13 (by decide), 0, by simp [e9, y6m, ch2, z8w]; exact z7o⟩
  · refine ⟨_, mem 14 (by decide), 0, ?_⟩
    simp [e9, y6m]
    rfl
theorem y8c : ∀ rows ∈ y18, z83 rows.length (tf rows) = true := by decide +kernel
noncomputable def pk (ns : List Int) (t : Int) (k m : Nat) : Nat := (x5x ns (t + 2 + Int.ofNat k) (Int.ofNat m)).toNat
theorem z3j (ns : List Int) (t : Int) (k m : Nat) (h : 0 < m) : pk ns t k m < m := by
  have h1 := x4q ns (t + 2 + Int.ofNat k) (m := Int.ofNat m) (by show (0 : Int) < m; omega)
  have h2 := x5j ns (t + 2 + Int.ofNat k) (m := Int.ofNat m) (by show (0 : Int) < m; omega)
  have h3 : (Int.ofNat m) = (m : Int) := rfl
  unfold pk
  omega
theorem z7z (ns : List Int) (t : Int) (k m : Nat) (h : 0 < m) : x5x ns (t + 2 + Int.ofNat k) (Int.ofNat m) = Int.ofNat (pk ns t k m) := by
  have h1 := x4q ns (t + 2 + Int.ofNat k) (m := Int.ofNat m) (by show (0 : Int) < m; omega)
  unfold pk
  show _ = ((x5x ns (t + 2 + Int.ofNat k) (Int.ofNat m)).toNat : Int)
  omega
section
variable (ns : List Int) (t : Int) (n : Nat) (B : Nat -> Nat -> Nat) (q : Nat)
theorem y7h (h0 : 0 <= t) (hn : n <= 8) : x6t 1 (x0o 8) x2m (y75 3 (x01 (x0k x0a 3 (x01 (x08 0) (x01 (e2 x29 (e2 x29 (x08 1) (eC (.int 2))) (x08 8)) (x01 (x13 3) (x0h))))) (x0h))) false (x16 n)
    [some (scr ns, 0), some (.int t, 9), some (x35 n B, q), some (.lst (x16 n), 1), none, none, none, none] =
    some (x0e ((List.range n).map (drawn (pk ns t) n)), [some (scr ns, 0), some (.int t, 9), some (x35 n B, q), some (.lst [], 1), none, none, none, none]) := by
  have hp := z3j ns t
  have h := x4k (k := 1) (pt := x0o 8) (tt := x2m) (te := y75 3 (x01 (x0k x0a 3 (x01 (x08 0) (x01 (e2 x29 (e2 x29 (x08 1) (eC (.int 2))) (x08 8)) (x01 (x13 3) (x0h))))) (x0h))) (deep := false) (x16 n)
    (fun k => [some (scr ns, 0), some (.int t, 9), some (x35 n B, q), some (.lst (x0e (x54 (pk ns t) n k)), 1), none, none, none, none]) (fun _ => true) (fun k => .int (Int.ofNat (drawn (pk ns t) n k))) (fun k hk => ?_)
  · rw [x0q] at h
    have hl : x54 (pk ns t) n n = [] := List.length_eq_zero_iff.mp (by rw [x6d hp n (Nat.le_refl n)]; omega)
    rw [hl] at h
    have e1 : (List.range n).filter (fun _ => true) = List.range n := by simp
    rw [e1] at h
    simp only [x0e, List.map_map, Function.comp_def]
    exact h
  · rw [x0q] at hk
    have hl := x6d hp k (Nat.le_of_lt hk)
    have hlp : 0 < (x54 (pk ns t) n k).length := by rw [hl]; omega
    have e := z7z ns t k _ hlp
    have hj := z3j ns t k _ hlp
    have hpk := x5d ns (t + 2 + Int.ofNat k) (Int.ofNat (x54 (pk ns t) n k).length) (by show 0 <= t + 2 + (k : Int); omega) (by show (0 : Int) < ((x54 (pk ns t) n k).length : Int); omega)
    have hs : seqIndex? (Int.ofNat (pk ns t k (x54 (pk ns t) n k).length)) (x0e (x54 (pk ns t) n k)).length = some (pk ns t k (x54 (pk ns t) n k).length) := (y0s (x8k (by rw [x1m]; exact hj))).1
    have hg : (x0e (x54 (pk ns t) n k))[pk ns t k (x54 (pk ns t) n k).length]? = some (.int (Int.ofNat (drawn (pk ns t) n k))) := by
      rw [y3y]
      unfold drawn
      rw [List.getD_eq_getElem?_getD, List.getElem?_eq_getElem hj]
      rfl
    have hb : pk ns t k (x54 (pk ns t) n k).length <= 8 := by omega
    have he : (x0e (x54 (pk ns t) n k)).eraseIdx (pk ns t k (x54 (pk ns t) n k).length) = x0e (x54 (pk ns t) n (k + 1)) := by rw [x54, x9s]
    refine ⟨[some (scr ns, 0), some (.int t, 9), some (x35 n B, q), some (.lst (x0e (x54 (pk ns t) n k)), 1), none, none, none, none, some (.int (Int.ofNat k), 9)], _, by simp [x16], rfl, ?_⟩
    rw [if_pos rfl]
    refine ⟨9, [some (scr ns, 0), some (.int t, 9), some (x35 n B, q), some (.lst (x0e (x54 (pk ns t) n (k + 1))), 1), none, none, none, none, some (.int (Int.ofNat k), 9)], ?_, by simp, by simp⟩
    have b1 : (-1000 : Int) <= Int.ofNat (pk ns t k (x54 (pk ns t) n k).length) := by show (-1000 : Int) <= (pk ns t k (x54 (pk ns t) n k).length : Int); omega
    have b2 : Int.ofNat (pk ns t k (x54 (pk ns t) n k).length) <= 1000 := by show (pk ns t k (x54 (pk ns t) n k).length : Int) <= 1000; omega
    have hl' : x56 (.lst (x0e (x54 (pk ns t) n k))) = some (x54 (pk ns t) n k).length := by simp [x56, x1m]
    rw [e] at hpk
    simp [-Int.ofNat_eq_natCast, hl', hpk, hs, hg, he, b1, b2]
theorem z1u (hn : n <= 8) (x : Option (D × Nat)) : x6t 1 (x0o 8) x2m (y2x (x49 (x01 (eC (.int 0)) (x0h))) (x13 2)) true ((List.range n).map fun i => x6z n B i)
    [some (scr ns, 0), some (.int t, 9), some (x35 n B, 0), some (.lst [], 1), x, none, none, none] =
    some ((List.range n).map fun i => x6z n (fun _ _ => 0) i, [some (scr ns, 0), some (.int t, 9), some (x35 n B, 0), some (.lst [], 1), x, none, none, none]) := by
  have h := x4k (k := 1) (pt := x0o 8) (tt := x2m) (te := y2x (x49 (x01 (eC (.int 0)) (x0h))) (x13 2)) (deep := true) ((List.range n).map fun i => x6z n B i)
    (fun _ => [some (scr ns, 0), some (.int t, 9), some (x35 n B, 0), some (.lst [], 1), x, none, none, none]) (fun _ => true) (fun i => x6z n (fun _ _ => 0) i) (fun k hk => ?_)
  · rw [List.length_map, List.length_range, show (List.range n).filter (fun _ => true) = List.range n by simp] at h
    exact h
  · refine ⟨[some (scr ns, 0), some (.int t, 9), some (x35 n B, 0), some (.lst [], 1), x, none, none, none, some (x6z n B k, 0)], _, by simp [x6z], rfl, ?_⟩
    rw [if_pos rfl]
    refine ⟨1, [some (scr ns, 0), some (.int t, 9), some (x35 n B, 0), some (.lst [], 1), x, none, none, none, some (x6z n B k, 0)], ?_, by simp, by simp⟩
    have z : x6z n (fun _ _ => 0) k = D.lst (List.replicate n [D.int 0]).flatten := (z7t n).symm
    have b1 : (-1000 : Int) <= n := by omega
    have b2 : (n : Int) <= 1000 := by omega
    have b3 : n <= 1000 := by omega
    rw [z]
    simp [x6y, b1, b2, b3]
noncomputable def gst (π ι : Nat -> Nat) (i j a b : Nat) : Nat := if ι a < i \/ (ι a = i /\ ι b < j) then π (B (ι a) (ι b)) else 0
noncomputable abbrev y2f : x1c := y5d 5 (qIx 4 (z00 6)) (qIx 4 (z00 7)) (x1q 4 (eIx (x1q 2 (x08 6)) (x08 7)))
section
variable {n B} {π ι : Nat -> Nat} (cl : ∀ i j, i < n -> j < n -> B i j < n) (h1 : ∀ i, i < n -> π i < n) (h2 : ∀ i, i < n -> ι i < n) (h3 : ∀ i, i < n -> ι (π i) = i) (h4 : ∀ i, i < n -> π (ι i) = i)
include cl h1 h2 h3 h4
theorem y65 {f : Nat -> Nat -> Nat} {i j : Nat} (hi : i < n) (hj : j < n) {y : Option (D × Nat)} :
    y2f [some (scr ns, 0), some (.int t, 9), some (x35 n B, 0), some (.lst [], 1), some (.lst (x0e ((List.range n).map π)), 1), some (x35 n f, 2), some (.int (Int.ofNat i), 9), some (.int (Int.ofNat j), 9)] =
    some (.nx [some (scr ns, 0), some (.int t, 9), some (x35 n B, 0), some (.lst [], 1), some (.lst (x0e ((List.range n).map π)), 1), some (x35 n (fun a b => if a = π i /\ b = π j then π (B i j) else f a b), 2), some (.int (Int.ofNat i), 9), some (.int (Int.ofNat j), 9)]) := by
  have a1 := z3n (f := B) hi
  have a2 := z1x (f := B) (i := i) hj
  have a3 : atD (.lst (x0e ((List.range n).map π))) (Int.ofNat (B i j)) = some (.int (Int.ofNat (π (B i j)))) := x21 (cl i j hi hj)
  have a4 : atD (.lst (x0e ((List.range n).map π))) (Int.ofNat i) = some (.int (Int.ofNat (π i))) := x21 hi
  have a5 : atD (.lst (x0e ((List.range n).map π))) (Int.ofNat j) = some (.int (Int.ofNat (π j))) := x21 hj
  have a6 : ixN ((List.range n).map fun a => x6z n f a).length (Int.ofNat (π i)) = some (π i) := x8k (by simpa using h1 i hi)
  have a7 : ((List.range n).map fun a => x6z n f a)[π i]? = some (.lst (x0e ((List.range n).map fun b => f (π i) b))) := by rw [List.getElem?_map, List.getElem?_range (h1 i hi)]; rfl
  have a8 : ixN (x0e ((List.range n).map fun b => f (π i) b)).length (Int.ofNat (π j)) = some (π j) := x8k (by simpa [x1m] using h1 j hj)
  have a9 := y7j (n := n) (f := f) (a := π i) (b := π j) (v := π (B i j))
  rw [<- a9]
  show y2f [some (scr ns, 0), some (.int t, 9), some (x35 n B, 0), some (.lst [], 1), some (.lst (x0e ((List.range n).map π)), 1), some (.lst ((List.range n).map fun a => x6z n f a), 2), some (.int (Int.ofNat i), 9), some (.int (Int.ofNat j), 9)] = _
  unfold y2f
  simp only [y5d, x1q, eIx, x08, qIx, z00, List.getElem?_cons_succ, List.getElem?_cons_zero, D.isL, if_true, a1, a2, a3, a4, a5, a6, a7, a8, ne_eq, not_true_eq_false, false_and, and_false, if_false, Bool.false_eq_true, reduceCtorEq, Nat.not_lt_zero, Nat.lt_irrefl, x85, List.set_cons_succ, List.set_cons_zero]
noncomputable abbrev y3j (f : Nat -> Nat -> Nat) (x y : Option (D × Nat)) : Rho := [some (scr ns, 0), some (.int t, 9), some (x35 n B, 0), some (.lst [], 1), some (.lst (x0e ((List.range n).map π)), 1), some (x35 n f, 2), x, y]
omit cl h1 h2 h3 h4
theorem x3l {i : Nat} (h : i < (x16 n).length) : (x16 n)[i] = .int (Int.ofNat i) := by simp [x16]
include cl h1 h2 h3 h4
theorem y7s {i j : Nat} (hi : i < n) (hj : j < n) : x35 n (fun a b => if a = π i /\ b = π j then π (B i j) else gst B π ι i j a b) = x35 n (gst B π ι i (j + 1)) := by
  refine x5u fun a b ha hb => ?_
  unfold gst
  by_cases h : a = π i /\ b = π j
  · obtain ⟨rfl, rfl⟩ := h
    rw [if_pos ⟨rfl, rfl⟩, h3 i hi, h3 j hj, if_pos (.inr ⟨rfl, Nat.lt_succ_self _⟩)]
  · rw [if_neg h]
    have : ¬ (ι a = i /\ ι b = j) := fun ⟨e1, e2⟩ => h ⟨by rw [<- e1, h4 a ha], by rw [<- e2, h4 b hb]⟩
    by_cases c : ι a < i \/ ι a = i /\ ι b < j
    · rw [if_pos c, if_pos (by omega)]
    · rw [if_neg c, if_neg (by omega)]
theorem z1b {i : Nat} : x35 n (gst B π ι i n) = x35 n (gst B π ι (i + 1) 0) := by
  refine x5u fun a b ha hb => ?_
  have := h2 b hb
  unfold gst
  by_cases c : ι a < i \/ ι a = i /\ ι b < n
  · rw [if_pos c, if_pos (by omega)]
  · rw [if_neg c, if_neg (by omega)]
theorem y7q (hn : n <= 8) {i : Nat} (hi : i < n) (y : Option (D × Nat)) : ∃ y', x98 (x0o 7) y2f (x16 n) (y3j ns t (n := n) (B := B) (π := π) (gst B π ι i 0) (some (.int (Int.ofNat i), 9)) y) =
    some (.nx (y3j ns t (n := n) (B := B) (π := π) (gst B π ι (i + 1) 0) (some (.int (Int.ofNat i), 9)) y')) := by
  obtain ⟨ρ', e, y', rfl⟩ := x3j (pt := x0o 7) (body := y2f) (x16 n) (fun j ρ => ∃ y, ρ = y3j ns t (n := n) (B := B) (π := π) (gst B π ι i j) (some (.int (Int.ofNat i), 9)) y) (y3j ns t (n := n) (B := B) (π := π) (gst B π ι i 0) (some (.int (Int.ofNat i), 9)) y) (fun j hj ρ hh0 => by
    obtain ⟨y, hy⟩ := hh0
    subst hy
    rw [x0q] at hj
    refine ⟨y3j ns t (n := n) (B := B) (π := π) (gst B π ι i j) (some (.int (Int.ofNat i), 9)) (some (.int (Int.ofNat j), 9)), _, by rw [x3l]; simp, .inl (y65 ns t cl h1 h2 h3 h4 hi hj (y := none)), ?_⟩
    rw [y7s cl h1 h2 h3 h4 hi hj]
    exact ⟨_, rfl⟩) ⟨y, rfl⟩
  refine ⟨y', ?_⟩
  rw [e, x0q]
  show some (Out.nx [_, _, _, _, _, some (x35 n (gst B π ι i n), 2), _, _]) = _
  rw [z1b cl h1 h2 h3 h4]
theorem y85 (hn : n <= 8) (x y : Option (D × Nat)) : ∃ x' y', x98 (x0o 6) (x7i (x10 (x01 (x13 2) x0h)) (x0o 7) y2f) (x16 n) (y3j ns t (n := n) (B := B) (π := π) (fun _ _ => 0) x y) =
    some (.nx (y3j ns t (n := n) (B := B) (π := π) (fun a b => π (B (ι a) (ι b))) x' y')) := by
  have z : x35 n (fun _ _ => 0) = x35 n (gst B π ι 0 0) := x5u fun a b _ _ => by unfold gst; rw [if_neg (by omega)]
  have z' : x35 n (gst B π ι n 0) = x35 n (fun a b => π (B (ι a) (ι b))) := x5u fun a b ha _ => by unfold gst; rw [if_pos (.inl (h2 a ha))]
  obtain ⟨ρ', e, x', y', rfl⟩ := x3j (pt := x0o 6) (body := x7i (x10 (x01 (x13 2) x0h)) (x0o 7) y2f) (x16 n) (fun i ρ => ∃ x y, ρ = y3j ns t (n := n) (B := B) (π := π) (gst B π ι i 0) x y) (y3j ns t (n := n) (B := B) (π := π) (gst B π ι 0 0) x y) (fun i hi ρ hh0 => by
    obtain ⟨x, y, hy⟩ := hh0
    subst hy
    rw [x0q] at hi
    obtain ⟨y', hy'⟩ := y7q ns t cl h1 h2 h3 h4 hn hi y
    refine ⟨y3j ns t (n := n) (B := B) (π := π) (gst B π ι i 0) (some (.int (Int.ofNat i), 9)) y, _, by rw [x3l]; simp, .inl (show _ = some (Out.nx (y3j ns t (n := n) (B := B) (π := π) (gst B π ι (i + 1) 0) (some (.int (Int.ofNat i), 9)) y')) from ?_), ⟨_, _, rfl⟩⟩
    have b1 : (-1000 : Int) <= Int.ofNat n := by show (-1000 : Int) <= n; omega
    have b2 : Int.ofNat n <= 1000 := by show (n : Int) <= 1000; omega
    have e : x10 (x01 (x13 2) x0h) (y3j ns t (n := n) (B := B) (π := π) (gst B π ι i 0) (some (.int (Int.ofNat i), 9)) y) = some (x16 n, y3j ns t (n := n) (B := B) (π := π) (gst B π ι i 0) (some (.int (Int.ofNat i), 9)) y) := by
      simp [-Int.ofNat_eq_natCast, x6y, b1, b2]
      rfl
    unfold x7i
    rw [e]
    exact hy') ⟨x, y, rfl⟩
  refine ⟨x', y', ?_⟩
  show x98 _ _ _ [_, _, _, _, _, some (x35 n (fun _ _ => 0), 2), _, _] = some (.nx [_, _, _, _, _, some (x35 n (fun a b => π (B (ι a) (ι b))), 2), _, _])
  rw [z, <- z']
  rw [x0q] at e
  exact e
end
end
theorem y8b {n : Nat} {f : Nat -> Nat -> Nat} {a b c d e : Option (D × Nat)} {x y : Option (D × Nat)} : x6t 1 (x0o 8) x2m (x3i (x01 (x08 8) x0h)) false ((List.range n).map fun i => x6z n f i) [a, b, c, d, e, some (x35 n f, 0), x, y] =
    some ((List.range n).map fun i => y4y n f i, [a, b, c, d, e, some (x35 n f, 0), x, y]) := by
  have h := x4k (k := 1) (pt := x0o 8) (tt := x2m) (te := x3i (x01 (x08 8) x0h)) (deep := false) ((List.range n).map fun i => x6z n f i)
    (fun _ => [a, b, c, d, e, some (x35 n f, 0), x, y]) (fun _ => true) (fun i => y4y n f i) (fun k hk => ?_)
  · rw [List.length_map, List.length_range, show (List.range n).filter (fun _ => true) = List.range n by simp] at h
    exact h
  · refine ⟨[a, b, c, d, e, some (x35 n f, 0), x, y, some (x6z n f k, 0)], _, by simp [x6z], rfl, ?_⟩
    rw [if_pos rfl]
    exact ⟨9, [a, b, c, d, e, some (x35 n f, 0), x, y, some (x6z n f k, 0)], by simp [x6z, y4y], by simp, by simp⟩
theorem x4p {n : Nat} (hn : n <= 1000) {i : Nat} {ρ : Rho} {d : D} {q : Nat} (h : ρ[i]? = some (some (d, q))) (hl : x56 d = some n) : x10 (x01 (x13 i) x0h) ρ = some (x16 n, ρ) := by
  have b1 : (-1000 : Int) <= Int.ofNat n := by show (-1000 : Int) <= n; omega
  have b2 : Int.ofNat n <= 1000 := by show (n : Int) <= 1000; omega
  simp only [x10, x01, x13, x0h, h, hl]
  rw [if_pos ⟨b1, b2⟩]
  rfl
theorem z6q (ns : List Int) (t : Int) (h0 : 0 <= t) : ∃ n f, Lad n f /\ x32 [scr ns, .int t] = some (x0n n f, 9) := by
  obtain ⟨rows, hm, q, hb⟩ := z1p ns t h0
  have L := z1l (y8c rows hm)
  unfold x2w at hb
  revert hb L
  generalize rows.length = n
  generalize tf rows = B
  intro hb L
  have hp := z3j ns t
  have hn : n <= 1000 := Nat.le_trans L.hi (by decide)
  refine ⟨n, fun a b => drawn (pk ns t) n (B (x30 (pk ns t) n a) (x30 (pk ns t) n b)), L.ren (fun i hi => y3x hp hi) (fun i hi => x9q hp hi) (fun i hi => x6w hp hi) (fun i hi => x6h hp hi), ?_⟩
  unfold x32 x6n
  refine x38 ?_
  have s0 : x69 8 [scr ns, .int t] = [some (scr ns, 0), some (.int t, 9), none, none, none, none, none, none] := rfl
  rw [s0]
  refine (x0g (ρ1 := [some (scr ns, 0), some (.int t, 9), some (x35 n B, q), none, none, none, none, none]) ?_).trans ?_
  · simp [hb]
  refine (x0g (ρ1 := [some (scr ns, 0), some (.int t, 9), some (x35 n B, q), some (.lst (x16 n), 1), none, none, none, none]) ?_).trans ?_
  · exact x2h (y1i (x4p hn rfl x6y)) rfl
  refine (x0g (ρ1 := [some (scr ns, 0), some (.int t, 9), some (x35 n B, q), some (.lst [], 1), some (.lst (x0e ((List.range n).map (drawn (pk ns t) n))), 1), none, none, none]) ?_).trans ?_
  · exact x2h (x2y (x4p hn rfl x6y) (y7h ns t n B q h0 L.hi)) rfl
  refine (x0g (ρ1 := [some (scr ns, 0), some (.int t, 9), some (x35 n B, 0), some (.lst [], 1), some (.lst (x0e ((List.range n).map (drawn (pk ns t) n))), 1), some (x35 n (fun _ _ => 0), 2), none, none]) ?_).trans ?_
  · have e : x9l (x08 2) [some (scr ns, 0), some (.int t, 9), some (x35 n B, q), some (.lst [], 1), some (.lst (x0e ((List.range n).map (drawn (pk ns t) n))), 1), none, none, none] = some ((List.range n).map fun i => x6z n B i, [some (scr ns, 0), some (.int t, 9), some (x35 n B, 0), some (.lst [], 1), some (.lst (x0e ((List.range n).map (drawn (pk ns t) n))), 1), none, none, none]) := by
      by_cases hq : q = 0
      · subst hq; simp [x35, hn]
      · simp [x35, hn, hq]
    exact x2h (x2y e (z1u ns t n B L.hi _)) rfl
  obtain ⟨x', y', hf⟩ := y85 ns t (n := n) (B := B) (π := drawn (pk ns t) n) (ι := x30 (pk ns t) n) L.cl (fun i hi => y3x hp hi) (fun i hi => x9q hp hi) (fun i hi => x6w hp hi) (fun i hi => x6h hp hi) L.hi none none
  refine (x0g ((x3s (x4p hn rfl x6y)).trans hf)).trans ?_
  refine x3n (ρ1 := [some (scr ns, 0), some (.int t, 9), some (x35 n B, 0), some (.lst [], 1), some (.lst (x0e ((List.range n).map (drawn (pk ns t) n))), 1), some (x35 n (fun a b => drawn (pk ns t) n (B (x30 (pk ns t) n a) (x30 (pk ns t) n b))), 0), x', y']) ?_
  have e : x9l (x08 5) (y3j ns t (n := n) (B := B) (π := drawn (pk ns t) n) (fun a b => drawn (pk ns t) n (B (x30 (pk ns t) n a) (x30 (pk ns t) n b))) x' y') = some ((List.range n).map fun i => x6z n (fun a b => drawn (pk ns t) n (B (x30 (pk ns t) n a) (x30 (pk ns t) n b))) i, [some (scr ns, 0), some (.int t, 9), some (x35 n B, 0), some (.lst [], 1), some (.lst (x0e ((List.range n).map (drawn (pk ns t) n))), 1), some (x35 n (fun a b => drawn (pk ns t) n (B (x30 (pk ns t) n a) (x30 (pk ns t) n b))), 0), x', y']) := by
    simp [x35, hn]
  have e2 := x2y (k := 1) (pt := x0o 8) (tt := x2m) (te := x3i (x01 (x08 8) x0h)) (deep := false) e y8b
  exact y00 (x1b e2)
end My
namespace My
open PySem PySem.Spec PyProof.Rows L2 L3
end My
namespace My
open PySem PySem.Spec PyProof.Rows L2 L3
section
variable {n : Nat} {f : Nat -> Nat -> Nat}
theorem y98 (hn : n <= 1000) {w : Nat} (hw : w < n) : x1z [x0n n f, .int (Int.ofNat w)] = some (.lst (x0e ((List.range n).filter fun x => decide (f x w = w))), 1) := by
  unfold x1z x7m
  refine x38 (x3n (x2y (deep := false) (ρ2 := [some (x0n n f, 9), some (.int (Int.ofNat w), 9)]) (x4p hn rfl x3c) ?_))
  refine y4r (i := 2) (ρ := [some (x0n n f, 9), some (.int (Int.ofNat w), 9)]) (deep := false) rfl (fun x => decide (f x w = w)) (fun x => .int (Int.ofNat x)) (fun _ => 9) (fun j hj => ?_) (fun j hj _ => ?_)
  · simp [-Int.ofNat_eq_natCast, x8v hj, y0j hw, y6t]
  · simp [-Int.ofNat_eq_natCast]
variable (L : Lad n f) {z : Nat} (hz : z < n) (bz : ∀ j, j < n -> f z j = j)
include L hz bz
theorem z4w {w : Nat} (hw : w < n) : decide ((List.range n).map (fun j => f w j) = List.range n) = decide (w = z) := by
  rw [decide_eq_decide, y1h]
  exact ⟨fun h => L.bot_uniq hz bz hw h, fun h => by subst h; exact bz⟩
theorem y78 (hn : n <= 1000) : x1r [x0n n f] = some (.int (Int.ofNat z), 9) := by
  unfold x1r y06
  refine x38 (x3n (ρ1 := [some (x0n n f, 9)]) ?_)
  have hc : x3a 1 (x10 (x01 (x13 0) (x0h))) (x0o 1) (x3d (e2 dEq (x7f (x01 (x1q 0 (x08 1)) (x0h))) (x6e (x01 (x13 0) (x0h))))) (x08 1) false (x69 1 [x0n n f]) = some (.lst (x0e [z]), 1, [some (x0n n f, 9)]) := by
    refine (x2y (deep := false) (ρ2 := [some (x0n n f, 9)]) (x4p hn rfl x3c) (y4r rfl (fun x => decide (x = z)) (fun x => .int (Int.ofNat x)) (fun _ => 9) (fun j hj => ?_) (fun j hj _ => ?_))).trans ?_
    · have e1 : x7f (x01 (x1q 0 (x08 1)) x0h) ([some (x0n n f, 9)] ++ [some (.int (Int.ofNat j), 9)]) = some (.lst (x0e ((List.range n).map fun k => f j k)), 1, [some (x0n n f, 9), some (.int (Int.ofNat j), 9)]) := by
        simp [-Int.ofNat_eq_natCast, x8v hj, y4y]
      have e2' : x6e (x01 (x13 0) x0h) [some (x0n n f, 9), some (.int (Int.ofNat j), 9)] = some (.lst (x0e (List.range n)), 1, [some (x0n n f, 9), some (.int (Int.ofNat j), 9)]) := y1i (x4p hn rfl x3c)
      unfold x3d e2
      rw [e1]
      simp only [e2', z7s, z4w L hz bz hj]
      rfl
    · simp [-Int.ofNat_eq_natCast]
    · rw [y01, if_pos hz]
      rfl
  unfold eIx
  rw [hc]
  simp [-Int.ofNat_eq_natCast, atD, x0e, L2.atI, ixN]
theorem z1w (hn : n <= 1000) {l : List Nat} (hl : l.length <= 1000) (hm : ∀ x ∈ l, x < n) : x2q [x0n n f, .lst (x0e l)] = some (.int (Int.ofNat (l.foldl f z)), 9) := by
  unfold x2q x8b
  refine x38 ?_
  refine (x0g (ρ1 := [some (x0n n f, 9), some (.lst (x0e l), 0), some (.int (Int.ofNat z), 9), none]) ?_).trans ?_
  · simp [-Int.ofNat_eq_natCast, y78 L hz bz hn]
  obtain ⟨ρ', e, y, rfl⟩ := x3j (pt := x0o 3) (body := x1n 2 (eIx (x1q 0 (x08 2)) (x08 3))) (x0e l) (fun i ρ => ∃ y, ρ = [some (x0n n f, 9), some (.lst (x0e l), 0), some (.int (Int.ofNat ((l.take i).foldl f z)), 9), y]) [some (x0n n f, 9), some (.lst (x0e l), 0), some (.int (Int.ofNat z), 9), none] (fun i hi ρ hh0 => by
    obtain ⟨y, hy⟩ := hh0
    subst hy
    have hi' : i < l.length := by rw [x1m] at hi; exact hi
    have hg : (x0e l)[i] = .int (Int.ofNat l[i]) := by simp [x0e]
    have hx : l[i] < n := hm _ (List.getElem_mem hi')
    have ha : (l.take i).foldl f z < n := L.fold_lt hz fun x m => hm x (List.mem_of_mem_take m)
    refine ⟨[some (x0n n f, 9), some (.lst (x0e l), 0), some (.int (Int.ofNat ((l.take i).foldl f z)), 9), some (.int (Int.ofNat l[i]), 9)], [some (x0n n f, 9), some (.lst (x0e l), 0), some (.int (Int.ofNat ((l.take (i + 1)).foldl f z)), 9), some (.int (Int.ofNat l[i]), 9)], ?_, .inl ?_, ⟨_, rfl⟩⟩
    · rw [hg]; simp
    · rw [List.take_succ_eq_append_getElem hi', List.foldl_append]
      simp [-Int.ofNat_eq_natCast, x8v ha, y0j hx]) ⟨none, rfl⟩
  rw [x1m, List.take_length] at e
  refine (x0g ((x3s (ds := x0e l) (ρ1 := [some (x0n n f, 9), some (.lst (x0e l), 0), some (.int (Int.ofNat z), 9), none]) ?_).trans e)).trans ?_
  · simp [x1m, hl]
  · simp [-Int.ofNat_eq_natCast]
end
section
variable {n : Nat} {f : Nat -> Nat -> Nat}
variable (L : Lad n f) {z : Nat} (hz : z < n) (bz : ∀ j, j < n -> f z j = j)
include L hz bz
theorem y82 (hn : n <= 1000) : x44 [x0n n f] = some (.int (Int.ofNat z), 9) := by
  have b1 : (-1000 : Int) <= Int.ofNat n := by show (-1000 : Int) <= n; omega
  have b2 : Int.ofNat n <= 1000 := by show (n : Int) <= 1000; omega
  have hr : x2o [.int (Int.ofNat n)] = some (.tup (x0e (List.range n)), 9) := by
    unfold x2o x61
    simp [-Int.ofNat_eq_natCast, b1, b2]
    rfl
  have hi : z3r (.tup (x0e (List.range n))) ((List.range n).map fun i => y4y n f i) = some z := by
    unfold z3r
    rw [y3q, List.map_map]
    have ev : ∀ i, i < n -> PyData.eqv (toP (y4y n f i)) (toP (.tup (x0e (List.range n)))) = decide (i = z) := fun i hi => (z5g _ _).trans (z4w L hz bz hi)
    refine x6j (x := toP (y4y n f z)) ?_ ?_ ?_
    · rw [List.getElem?_map, List.getElem?_range hz]; rfl
    · rw [ev z hz]; simp
    · intro i y hi hy
      have hi' : i < n := Nat.lt_trans hi hz
      rw [List.getElem?_map, List.getElem?_range hi'] at hy
      cases hy
      refine (ev i hi').trans ?_
      simp; omega
  have h1 : okD (.tup ((List.range n).map fun i => y4y n f i)) = true := (z3i n f).ok
  have h2 : okD (.tup (x0e (List.range n))) = true := (z1i _).ok
  have hl : x56 (.tup ((List.range n).map fun i => y4y n f i)) = some n := x3c (f := f)
  unfold x44 x9y x0n
  simp [-Int.ofNat_eq_natCast, hr, hl, h1, h2, hi]
end
section
variable {n : Nat} {f : Nat -> Nat -> Nat}
variable (L : Lad n f) {z : Nat} (hz : z < n) (bz : ∀ j, j < n -> f z j = j)
include L hz bz
theorem y37 (ns : List Int) (t : Int) (h0 : 0 <= t) : ∃ d : Nat -> Nat, (∀ i, i < n -> d i < n) /\ x2g [scr ns, .int t, x0n n f] = some (x9e n (Lad.lr n f z d), 9) := by
  have hn : n <= 1000 := Nat.le_trans L.hi (by decide)
  have hnp : (0 : Int) < Int.ofNat n := by show (0 : Int) < (n : Int); omega
  -- what is drawn for a worth
  have dr : ∀ i, ∃ v, v < n /\ (i < n -> ∀ ρ : Rho, ρ[0]? = some (some (scr ns, 0)) -> ρ[1]? = some (some (.int t, 9)) -> ρ[2]? = some (some (x0n n f, 9)) -> ρ[3]? = some (some (.int (Int.ofNat z), 9)) -> ρ[5]? = some (some (.int (Int.ofNat i), 9)) ->
      eIx (x49 (x01 (x08 3) (x01 (x08 5) (x01 (x0k x0a 3 (x01 (x08 0) (x01 (e2 x29 (x08 1) (x08 5)) (x01 (x13 2) (x0h))))) (x0h))))) (x0k x0a 3 (x01 (x08 0) (x01 (e2 x29 (e2 x29 (x08 1) (eC (.int 8))) (x08 5)) (x01 (eC (.int 3)) (x0h))))) ρ = some (.int (Int.ofNat v), 9, ρ)) := fun i => by
    have e1 := x5d ns (t + Int.ofNat i) (Int.ofNat n) (by show 0 <= t + (i : Int); omega) hnp
    have e2' := x5d ns (t + 8 + Int.ofNat i) 3 (by show 0 <= t + 8 + (i : Int); omega) (by decide)
    have l1 := x4q ns (t + Int.ofNat i) hnp
    have l2 := x5j ns (t + Int.ofNat i) hnp
    have k1 := x4q ns (t + 8 + Int.ofNat i) (m := 3) (by decide)
    have k2 := x5j ns (t + 8 + Int.ofNat i) (m := 3) (by decide)
    generalize x5x ns (t + Int.ofNat i) (Int.ofNat n) = a at *
    generalize x5x ns (t + 8 + Int.ofNat i) 3 = b at *
    obtain ⟨a', rfl⟩ : ∃ a' : Nat, a = Int.ofNat a' := ⟨a.toNat, by show a = (a.toNat : Int); omega⟩
    have ha' : a' < n := by have : (a' : Int) < (n : Int) := l2; omega
    by_cases hi : i < n
    · have hb : b = 0 \/ b = 1 \/ b = 2 := by omega
      rcases hb with rfl | rfl | rfl
      · refine ⟨z, hz, fun _ ρ h0 h1 h2 h3 h5 => ?_⟩
        simp [-Int.ofNat_eq_natCast, h0, h1, h2, h3, h5, x3c, e1, e2', atD, L2.atI, ixN]
      · refine ⟨i, hi, fun _ ρ h0 h1 h2 h3 h5 => ?_⟩
        simp [-Int.ofNat_eq_natCast, h0, h1, h2, h3, h5, x3c, e1, e2', atD, L2.atI, ixN]
      · refine ⟨a', ha', fun _ ρ h0 h1 h2 h3 h5 => ?_⟩
        simp [-Int.ofNat_eq_natCast, h0, h1, h2, h3, h5, x3c, e1, e2', atD, L2.atI, ixN]
    · exact ⟨z, hz, fun h => absurd h hi⟩
  obtain ⟨d, hd⟩ : ∃ d : Nat -> Nat, ∀ i, d i < n /\ (i < n -> ∀ ρ : Rho, ρ[0]? = some (some (scr ns, 0)) -> ρ[1]? = some (some (.int t, 9)) -> ρ[2]? = some (some (x0n n f, 9)) -> ρ[3]? = some (some (.int (Int.ofNat z), 9)) -> ρ[5]? = some (some (.int (Int.ofNat i), 9)) ->
      eIx (x49 (x01 (x08 3) (x01 (x08 5) (x01 (x0k x0a 3 (x01 (x08 0) (x01 (e2 x29 (x08 1) (x08 5)) (x01 (x13 2) (x0h))))) (x0h))))) (x0k x0a 3 (x01 (x08 0) (x01 (e2 x29 (e2 x29 (x08 1) (eC (.int 8))) (x08 5)) (x01 (eC (.int 3)) (x0h))))) ρ = some (.int (Int.ofNat (d i)), 9, ρ)) :=
    ⟨fun i => (dr i).choose, fun i => (dr i).choose_spec⟩
  refine ⟨d, fun i _ => (hd i).1, ?_⟩
  unfold x2g x96
  refine x38 ?_
  have hs : x69 7 [scr ns, .int t, x0n n f] = [some (scr ns, 0), some (.int t, 9), some (x0n n f, 9), none, none, none, none] := rfl
  rw [hs]
  refine (x0g (ρ1 := [some (scr ns, 0), some (.int t, 9), some (x0n n f, 9), some (.int (Int.ofNat z), 9), none, none, none]) ?_).trans ?_
  · simp [-Int.ofNat_eq_natCast, y78 L hz bz hn]
  refine (x0g (ρ1 := [some (scr ns, 0), some (.int t, 9), some (x0n n f, 9), some (.int (Int.ofNat z), 9), some (.lst [], 1), none, none]) ?_).trans ?_
  · simp
  obtain ⟨ρ', e, y, rfl⟩ := x3j (pt := x0o 5) (body := x34 (x7q 4 (x01 (eIx (x49 (x01 (x08 3) (x01 (x08 5) (x01 (x0k x0a 3 (x01 (x08 0) (x01 (e2 x29 (x08 1) (x08 5)) (x01 (x13 2) (x0h))))) (x0h))))) (x0k x0a 3 (x01 (x08 0) (x01 (e2 x29 (e2 x29 (x08 1) (eC (.int 8))) (x08 5)) (x01 (eC (.int 3)) (x0h)))))) (x0h)))) (x16 n)
    (fun i ρ => ∃ y, ρ = [some (scr ns, 0), some (.int t, 9), some (x0n n f, 9), some (.int (Int.ofNat z), 9), some (.lst (x0e ((List.range i).map d)), 1), y, none])
    [some (scr ns, 0), some (.int t, 9), some (x0n n f, 9), some (.int (Int.ofNat z), 9), some (.lst [], 1), none, none] (fun i hi ρ hh0 => by
      obtain ⟨y, hy⟩ := hh0
      subst hy
      have hi' : i < n := by rw [x0q] at hi; exact hi
      have hdi := (hd i).2 hi' [some (scr ns, 0), some (.int t, 9), some (x0n n f, 9), some (.int (Int.ofNat z), 9), some (.lst (x0e ((List.range i).map d)), 1), some (.int (Int.ofNat i), 9), none] rfl rfl rfl rfl rfl
      refine ⟨[some (scr ns, 0), some (.int t, 9), some (x0n n f, 9), some (.int (Int.ofNat z), 9), some (.lst (x0e ((List.range i).map d)), 1), some (.int (Int.ofNat i), 9), none], [some (scr ns, 0), some (.int t, 9), some (x0n n f, 9), some (.int (Int.ofNat z), 9), some (.lst (x0e ((List.range (i + 1)).map d)), 1), some (.int (Int.ofNat i), 9), none], ?_, .inl ?_, ⟨_, rfl⟩⟩
      · rw [show (x16 n)[i] = .int (Int.ofNat i) by simp [x16]]; simp
      · have ex : x0e ((List.range (i + 1)).map d) = x0e ((List.range i).map d) ++ [.int (Int.ofNat (d i))] := by rw [List.range_succ]; simp [x0e]
        have hl : (x0e ((List.range i).map d)).length <= 1000 := by rw [x1m, List.length_map, List.length_range]; omega
        exact y09 rfl (x1b hdi) rfl hl (by rw [ex]; rfl)) ⟨none, rfl⟩
  rw [x0q] at e
  refine (x0g ((x3s (x4p hn rfl x3c)).trans e)).trans ?_
  refine (x0g (ρ1 := [some (scr ns, 0), some (.int t, 9), some (x0n n f, 9), some (.int (Int.ofNat z), 9), some (.lst (x0e ((List.range n).map d)), 1), y, some (.lst [], 1)]) ?_).trans ?_
  · simp
  have hdn : ∀ i, i < n -> d i < n := fun i _ => (hd i).1
  obtain ⟨ρ', e, y', rfl⟩ := x3j (pt := x0o 5) (body := x34 (x7q 6 (x01 (x0k x2q 2 (x01 (x08 2) (x01 (x3a 1 (x9l (x0k x1z 2 (x01 (x08 2) (x01 (x08 5) (x0h))))) (x0o 7) (x2m) (x1q 4 (x08 7)) false) (x0h)))) (x0h)))) (x16 n)
    (fun i ρ => ∃ y, ρ = [some (scr ns, 0), some (.int t, 9), some (x0n n f, 9), some (.int (Int.ofNat z), 9), some (.lst (x0e ((List.range n).map d)), 1), y, some (.lst (x0e ((List.range i).map (Lad.lr n f z d))), 1)])
    [some (scr ns, 0), some (.int t, 9), some (x0n n f, 9), some (.int (Int.ofNat z), 9), some (.lst (x0e ((List.range n).map d)), 1), y, some (.lst [], 1)] (fun i hi ρ hh0 => by
      obtain ⟨y, hy⟩ := hh0
      subst hy
      have hi' : i < n := by rw [x0q] at hi; exact hi
      refine ⟨[some (scr ns, 0), some (.int t, 9), some (x0n n f, 9), some (.int (Int.ofNat z), 9), some (.lst (x0e ((List.range n).map d)), 1), some (.int (Int.ofNat i), 9), some (.lst (x0e ((List.range i).map (Lad.lr n f z d))), 1)], [some (scr ns, 0), some (.int t, 9), some (x0n n f, 9), some (.int (Int.ofNat z), 9), some (.lst (x0e ((List.range n).map d)), 1), some (.int (Int.ofNat i), 9), some (.lst (x0e ((List.range (i + 1)).map (Lad.lr n f z d))), 1)], ?_, .inl ?_, ⟨_, rfl⟩⟩
      · rw [show (x16 n)[i] = .int (Int.ofNat i) by simp [x16]]; simp
      · have ex : x0e ((List.range (i + 1)).map (Lad.lr n f z d)) = x0e ((List.range i).map (Lad.lr n f z d)) ++ [.int (Int.ofNat (Lad.lr n f z d i))] := by rw [List.range_succ]; simp [x0e]
        have hl : (x0e ((List.range i).map (Lad.lr n f z d))).length <= 1000 := by rw [x1m, List.length_map, List.length_range]; omega
        have hlow : (Lad.low n f i).length <= 1000 := by
          have := List.length_filter_le (fun y => decide (f y i = i)) (List.range n)
          rw [List.length_range] at this
          exact Nat.le_trans this hn
        have hit : x9l (x0k x1z 2 (x01 (x08 2) (x01 (x08 5) (x0h)))) [some (scr ns, 0), some (.int t, 9), some (x0n n f, 9), some (.int (Int.ofNat z), 9), some (.lst (x0e ((List.range n).map d)), 1), some (.int (Int.ofNat i), 9), some (.lst (x0e ((List.range i).map (Lad.lr n f z d))), 1)] = some (x0e (Lad.low n f i), [some (scr ns, 0), some (.int t, 9), some (x0n n f, 9), some (.int (Int.ofNat z), 9), some (.lst (x0e ((List.range n).map d)), 1), some (.int (Int.ofNat i), 9), some (.lst (x0e ((List.range i).map (Lad.lr n f z d))), 1)]) := by
          have hb : x1z [x0n n f, .int (Int.ofNat i)] = some (.lst (x0e (Lad.low n f i)), 1) := y98 hn hi'
          simp [-Int.ofNat_eq_natCast, hb, x1m, hlow]
        have hc := x2y (k := 1) (te := x1q 4 (x08 7)) (deep := false) hit (z7y (i := 7) (Lad.low n f i) rfl (fun y => .int (Int.ofNat (d y))) (fun _ => 9) (fun y hy => by
          have hyn := (Lad.mem_low.mp hy).1
          have hat : atD (.lst (x0e ((List.range n).map d))) (Int.ofNat y) = some (.int (Int.ofNat (d y))) := x21 hyn
          simp [-Int.ofNat_eq_natCast, hat]))
        have hm : ∀ y ∈ (Lad.low n f i).map d, y < n := Lad.lr_mem L hz bz hdn
        have e' : ((Lad.low n f i).map fun y => D.int (Int.ofNat (d y))) = x0e ((Lad.low n f i).map d) := by simp [x0e]
        rw [e'] at hc
        have hj : x2q [x0n n f, .lst (x0e ((Lad.low n f i).map d))] = some (.int (Int.ofNat (Lad.lr n f z d i)), 9) := z1w L hz bz hn (by rw [List.length_map]; exact hlow) hm
        have ha := x1b (x15 (n := 2) (x0x (f := x08 2) (q := 9) (d := x0n n f) (ρ := [some (scr ns, 0), some (.int t, 9), some (x0n n f, 9), some (.int (Int.ofNat z), 9), some (.lst (x0e ((List.range n).map d)), 1), some (.int (Int.ofNat i), 9), some (.lst (x0e ((List.range i).map (Lad.lr n f z d))), 1)]) (ρ1 := [some (scr ns, 0), some (.int t, 9), some (x0n n f, 9), some (.int (Int.ofNat z), 9), some (.lst (x0e ((List.range n).map d)), 1), some (.int (Int.ofNat i), 9), some (.lst (x0e ((List.range i).map (Lad.lr n f z d))), 1)]) rfl (x1b hc)) rfl hj)
        exact y09 rfl ha rfl hl (by rw [ex]; rfl)) ⟨y, rfl⟩
  rw [x0q] at e
  refine (x0g ((x3s (x4p hn rfl x3c)).trans e)).trans ?_
  exact x3n (y00 (x1b (q := 0) (ρ1 := [some (scr ns, 0), some (.int t, 9), some (x0n n f, 9), some (.int (Int.ofNat z), 9), some (.lst (x0e ((List.range n).map d)), 1), y', some (.lst (x0e ((List.range n).map (Lad.lr n f z d))), 0)]) rfl))
end
noncomputable def x6o (n : Nat) : D -> Bool
  | .int i => decide (0 <= i) && decide (i < (n : Int))
  | _ => false
theorem x2i (d : D) : x4d [d] = some (.bl (match d with | .int _ => true | _ => false), 9) := by
  unfold x4d x9p
  cases d <;> simp [isD]
theorem x5h (n : Nat) (d : D) : x1g [d, .int (Int.ofNat n)] = some (.bl (x6o n d), 9) := by
  unfold x1g x60
  cases d with
  | int i =>
    have h := x2i (.int i)
    by_cases h0 : 0 <= i
    · by_cases h1 : i < (n : Int)
      · simp [h, x6o, h0, h1]
      · simp [h, x6o, h0, h1]
    · simp [h, x6o, h0]
  | non => simp [x2i, x6o]
  | bl b => simp [x2i, x6o]
  | str x => simp [x2i, x6o]
  | tup ds => simp [x2i, x6o]
  | lst ds => simp [x2i, x6o]
  | dic ks ds => simp [x2i, x6o]
  | exc nm => simp [x2i, x6o]
theorem y9n {i : Nat} {ρ : Rho} {d : D} (h : ρ[i]? = some (some (d, x85 d))) : x08 i ρ = some (d, x85 d, ρ) := by
  unfold x08
  rw [h]
  cases hL : d.isL with
  | false => simp [hL]
  | true => simp [hL]
theorem z8p {i : Nat} {te : Den} {ρ : Rho} (ds : List D) (hi : ρ.length = i) (v : D -> D) (q : D -> Nat)
    (he : ∀ d, d ∈ ds -> te (ρ ++ [some (d, x85 d)]) = some (v d, q d, ρ ++ [some (d, x85 d)])) :
    x6t 1 (x0o i) x2m te false ds ρ = some (ds.map v, ρ) := by
  have h := x4k (k := 1) (pt := x0o i) (tt := x2m) (te := te) (deep := false) ds (fun _ => ρ) (fun _ => true) (fun j => v (ds.getD j .non)) (fun j hj => ?_)
  · rw [show (List.range ds.length).filter (fun _ => true) = List.range ds.length by simp] at h
    rw [h]
    have e : (List.range ds.length).map (fun j => v (ds.getD j .non)) = ds.map v := by
      apply List.ext_getElem?
      intro k
      by_cases hk : k < ds.length
      · simp [hk]
      · rw [List.getElem?_eq_none (by simp; omega), List.getElem?_eq_none (by simp; omega)]
    rw [e]
  · have hg : ds.getD j .non = ds[j] := by simp [hj]
    refine ⟨ρ ++ [some (ds[j], x85 ds[j])], _, ?_, rfl, ?_⟩
    · unfold x0o
      rw [if_pos (by simp [hi])]
      subst hi
      simp [-x85, List.set_append]
    · rw [if_pos rfl, hg]
      exact ⟨q _, _, he _ (List.getElem_mem hj), by simp, by simp⟩
theorem y3n {i : Nat} {te : Den} {it : y0l} {ρ : Rho} {ds : List D} (hi : ρ.length = i) (hit : it ρ = some (ds, ρ)) (b : D -> Bool) (q : D -> Nat)
    (he : ∀ d, d ∈ ds -> te (ρ ++ [some (d, x85 d)]) = some (.bl (b d), q d, ρ ++ [some (d, x85 d)])) :
    eB z0g (x01 (x3a 1 it (x0o i) x2m te false) x0h) ρ = some (.bl (ds.all b), 9, ρ) := by
  refine z1f (x1b (x2y (deep := false) hit (z8p ds hi (fun d => .bl (b d)) q he))) ?_
  simp only [z0g, y8p, Option.map_some]
  simp [List.all_map, Function.comp_def]
structure Cht where
  p : Nat
  W : List (Nat × Nat × (Nat -> Nat))
  B : List (Nat × Nat)
noncomputable def x63 (n : Nat) (w : Nat × Nat × (Nat -> Nat)) : D := .tup [.int (Int.ofNat w.1), .int (Int.ofNat w.2.1), x9e n w.2.2]
noncomputable def x8r (b : Nat × Nat) : D := .tup [.int (Int.ofNat b.1), .int (Int.ofNat b.2)]
noncomputable def x07 (n : Nat) (C : Cht) : D := .tup [.int (Int.ofNat C.p), .tup (C.W.map (x63 n)), .tup (C.B.map x8r)]
noncomputable def okW (n : Nat) (f : Nat -> Nat -> Nat) (p : Nat) (w : Nat × Nat × (Nat -> Nat)) : Prop := w.1 < p /\ w.2.1 < p /\ (∀ i, i < n -> w.2.2 i < n) /\ ∀ x y, x < n -> y < n -> f x y = y -> f (w.2.2 x) (w.2.2 y) = w.2.2 y
noncomputable def okB (n : Nat) (p : Nat) (b : Nat × Nat) : Prop := b.1 < p /\ b.2 < n
structure Cht.Ok (n : Nat) (f : Nat -> Nat -> Nat) (C : Cht) : Prop where
  p1 : 1 <= C.p
  p8 : C.p <= 8
  w60 : C.W.length <= 60
  b60 : C.B.length <= 60
  ws : ∀ w ∈ C.W, okW n f C.p w
  bs : ∀ b ∈ C.B, okB n C.p b
@[simp] theorem z3s {n : Nat} {C : Cht} : (x07 n C).isL = false := rfl
@[simp] theorem z7e {n : Nat} {w : Nat × Nat × (Nat -> Nat)} : (x63 n w).isL = false := rfl
@[simp] theorem z7g {b : Nat × Nat} : (x8r b).isL = false := rfl
theorem x4j (ns : List Int) {k : Int} (hk : 0 <= k) {m : Int} (hm : 0 < m) : ∃ v : Nat, (v : Int) < m /\ x0a [scr ns, .int k, .int m] = some (.int (Int.ofNat v), 9) := by
  have h1 := x4q ns k hm
  have h2 := x5j ns k hm
  refine ⟨(x5x ns k m).toNat, by omega, ?_⟩
  rw [x5d ns k m hk hm]
  have : x5x ns k m = Int.ofNat (x5x ns k m).toNat := by show _ = (((x5x ns k m).toNat : Nat) : Int); omega
  rw [<- this]
theorem x5t {m : Nat} (hm : m <= 1000) {fe : Den} {ρ ρ' : Rho} {q : Nat} (h : fe ρ = some (.int (Int.ofNat m), q, ρ')) : x10 (x01 fe x0h) ρ = some (x16 m, ρ') := by
  have b1 : (-1000 : Int) <= Int.ofNat m := by show (-1000 : Int) <= m; omega
  have b2 : Int.ofNat m <= 1000 := by show (m : Int) <= 1000; omega
  simp only [x10, x01, x0h, h]
  rw [if_pos ⟨b1, b2⟩]
  rfl
section
variable {n : Nat} {f : Nat -> Nat -> Nat} (L : Lad n f) {z : Nat} (hz : z < n) (bz : ∀ j, j < n -> f z j = j)
include L hz bz
theorem y56 (ns : List Int) (t : Int) (h0 : 0 <= t) {p : Nat} (hp : 1 <= p) (m : Nat) (hm : m <= 7) :
    ∃ W : List (Nat × Nat × (Nat -> Nat)), W.length = m /\ (∀ w ∈ W, okW n f p w) /\ ∃ a b c, x98 (x0o 6) x4s (x16 m) [some (scr ns, 0), some (.int t, 9), some (x0n n f, 9), some (.bl false, 9), some (.int (Int.ofNat p), 9), some (.lst [], 1), none, none, none, none, none] = some (.nx [some (scr ns, 0), some (.int t, 9), some (x0n n f, 9), some (.bl false, 9), some (.int (Int.ofNat p), 9), some (.lst (W.map (x63 n)), 1), a, b, c, none, none]) := by
  have hpp : (0 : Int) < Int.ofNat p := by show (0 : Int) < (p : Int); omega
  obtain ⟨ρ', e, W, hl, hok, a, b, c, rfl⟩ := x3j (pt := x0o 6) (body := x4s) (x16 m) (fun i ρ => ∃ W : List (Nat × Nat × (Nat -> Nat)), W.length = i /\ (∀ w ∈ W, okW n f p w) /\ ∃ a b c, ρ = [some (scr ns, 0), some (.int t, 9), some (x0n n f, 9), some (.bl false, 9), some (.int (Int.ofNat p), 9), some (.lst (W.map (x63 n)), 1), a, b, c, none, none]) [some (scr ns, 0), some (.int t, 9), some (x0n n f, 9), some (.bl false, 9), some (.int (Int.ofNat p), 9), some (.lst [], 1), none, none, none, none, none] (fun i hi ρ hh0 => by
    obtain ⟨W, hl, hok, a, b, c, hr⟩ := hh0
    subst hr
    have hi' : i < m := by rw [x0q] at hi; exact hi
    obtain ⟨x, hx⟩ : ∃ x : Int, x = t + 10 + 22 * Int.ofNat i := ⟨_, rfl⟩
    have hx0 : 0 <= x := by have : Int.ofNat i = (i : Int) := rfl; omega
    obtain ⟨d, hd, hR⟩ := y37 L hz bz ns (x + 2) (by omega)
    obtain ⟨s, hs, es⟩ := x4j ns hx0 hpp
    obtain ⟨g, hg, eg⟩ := x4j ns (show 0 <= x + 1 by omega) hpp
    have hs' : s < p := by have : (s : Int) < (p : Int) := hs; omega
    have hg' : g < p := by have : (g : Int) < (p : Int) := hg; omega
    have hok' : okW n f p (s, g, Lad.lr n f z d) := ⟨hs', hg', fun i _ => L.lr_lt hz bz hd i, fun x y hx hy e => L.lr_rises hz bz hd hx hy e⟩
    generalize Lad.lr n f z d = r at *
    have hW : W.length <= 1000 := by omega
    refine ⟨[some (scr ns, 0), some (.int t, 9), some (x0n n f, 9), some (.bl false, 9), some (.int (Int.ofNat p), 9), some (.lst (W.map (x63 n)), 1), some (.int (Int.ofNat i), 9), b, c, none, none], [some (scr ns, 0), some (.int t, 9), some (x0n n f, 9), some (.bl false, 9), some (.int (Int.ofNat p), 9), some (.lst ((W ++ [(s, g, r)]).map (x63 n)), 1), some (.int (Int.ofNat i), 9), some (.int x, 9), some (x9e n r, 9), none, none], by rw [x3l]; simp, .inl ?_, W ++ [(s, g, r)], by simp [hl], fun w hw => ?_, _, _, _, rfl⟩
    · unfold x4s
      refine (x0g (ρ1 := [some (scr ns, 0), some (.int t, 9), some (x0n n f, 9), some (.bl false, 9), some (.int (Int.ofNat p), 9), some (.lst (W.map (x63 n)), 1), some (.int (Int.ofNat i), 9), some (.int x, 9), c, none, none]) (by rw [hx]; simp [-Int.ofNat_eq_natCast])).trans ?_
      refine (x0g (ρ1 := [some (scr ns, 0), some (.int t, 9), some (x0n n f, 9), some (.bl false, 9), some (.int (Int.ofNat p), 9), some (.lst (W.map (x63 n)), 1), some (.int (Int.ofNat i), 9), some (.int x, 9), some (x9e n r, 9), none, none]) (by simp [-Int.ofNat_eq_natCast, hR])).trans ?_
      refine (x0g (ρ1 := [some (scr ns, 0), some (.int t, 9), some (x0n n f, 9), some (.bl false, 9), some (.int (Int.ofNat p), 9), some (.lst (W.map (x63 n)), 1), some (.int (Int.ofNat i), 9), some (.int x, 9), some (x9e n r, 9), none, none]) (by simp [-Int.ofNat_eq_natCast])).trans ?_
      simp [-Int.ofNat_eq_natCast, es, eg, hW, x63]
    · rcases List.mem_append.mp hw with h | h
      · exact hok w h
      · rw [List.mem_singleton.mp h]; exact hok') ⟨[], rfl, (fun _ z => nomatch z), none, none, none, rfl⟩
  rw [x0q] at hl
  exact ⟨W, hl, hok, a, b, c, e⟩
theorem y4z (ns : List Int) (t : Int) (h0 : 0 <= t) {p : Nat} (hp : 1 <= p) (m : Nat) (hm : m <= 3) (W : Option (D × Nat)) (a b c : Option (D × Nat)) :
    ∃ B : List (Nat × Nat), B.length = m /\ (∀ w ∈ B, okB n p w) /\ ∃ a' h, x98 (x0o 6) x50 (x16 m) [some (scr ns, 0), some (.int t, 9), some (x0n n f, 9), some (.bl false, 9), some (.int (Int.ofNat p), 9), W, a, b, c, some (.lst [], 1), none] = some (.nx [some (scr ns, 0), some (.int t, 9), some (x0n n f, 9), some (.bl false, 9), some (.int (Int.ofNat p), 9), W, a', b, c, some (.lst (B.map x8r), 1), h]) := by
  have hpp : (0 : Int) < Int.ofNat p := by show (0 : Int) < (p : Int); omega
  have hnp : (0 : Int) < Int.ofNat n := by have := L.lo; show (0 : Int) < (n : Int); omega
  obtain ⟨ρ', e, B, hl, hok, a', h, rfl⟩ := x3j (pt := x0o 6) (body := x50) (x16 m) (fun i ρ => ∃ B : List (Nat × Nat), B.length = i /\ (∀ w ∈ B, okB n p w) /\ ∃ a h, ρ = [some (scr ns, 0), some (.int t, 9), some (x0n n f, 9), some (.bl false, 9), some (.int (Int.ofNat p), 9), W, a, b, c, some (.lst (B.map x8r), 1), h]) [some (scr ns, 0), some (.int t, 9), some (x0n n f, 9), some (.bl false, 9), some (.int (Int.ofNat p), 9), W, a, b, c, some (.lst [], 1), none] (fun i hi ρ hh0 => by
    obtain ⟨B, hl, hok, a, h, hr⟩ := hh0
    subst hr
    have hi' : i < m := by rw [x0q] at hi; exact hi
    have hii : Int.ofNat i = (i : Int) := rfl
    obtain ⟨v, hv, ev⟩ := x4j ns (show 0 <= t + 3 + 2 * Int.ofNat i by omega) hnp
    obtain ⟨g, hg, eg⟩ := x4j ns (show 0 <= t + 4 + 2 * Int.ofNat i by omega) hpp
    have hv' : v < n := by have : (v : Int) < (n : Int) := hv; omega
    have hg' : g < p := by have : (g : Int) < (p : Int) := hg; omega
    have hB : B.length <= 1000 := by omega
    refine ⟨[some (scr ns, 0), some (.int t, 9), some (x0n n f, 9), some (.bl false, 9), some (.int (Int.ofNat p), 9), W, some (.int (Int.ofNat i), 9), b, c, some (.lst (B.map x8r), 1), h], [some (scr ns, 0), some (.int t, 9), some (x0n n f, 9), some (.bl false, 9), some (.int (Int.ofNat p), 9), W, some (.int (Int.ofNat i), 9), b, c, some (.lst ((B ++ [(g, v)]).map x8r), 1), some (.int (Int.ofNat v), 9)], by rw [x3l]; simp, .inl ?_, B ++ [(g, v)], by simp [hl], fun w hw => ?_, _, _, rfl⟩
    · unfold x50
      refine (x0g (ρ1 := [some (scr ns, 0), some (.int t, 9), some (x0n n f, 9), some (.bl false, 9), some (.int (Int.ofNat p), 9), W, some (.int (Int.ofNat i), 9), b, c, some (.lst (B.map x8r), 1), some (.int (Int.ofNat v), 9)]) (by simp [-Int.ofNat_eq_natCast, x3c, ev])).trans ?_
      simp [-Int.ofNat_eq_natCast, eg, hB, x8r]
    · rcases List.mem_append.mp hw with h | h
      · exact hok w h
      · rw [List.mem_singleton.mp h]; exact ⟨hg', hv'⟩) ⟨[], rfl, (fun _ z => nomatch z), a, none, rfl⟩
  rw [x0q] at hl
  exact ⟨B, hl, hok, a', h, e⟩
theorem y1v (ns : List Int) (t : Int) (h0 : 0 <= t) : ∃ C : Cht, C.Ok n f /\ C.p <= 5 /\ C.W.length <= 7 /\ C.B.length <= 3 /\ x3e [scr ns, .int t, x0n n f, .bl false] = some (x07 n C, 9) := by
  obtain ⟨p0, hp0, ep⟩ := x4j ns h0 (m := 5) (by decide)
  obtain ⟨mw, hmw, ew⟩ := x4j ns (show 0 <= t + 1 by omega) (m := 8) (by decide)
  obtain ⟨mb, hmb, eb⟩ := x4j ns (show 0 <= t + 2 by omega) (m := 4) (by decide)
  obtain ⟨p, hp⟩ : ∃ p : Nat, p = p0 + 1 := ⟨_, rfl⟩
  have hp' : (1 : Int) + Int.ofNat p0 = Int.ofNat p := by show (1 : Int) + (p0 : Int) = (p : Int); omega
  obtain ⟨W, hWl, hWok, a, b, c, eW⟩ := y56 L hz bz ns t h0 (p := p) (by omega) mw (by omega)
  obtain ⟨B, hBl, hBok, a', h, eB⟩ := y4z L hz bz ns t h0 (p := p) (by omega) mb (by omega) (some (.lst (W.map (x63 n)), 1)) a b c
  refine ⟨⟨p, W, B⟩, ⟨by show 1 <= p; omega, by show p <= 8; omega, by show W.length <= 60; omega, by show B.length <= 60; omega, hWok, hBok⟩, by show p <= 5; omega, by show W.length <= 7; omega, by show B.length <= 3; omega, ?_⟩
  unfold x3e x7t
  refine x38 ?_
  show x0y _ _ [some (scr ns, 0), some (.int t, 9), some (x0n n f, 9), some (.bl false, 9), none, none, none, none, none, none, none] = _
  refine (x0g (ρ1 := [some (scr ns, 0), some (.int t, 9), some (x0n n f, 9), some (.bl false, 9), some (.int (Int.ofNat p), 9), none, none, none, none, none, none]) (by simp [-Int.ofNat_eq_natCast, ep, hp'])).trans ?_
  refine (x0g (ρ1 := [some (scr ns, 0), some (.int t, 9), some (x0n n f, 9), some (.bl false, 9), some (.int (Int.ofNat p), 9), some (.lst [], 1), none, none, none, none, none]) (by simp)).trans ?_
  refine (x0g ((x3s (ρ1 := [some (scr ns, 0), some (.int t, 9), some (x0n n f, 9), some (.bl false, 9), some (.int (Int.ofNat p), 9), some (.lst [], 1), none, none, none, none, none]) (x5t (m := mw) (by omega) (q := 9) (by simp [-Int.ofNat_eq_natCast, ew]))).trans eW)).trans ?_
  refine (x0g (ρ1 := [some (scr ns, 0), some (.int t, 9), some (x0n n f, 9), some (.bl false, 9), some (.int (Int.ofNat p), 9), some (.lst (W.map (x63 n)), 1), a, b, c, some (.lst [], 1), none]) (by simp)).trans ?_
  refine (x0g ((x3s (ρ1 := [some (scr ns, 0), some (.int t, 9), some (x0n n f, 9), some (.bl false, 9), some (.int (Int.ofNat p), 9), some (.lst (W.map (x63 n)), 1), a, b, c, some (.lst [], 1), none]) (x5t (m := mb) (by omega) (q := 9) (by simp [-Int.ofNat_eq_natCast, eb]))).trans eB)).trans ?_
  simp [-Int.ofNat_eq_natCast, x07]
end
noncomputable def y14 (b : Nat × Nat) : ChS := (b.1, fun _ => b.2)
noncomputable def y6y (w : Nat × Nat × (Nat -> Nat)) : ChS := (w.2.1, fun v => w.2.2 (gv v w.1))
noncomputable def x7k (C : Cht) : List ChS := C.B.map y14 ++ C.W.map y6y
section
variable {n : Nat} {f : Nat -> Nat -> Nat} (L : Lad n f) {C : Cht} (hC : C.Ok n f)
include L hC
theorem x4l : ∀ s ∈ x7k C, OkS n C.p f s := fun s hs => by
  unfold x7k at hs
  rcases List.mem_append.mp hs with h | h
  · obtain ⟨b, hb, rfl⟩ := List.mem_map.mp h
    have k := hC.bs b hb
    exact ⟨k.1, fun _ _ => k.2, fun _ _ _ _ _ => L.idem _ k.2⟩
  · obtain ⟨w, hw, rfl⟩ := List.mem_map.mp h
    have k := hC.ws w hw
    exact ⟨k.2.1, fun v hv => k.2.2.1 _ (hv.gv k.1), fun u v hu hv e => k.2.2.2 _ _ (hu.gv k.1) (hv.gv k.1) (e _ k.1)⟩
end
noncomputable abbrev Sn := Bool × Nat
noncomputable def x04 (s : Sn) : D := .tup [.str (if s.1 then "begin" else "way"), .int (Int.ofNat s.2)]
@[simp] theorem z3y {s : Sn} : (x04 s).isL = false := rfl
noncomputable def okN (C : Cht) (s : Sn) : Prop := s.2 < (if s.1 then C.B.length else C.W.length)
noncomputable def x1d (C : Cht) (s : Sn) : ChS := if s.1 then y14 (C.B.getD s.2 (0, 0)) else y6y (C.W.getD s.2 (0, 0, id))
noncomputable def x82 (C : Cht) : List Sn := (List.range C.B.length).map (fun k => (true, k)) ++ (List.range C.W.length).map (fun k => (false, k))
theorem y70 (C : Cht) : ∀ s ∈ x82 C, okN C s := fun s hs => by
  unfold x82 at hs
  rcases List.mem_append.mp hs with h | h
  · obtain ⟨k, hk, rfl⟩ := List.mem_map.mp h
    exact List.mem_range.mp hk
  · obtain ⟨k, hk, rfl⟩ := List.mem_map.mp h
    exact List.mem_range.mp hk
theorem y3k {α β : Type} (l : List α) (d : α) (g : α -> β) : (List.range l.length).map (fun k => g (l.getD k d)) = l.map g := by
  apply List.ext_getElem?
  intro k
  by_cases hk : k < l.length
  · simp [hk]
  · rw [List.getElem?_eq_none (by simp; omega), List.getElem?_eq_none (by simp; omega)]
theorem y3s (C : Cht) : (x82 C).map (x1d C) = x7k C := by
  unfold x82 x7k
  rw [List.map_append, List.map_map, List.map_map, <- y3k C.B (0, 0) y14, <- y3k C.W (0, 0, id) y6y]
  rfl
theorem x3v {C : Cht} {s : Sn} (h : okN C s) : x1d C s ∈ x7k C := by
  unfold okN at h
  unfold x1d x7k
  cases hb : s.1 with
  | true =>
    rw [hb] at h
    have h' : s.2 < C.B.length := h
    refine List.mem_append_left _ (List.mem_map.mpr ⟨C.B.getD s.2 (0, 0), ?_, rfl⟩)
    rw [List.getD_eq_getElem?_getD, List.getElem?_eq_getElem h']
    exact List.getElem_mem h'
  | false =>
    rw [hb] at h
    have h' : s.2 < C.W.length := h
    refine List.mem_append_right _ (List.mem_map.mpr ⟨C.W.getD s.2 (0, 0, id), ?_, rfl⟩)
    rw [List.getD_eq_getElem?_getD, List.getElem?_eq_getElem h']
    exact List.getElem_mem h'
theorem y48 : dEq (.str "begin") (.str "begin") = some (.bl true) := by
  have h : okD (.str "begin") = true := by decide +kernel
  unfold dEq
  rw [if_pos ⟨h, h⟩]
  rfl
theorem z0h : dEq (.str "way") (.str "begin") = some (.bl false) := by
  have h : okD (.str "begin") = true := by decide +kernel
  have h' : okD (.str "way") = true := by decide +kernel
  have e : eqD (.str "way") (.str "begin") = false := by decide +kernel
  unfold dEq
  rw [if_pos ⟨h', h⟩, e]
theorem y9v {v : List Nat} {p : Nat} (hp : p < v.length) : L3.z0e (x0e v) none (some (Int.ofNat p)) = x0e (v.take p) := by
  unfold L3.z0e
  have e1 : HT.sIx (x0e v).length 0 none = 0 := rfl
  have e2 : HT.sIx (x0e v).length (x0e v).length (some (Int.ofNat p)) = p := by
    rw [x1m]
    have : ¬ ((p : Int) < 0) := by omega
    simp [HT.sIx, this]
    omega
  rw [e1, e2, List.drop_zero, Nat.sub_zero]
  simp only [x0e, List.map_take]
theorem y4c {v : List Nat} {p : Nat} (hp : p < v.length) : L3.z0e (x0e v) (some (Int.ofNat p + 1)) none = x0e (v.drop (p + 1)) := by
  unfold L3.z0e
  have e1 : HT.sIx (x0e v).length 0 (some (Int.ofNat p + 1)) = p + 1 := by
    rw [x1m]
    have : ¬ ((p : Int) + 1 < 0) := by omega
    simp [HT.sIx, this]
    omega
  have e2 : HT.sIx (x0e v).length (x0e v).length none = (x0e v).length := rfl
  rw [e1, e2, List.take_of_length_le (by rw [List.length_drop]; exact Nat.le_refl _)]
  simp only [x0e, List.map_drop]
theorem y6g {v : List Nat} {p x : Nat} (hp : p < v.length) : x0e (v.take p) ++ [.int (Int.ofNat x)] ++ x0e (v.drop (p + 1)) = x0e (v.set p x) := by
  rw [List.set_eq_take_append_cons_drop, if_pos hp]
  simp [x0e]
section
variable {n : Nat} {f : Nat -> Nat -> Nat} (L : Lad n f) {C : Cht} (hC : C.Ok n f)
include L hC
theorem y8l {v : List Nat} (hv : Vn n C.p v) {s : Sn} (hs : okN C s) : x1s [x07 n C, .tup (x0e v), x04 s] = some (.tup [.int (Int.ofNat (x1d C s).1), .int (Int.ofNat ((x1d C s).2 v))], 9) := by
  obtain ⟨b, k⟩ := s
  unfold okN at hs
  unfold x1s x4b
  have c1 : atD (x07 n C) 1 = some (.tup (C.W.map (x63 n))) := rfl
  have c2 : atD (x07 n C) 2 = some (.tup (C.B.map x8r)) := rfl
  cases b with
  | true =>
    have hk : k < C.B.length := hs
    have s0 : atD (x04 (true, k)) 0 = some (.str "begin") := rfl
    have s1 : atD (x04 (true, k)) 1 = some (.int (Int.ofNat k)) := rfl
    have e : atD (.tup (C.B.map x8r)) (Int.ofNat k) = some (x8r (C.B.getD k (0, 0))) := x8x (by rw [List.getElem?_map, List.getElem?_eq_getElem hk]; simp [hk])
    have hst : x1d C (true, k) = y14 (C.B.getD k (0, 0)) := rfl
    rw [hst]
    generalize C.B.getD k (0, 0) = b at *
    generalize x04 (true, k) = sd at *
    have hb : x8r b = .tup [.int (Int.ofNat (y14 b).1), .int (Int.ofNat ((y14 b).2 v))] := rfl
    rw [<- hb]
    simp [-Int.ofNat_eq_natCast, s0, s1, c2, e, y48]
  | false =>
    have hk : k < C.W.length := hs
    have s0 : atD (x04 (false, k)) 0 = some (.str "way") := rfl
    have s1 : atD (x04 (false, k)) 1 = some (.int (Int.ofNat k)) := rfl
    have e : atD (.tup (C.W.map (x63 n))) (Int.ofNat k) = some (x63 n (C.W.getD k (0, 0, id))) := x8x (by rw [List.getElem?_map, List.getElem?_eq_getElem hk]; simp [hk])
    have hst : x1d C (false, k) = y6y (C.W.getD k (0, 0, id)) := rfl
    have hw : C.W.getD k (0, 0, id) ∈ C.W := by
      rw [List.getD_eq_getElem?_getD, List.getElem?_eq_getElem hk]
      exact List.getElem_mem hk
    have ok := hC.ws _ hw
    rw [hst]
    generalize C.W.getD k (0, 0, id) = w at *
    have w0 : atD (x63 n w) 0 = some (.int (Int.ofNat w.1)) := rfl
    have w1 : atD (x63 n w) 1 = some (.int (Int.ofNat w.2.1)) := rfl
    have w2 : atD (x63 n w) 2 = some (x9e n w.2.2) := rfl
    have a0 := z7d (v := v) (i := w.1) (by rw [hv.len]; exact ok.1)
    have a1 := y47 (r := w.2.2) (hv.gv ok.1)
    have hst' : x04 (false, k) = x04 (false, k) := rfl
    generalize hsd : x04 (false, k) = sd at *
    have hL : sd.isL = false := by rw [<- hsd]; rfl
    show _ = some (D.tup [.int (Int.ofNat w.2.1), .int (Int.ofNat (w.2.2 (gv v w.1)))], 9)
    generalize hwt : x63 n w = wt at *
    have hL2 : wt.isL = false := by rw [<- hwt]; rfl
    simp [-Int.ofNat_eq_natCast, s0, s1, c1, e, z0h, w0, w1, w2, a0, a1, hL, hL2]
theorem y2a {v : List Nat} (hv : Vn n C.p v) {s : Sn} (hs : okN C s) : x1k [x0n n f, x07 n C, .tup (x0e v), x04 s] = some (.tup (x0e (doS f v (x1d C s))), 9) := by
  have ok := x4l L hC _ (x3v hs)
  have hp := y8l L hC hv hs
  have hx := ok.lt v hv
  have hg := hv.gv ok.pl
  have hpl : (x1d C s).1 < v.length := by rw [hv.len]; exact ok.pl
  have hp8 := hC.p8
  have hl := hv.len
  unfold doS
  generalize (x1d C s).1 = g at *
  generalize (x1d C s).2 v = x at *
  have a0 := z7d hpl
  have a1 := x8v (f := f) hg
  have a2 := y0j (f := f) (i := gv v g) hx
  have s1 := y9v hpl
  have s2 := y4c hpl
  have s3 := y6g (x := f (gv v g) x) hpl
  have l1 : (x0e (v.take g)).length = g := by rw [x1m, List.length_take]; omega
  have l2 : (x0e (v.drop (g + 1))).length = v.length - (g + 1) := by rw [x1m, List.length_drop]
  unfold x1k x5o
  refine x38 ?_
  show x0y _ _ [some (x0n n f, 9), some (x07 n C, 9), some (.tup (x0e v), 9), some (x04 s, 9), none, none, none] = _
  refine (x0g (ρ1 := [some (x0n n f, 9), some (x07 n C, 9), some (.tup (x0e v), 9), some (x04 s, 9), some (.tup [.int (Int.ofNat g), .int (Int.ofNat x)], 9), none, none]) (by simp [-Int.ofNat_eq_natCast, hp])).trans ?_
  have t0 : atD (.tup [.int (Int.ofNat g), .int (Int.ofNat x)]) 0 = some (.int (Int.ofNat g)) := rfl
  have t1 : atD (.tup [.int (Int.ofNat g), .int (Int.ofNat x)]) 1 = some (.int (Int.ofNat x)) := rfl
  refine (x0g (ρ1 := [some (x0n n f, 9), some (x07 n C, 9), some (.tup (x0e v), 9), some (x04 s, 9), some (.tup [.int (Int.ofNat g), .int (Int.ofNat x)], 9), some (.int (Int.ofNat g), 9), none]) (by simp [-Int.ofNat_eq_natCast, t0])).trans ?_
  refine (x0g (ρ1 := [some (x0n n f, 9), some (x07 n C, 9), some (.tup (x0e v), 9), some (x04 s, 9), some (.tup [.int (Int.ofNat g), .int (Int.ofNat x)], 9), some (.int (Int.ofNat g), 9), some (.int (Int.ofNat (f (gv v g) x)), 9)]) (by simp [-Int.ofNat_eq_natCast, a0, a1, a2, t1])).trans ?_
  rw [<- s3]
  have m1 : (x0e (v.take g)).length + 1 <= 1000 := by omega
  have m2 : (x0e (v.take g)).length + 1 + (x0e (v.drop (g + 1))).length <= 1000 := by omega
  generalize x0e (v.take g) = u1 at *
  generalize x0e (v.drop (g + 1)) = u2 at *
  have m1' : u1.length <= 999 := by omega
  simp [-Int.ofNat_eq_natCast, s1, s2, m1, m1', m2]
structure LowS (n : Nat) (f : Nat -> Nat -> Nat) (p : Nat) (l : List ChS) (v u : List Nat) : Prop where
  V : Vn n p u
  cl : ClS f l u
  up : leV f p v u
  le : ∀ a, Vn n p a -> ClS f l a -> leV f p v a -> leV f p u a
theorem y7v {v : List Nat} (hv : Vn n C.p v) {l : List Sn} (hl : ∀ s ∈ l, okN C s) (hlen : l.length <= 1000) :
    ∃ (u : List Nat) (R : List Sn), LowS n f C.p (l.map (x1d C)) v u /\ (∀ s ∈ R, s ∈ l) /\ (R.map (x1d C)).foldl (doS f) v = u /\ Lad.mu n f u + R.length <= Lad.mu n f v /\ x67 [x0n n f, x07 n C, .lst (l.map x04), .tup (x0e v)] = some (.tup [.tup (x0e u), .lst (R.map x04)], 9) := by
  have hp8 := hC.p8
  have hn8 := L.hi
  have hmu := Lad.mu_le (f := f) hv
  have hmu' : C.p * n <= 8 * 8 := Nat.mul_le_mul hp8 hn8
  have hS : ∀ t ∈ l.map (x1d C), OkS n C.p f t := fun t ht => by
    obtain ⟨s, hs, rfl⟩ := List.mem_map.mp ht
    exact x4l L hC _ (x3v (hl s hs))
  -- one round
  have round : ∀ (w : List Nat) (R : List Sn) (a : Option (D × Nat)) (j : (Option (D × Nat) × Option (D × Nat))), Vn n C.p w -> (∀ s ∈ R, s ∈ l) -> (R.map (x1d C)).foldl (doS f) v = w -> Lad.mu n f w + R.length <= Lad.mu n f v ->
      ∃ (R' : List Sn) (j' : (Option (D × Nat) × Option (D × Nat))), (∀ s ∈ R', s ∈ l) /\ (R'.map (x1d C)).foldl (doS f) v = (l.map (x1d C)).foldl (doS f) w /\ Lad.mu n f ((l.map (x1d C)).foldl (doS f) w) + R'.length <= Lad.mu n f v /\
        x98 (x0o 6) x3x (l.map x04) [some (x0n n f, 9), some (x07 n C, 9), some (.lst (l.map x04), 0), some (.tup (x0e w), 9), some (.lst ((R).map x04), 1), a, (j).1, (j).2] = some (.nx [some (x0n n f, 9), some (x07 n C, 9), some (.lst (l.map x04), 0), some (.tup (x0e ((l.map (x1d C)).foldl (doS f) w)), 9), some (.lst ((R').map x04), 1), a, (j').1, (j').2]) := fun w R a j hw h1 h2 h3 => by
    obtain ⟨j', e, i1, i2, i3, i4⟩ := x70 (J := (Option (D × Nat) × Option (D × Nat))) (pt := x0o 6) (body := x3x) x04 (fun (σ : List Nat × List Sn) j => [some (x0n n f, 9), some (x07 n C, 9), some (.lst (l.map x04), 0), some (.tup (x0e σ.1), 9), some (.lst ((σ.2).map x04), 1), a, (j).1, (j).2]) (fun σ s => (doS f σ.1 (x1d C s), if doS f σ.1 (x1d C s) = σ.1 then σ.2 else σ.2 ++ [s]))
      (fun σ => Vn n C.p σ.1 /\ (∀ s ∈ σ.2, s ∈ l) /\ (σ.2.map (x1d C)).foldl (doS f) v = σ.1 /\ Lad.mu n f σ.1 + σ.2.length <= Lad.mu n f v) l (w, R) j ⟨hw, h1, h2, h3⟩ (fun s hs σ j hh0 => by
        obtain ⟨k1, k2, k3, k4⟩ := hh0
        obtain ⟨x, Q⟩ := σ
        dsimp only at k1 k2 k3 k4 ⊢
        have ok := x4l L hC _ (x3v (hl s hs))
        have hb := y2a L hC k1 (hl s hs)
        have hx' := L.doS_V ok k1
        by_cases he : doS f x (x1d C s) = x
        · rw [if_pos he]
          refine ⟨⟨hx', k2, by rw [he]; exact k3, by rw [he]; exact k4⟩, [some (x0n n f, 9), some (x07 n C, 9), some (.lst (l.map x04), 0), some (.tup (x0e x), 9), some (.lst ((Q).map x04), 1), a, (((some (x04 s, 9), j.2) : (Option (D × Nat) × Option (D × Nat)))).1, (((some (x04 s, 9), j.2) : (Option (D × Nat) × Option (D × Nat)))).2], (some (x04 s, 9), some (.tup (x0e (doS f x (x1d C s))), 9)), by simp, ?_⟩
          unfold x3x
          refine (x0g (ρ1 := [some (x0n n f, 9), some (x07 n C, 9), some (.lst (l.map x04), 0), some (.tup (x0e x), 9), some (.lst ((Q).map x04), 1), a, (((some (x04 s, 9), some (.tup (x0e (doS f x (x1d C s))), 9)) : (Option (D × Nat) × Option (D × Nat)))).1, (((some (x04 s, 9), some (.tup (x0e (doS f x (x1d C s))), 9)) : (Option (D × Nat) × Option (D × Nat)))).2]) (by simp [hb])).trans ?_
          refine (x0g (ρ1 := [some (x0n n f, 9), some (x07 n C, 9), some (.lst (l.map x04), 0), some (.tup (x0e x), 9), some (.lst ((Q).map x04), 1), a, (((some (x04 s, 9), some (.tup (x0e (doS f x (x1d C s))), 9)) : (Option (D × Nat) × Option (D × Nat)))).1, (((some (x04 s, 9), some (.tup (x0e (doS f x (x1d C s))), 9)) : (Option (D × Nat) × Option (D × Nat)))).2]) (by rw [he]; simp [x99])).trans ?_
          simp
        · rw [if_neg he]
          have hlt := L.mu_lt k1 hx' (L.doS_up ok k1) (fun z => he z.symm)
          refine ⟨⟨hx', fun t ht => ?_, ?_, by rw [List.length_append]; show _ + (Q.length + 1) <= _; omega⟩, [some (x0n n f, 9), some (x07 n C, 9), some (.lst (l.map x04), 0), some (.tup (x0e x), 9), some (.lst ((Q).map x04), 1), a, (((some (x04 s, 9), j.2) : (Option (D × Nat) × Option (D × Nat)))).1, (((some (x04 s, 9), j.2) : (Option (D × Nat) × Option (D × Nat)))).2], (some (x04 s, 9), some (.tup (x0e (doS f x (x1d C s))), 9)), by simp, ?_⟩
          · rcases List.mem_append.mp ht with h | h
            · exact k2 t h
            · rw [List.mem_singleton.mp h]; exact hs
          · rw [List.map_append, List.foldl_append, k3]; rfl
          · unfold x3x
            have hQ : Q.length <= 1000 := by omega
            refine (x0g (ρ1 := [some (x0n n f, 9), some (x07 n C, 9), some (.lst (l.map x04), 0), some (.tup (x0e x), 9), some (.lst ((Q).map x04), 1), a, (((some (x04 s, 9), some (.tup (x0e (doS f x (x1d C s))), 9)) : (Option (D × Nat) × Option (D × Nat)))).1, (((some (x04 s, 9), some (.tup (x0e (doS f x (x1d C s))), 9)) : (Option (D × Nat) × Option (D × Nat)))).2]) (by simp [hb])).trans ?_
            refine (x0g (ρ1 := [some (x0n n f, 9), some (x07 n C, 9), some (.lst (l.map x04), 0), some (.tup (x0e x), 9), some (.lst (((Q ++ [s])).map x04), 1), a, (((some (x04 s, 9), some (.tup (x0e (doS f x (x1d C s))), 9)) : (Option (D × Nat) × Option (D × Nat)))).1, (((some (x04 s, 9), some (.tup (x0e (doS f x (x1d C s))), 9)) : (Option (D × Nat) × Option (D × Nat)))).2]) (by
              generalize doS f x (x1d C s) = y at *
              simp [x99, he, hQ])).trans ?_
            simp)
    have ef : ∀ (l : List Sn) (σ : List Nat × List Sn), (l.foldl (fun (σ : List Nat × List Sn) s => (doS f σ.1 (x1d C s), if doS f σ.1 (x1d C s) = σ.1 then σ.2 else σ.2 ++ [s])) σ).1 = (l.map (x1d C)).foldl (doS f) σ.1 := by
      intro l
      induction l with
      | nil => intro σ; rfl
      | cons s l ih => intro σ; exact ih _
    have ef' := ef l (w, R)
    generalize l.foldl (fun (σ : List Nat × List Sn) s => (doS f σ.1 (x1d C s), if doS f σ.1 (x1d C s) = σ.1 then σ.2 else σ.2 ++ [s])) (w, R) = σ at *
    obtain ⟨x, Q⟩ := σ
    dsimp only at ef' i1 i2 i3 i4 e
    have ef2 : x = (l.map (x1d C)).foldl (doS f) w := ef'
    subst ef2
    exact ⟨Q, j', i2, i3, i4, e⟩
  -- all rounds
  obtain ⟨ρ', e, u, R, j, hu, hR1, hR2, hR3, rfl⟩ := x77 (c := x3d (e2 dNe (x08 3) (x08 5))) (b := x4u)
    (Q := fun ρ => ∃ (u : List Nat) (R : List Sn), ∃ j : (Option (D × Nat) × Option (D × Nat)), LowS n f C.p (l.map (x1d C)) v u /\ (∀ s ∈ R, s ∈ l) /\ (R.map (x1d C)).foldl (doS f) v = u /\ Lad.mu n f u + R.length <= Lad.mu n f v /\ ρ = [some (x0n n f, 9), some (x07 n C, 9), some (.lst (l.map x04), 0), some (.tup (x0e u), 9), some (.lst ((R).map x04), 1), some (.tup (x0e u), 9), (j).1, (j).2])
    (fun k ρ => ∃ (w : List Nat) (R : List Sn), ∃ j : (Option (D × Nat) × Option (D × Nat)), ∃ a : D, Vn n C.p w /\ leV f C.p v w /\ (∀ x, Vn n C.p x -> ClS f (l.map (x1d C)) x -> leV f C.p v x -> leV f C.p w x) /\ (∀ s ∈ R, s ∈ l) /\ (R.map (x1d C)).foldl (doS f) v = w /\ Lad.mu n f w + R.length <= Lad.mu n f v /\
      ((a = .non /\ k = Lad.mu n f w + 1) \/ ∃ y, a = .tup (x0e y) /\ Vn n C.p y /\ w = (l.map (x1d C)).foldl (doS f) y /\ k = Lad.mu n f w + (if y = w then 0 else 1)) /\ ρ = [some (x0n n f, 9), some (x07 n C, 9), some (.lst (l.map x04), 0), some (.tup (x0e w), 9), some (.lst ((R).map x04), 1), some (a, 9), (j).1, (j).2])
    (k := Lad.mu n f v + 1) (ρ := [some (x0n n f, 9), some (x07 n C, 9), some (.lst (l.map x04), 0), some (.tup (x0e v), 9), some (.lst ((([] : List Sn)).map x04), 1), some (.non, 9), (((none, none) : (Option (D × Nat) × Option (D × Nat)))).1, (((none, none) : (Option (D × Nat) × Option (D × Nat)))).2]) (by omega) ⟨v, [], (none, none), .non, hv, L.leV_refl hv, fun x _ _ h => h, (fun _ z => nomatch z), rfl, Nat.le_refl _, .inl ⟨rfl, rfl⟩, rfl⟩ (fun k ρ hh0 => by
      obtain ⟨w, R, j, a, hw, h1, h2, h3, h4, h5, h6, hr⟩ := hh0
      subst hr
      have next : (x3d (e2 dNe (x08 3) (x08 5)) [some (x0n n f, 9), some (x07 n C, 9), some (.lst (l.map x04), 0), some (.tup (x0e w), 9), some (.lst ((R).map x04), 1), some (a, 9), (j).1, (j).2] = some (true, [some (x0n n f, 9), some (x07 n C, 9), some (.lst (l.map x04), 0), some (.tup (x0e w), 9), some (.lst ((R).map x04), 1), some (a, 9), (j).1, (j).2])) -> Lad.mu n f w + 1 <= k -> ∃ ρ1 ρ2 k', x3d (e2 dNe (x08 3) (x08 5)) [some (x0n n f, 9), some (x07 n C, 9), some (.lst (l.map x04), 0), some (.tup (x0e w), 9), some (.lst ((R).map x04), 1), some (a, 9), (j).1, (j).2] = some (true, ρ1) /\ x4u ρ1 = some (.nx ρ2) /\ k' < k /\ ∃ (w : List Nat) (R : List Sn), ∃ j : (Option (D × Nat) × Option (D × Nat)), ∃ a : D, Vn n C.p w /\ leV f C.p v w /\ (∀ x, Vn n C.p x -> ClS f (l.map (x1d C)) x -> leV f C.p v x -> leV f C.p w x) /\ (∀ s ∈ R, s ∈ l) /\ (R.map (x1d C)).foldl (doS f) v = w /\ Lad.mu n f w + R.length <= Lad.mu n f v /\
      ((a = .non /\ k' = Lad.mu n f w + 1) \/ ∃ y, a = .tup (x0e y) /\ Vn n C.p y /\ w = (l.map (x1d C)).foldl (doS f) y /\ k' = Lad.mu n f w + (if y = w then 0 else 1)) /\ ρ2 = [some (x0n n f, 9), some (x07 n C, 9), some (.lst (l.map x04), 0), some (.tup (x0e w), 9), some (.lst ((R).map x04), 1), some (a, 9), (j).1, (j).2] := fun ht hk => by
        obtain ⟨R', j', r1, r2, r3, r4⟩ := round w R (some (.tup (x0e w), 9)) j hw h3 h4 h5
        have hw' := L.foldS_V hS hw
        have up := L.foldS_up hS hw
        refine ⟨_, [some (x0n n f, 9), some (x07 n C, 9), some (.lst (l.map x04), 0), some (.tup (x0e ((l.map (x1d C)).foldl (doS f) w)), 9), some (.lst ((R').map x04), 1), some (.tup (x0e w), 9), (j').1, (j').2], Lad.mu n f ((l.map (x1d C)).foldl (doS f) w) + (if w = (l.map (x1d C)).foldl (doS f) w then 0 else 1), ht, ?_, ?_, _, R', j', .tup (x0e w), hw', L.leV_trans hv hw hw' h1 up, fun x hx cx hvx => L.foldS_below hx hS hw cx (h2 x hx cx hvx), r1, r2, r3, .inr ⟨w, rfl, hw, rfl, rfl⟩, rfl⟩
        · unfold x4u
          refine (x0g (ρ1 := [some (x0n n f, 9), some (x07 n C, 9), some (.lst (l.map x04), 0), some (.tup (x0e w), 9), some (.lst ((R).map x04), 1), some (.tup (x0e w), 9), (j).1, (j).2]) (by simp)).trans ?_
          exact (x3s (ds := l.map x04) (ρ1 := [some (x0n n f, 9), some (x07 n C, 9), some (.lst (l.map x04), 0), some (.tup (x0e w), 9), some (.lst ((R).map x04), 1), some (.tup (x0e w), 9), (j).1, (j).2]) (by simp [hlen])).trans r4
        · by_cases he : w = (l.map (x1d C)).foldl (doS f) w
          · rw [if_pos he, <- he]; omega
          · rw [if_neg he]
            have := L.mu_lt hw hw' up he
            omega
      rcases h6 with ⟨rfl, hk⟩ | ⟨y, rfl, hy, hwy, hk⟩
      · refine .inr (next ?_ (by omega))
        have hne : dNe (.tup (x0e w)) .non = some (.bl true) := by
          unfold dNe
          rw [if_pos ⟨(z1i w).ok, (Sh.non (k := 0)).ok⟩]
          rfl
        simp [hne]
      · by_cases hyw : y = w
        · subst hyw
          refine .inl ⟨[some (x0n n f, 9), some (x07 n C, 9), some (.lst (l.map x04), 0), some (.tup (x0e y), 9), some (.lst ((R).map x04), 1), some (.tup (x0e y), 9), (j).1, (j).2], by simp [x99], y, R, j, ⟨hw, (L.foldS_fix hS hw).mp hwy.symm, h1, h2⟩, h3, h4, h5, rfl⟩
        · rw [if_neg hyw] at hk
          refine .inr (next ?_ (by omega))
          have : ¬ (w = y) := fun z => hyw z.symm
          simp [x99, this])
  refine ⟨u, R, hu, hR1, hR2, hR3, ?_⟩
  unfold x67 y2o
  refine x38 ?_
  show x0y _ _ [some (x0n n f, 9), some (x07 n C, 9), some (.lst (l.map x04), 0), some (.tup (x0e v), 9), none, none, none, none] = _
  refine (x0g (ρ1 := [some (x0n n f, 9), some (x07 n C, 9), some (.lst (l.map x04), 0), some (.tup (x0e v), 9), some (.lst [], 1), none, none, none]) (by simp)).trans ?_
  refine (x0g (ρ1 := [some (x0n n f, 9), some (x07 n C, 9), some (.lst (l.map x04), 0), some (.tup (x0e v), 9), some (.lst ((([] : List Sn)).map x04), 1), some (.non, 9), (((none, none) : (Option (D × Nat) × Option (D × Nat)))).1, (((none, none) : (Option (D × Nat) × Option (D × Nat)))).2]) (by simp)).trans ?_
  refine (x0g e).trans ?_
  simp
end
theorem dg1 (a b : D) : x9a ["begin", "way"] [a, b] "begin" = some a := by unfold x9a; rw [if_pos rfl]
theorem dg2 (a b : D) : x9a ["begin", "way"] [a, b] "way" = some b := by
  unfold x9a
  rw [if_neg (by decide)]
  unfold x9a
  rw [if_pos rfl]
section
variable {n : Nat} {f : Nat -> Nat -> Nat} {C : Cht}
theorem y8z {s : Sn} (hs : okN C s) : x17 [x04 s, .dic ["begin", "way"] [.int (Int.ofNat C.B.length), .int (Int.ofNat C.W.length)]] = some (.bl true, 9) := by
  obtain ⟨b, k⟩ := s
  unfold okN at hs
  have l2 : dNe (.int 2) (.int 2) = some (.bl false) := (y5v _ _).trans (by simp)
  unfold x17 x39
  cases b with
  | true =>
    have hk : k < C.B.length := hs
    have n1 : x1g [.int (Int.ofNat k), .int (Int.ofNat C.B.length)] = some (.bl true, 9) := by
      rw [x5h]
      have : x6o C.B.length (.int (Int.ofNat k)) = true := by
        show (decide ((0 : Int) <= (k : Int)) && decide ((k : Int) < (C.B.length : Int))) = true
        simp; exact hk
      rw [this]
    have s0 : atD (.tup [.str "begin", .int (Int.ofNat k)]) 0 = some (.str "begin") := rfl
    have s1 : atD (.tup [.str "begin", .int (Int.ofNat k)]) 1 = some (.int (Int.ofNat k)) := rfl
    have ll : x56 (.tup [.str "begin", .int (Int.ofNat k)]) = some 2 := rfl
    have g1 := dg1 (.int (Int.ofNat C.B.length)) (.int (Int.ofNat C.W.length))
    show fnD _ _ [.tup [.str "begin", .int (Int.ofNat k)], _] = _
    simp [-Int.ofNat_eq_natCast, isD, ll, l2, s0, s1, g1, n1]
  | false =>
    have hk : k < C.W.length := hs
    have n1 : x1g [.int (Int.ofNat k), .int (Int.ofNat C.W.length)] = some (.bl true, 9) := by
      rw [x5h]
      have : x6o C.W.length (.int (Int.ofNat k)) = true := by
        show (decide ((0 : Int) <= (k : Int)) && decide ((k : Int) < (C.W.length : Int))) = true
        simp; exact hk
      rw [this]
    have s0 : atD (.tup [.str "way", .int (Int.ofNat k)]) 0 = some (.str "way") := rfl
    have s1 : atD (.tup [.str "way", .int (Int.ofNat k)]) 1 = some (.int (Int.ofNat k)) := rfl
    have ll : x56 (.tup [.str "way", .int (Int.ofNat k)]) = some 2 := rfl
    have g1 := dg2 (.int (Int.ofNat C.B.length)) (.int (Int.ofNat C.W.length))
    show fnD _ _ [.tup [.str "way", .int (Int.ofNat k)], _] = _
    simp [-Int.ofNat_eq_natCast, isD, ll, l2, s0, s1, g1, n1]
theorem x73 {s : Sn} (hs : okN C s) : x1e [x07 n C, x04 s] = some (.bl true, 9) := by
  have h := y8z hs
  unfold x1e x90
  have e1 : x47 0 2 [some (x07 n C, 9), some (x04 s, 9)] = some (Int.ofNat C.B.length) := by
    show some (Int.ofNat (C.B.map x8r).length) = _
    rw [List.length_map]
  have e2' : x47 0 1 [some (x07 n C, 9), some (x04 s, 9)] = some (Int.ofNat C.W.length) := by
    show some (Int.ofNat (C.W.map (x63 n)).length) = _
    rw [List.length_map]
  have ed : y1e "begin" "way" (x47 0 2) (x47 0 1) [some (x07 n C, 9), some (x04 s, 9)] = some (.dic ["begin", "way"] [.int (Int.ofNat C.B.length), .int (Int.ofNat C.W.length)], 9, [some (x07 n C, 9), some (x04 s, 9)]) := by
    unfold y1e
    rw [e1, e2']
  exact x38 (x3n (x15 (x0x (f := x08 1) (d := x04 s) (q := 9) (ρ := [some (x07 n C, 9), some (x04 s, 9)]) (ρ1 := [some (x07 n C, 9), some (x04 s, 9)]) rfl (x1b ed)) rfl h))
theorem x4e {l : List Sn} (hl : ∀ s ∈ l, okN C s) (hlen : l.length <= 1000) : x27 [x07 n C, .lst (l.map x04)] = some (.non, 9) := by
  have hit : x9l (x08 1) [some (x07 n C, 9), some (.lst (l.map x04), 0)] = some (l.map x04, [some (x07 n C, 9), some (.lst (l.map x04), 0)]) := by simp [hlen]
  have e := y3n (i := 2) (te := x0k x1e 2 (x01 (x08 0) (x01 (x08 2) (x0h)))) (ρ := [some (x07 n C, 9), some (.lst (l.map x04), 0)]) rfl hit (fun _ => true) (fun _ => 9) (fun d hd => by
    obtain ⟨s, hs, rfl⟩ := List.mem_map.mp hd
    simp [x73 (n := n) (hl s hs)])
  have ea : (l.map x04).all (fun _ => true) = true := by simp
  rw [ea] at e
  unfold x27 x55
  show (match sIf _ _ _ [some (x07 n C, 9), some (.lst (l.map x04), 0)] with | some (.rt d q) => some (d, q) | some (.nx _) => some (D.non, 9) | _ => none) = _
  have ei : sIf (x8q (y2d (eB z0g (x01 (x3a 1 (x9l (x08 1)) (x0o 2) (x2m) (x0k x1e 2 (x01 (x08 0) (x01 (x08 2) (x0h)))) false) (x0h))))) (y3v) (x71) [some (x07 n C, 9), some (.lst (l.map x04), 0)] = some (.nx [some (x07 n C, 9), some (.lst (l.map x04), 0)]) := by
    refine (y6j ?_).trans rfl
    unfold x8q y2d
    rw [e]
    rfl
  rw [ei]
theorem y4e : (x82 C).length = C.B.length + C.W.length := by simp [x82]
theorem y1l (hB : C.B.length <= 60) (hW : C.W.length <= 60) : x3t [x07 n C] = some (.lst ((x82 C).map x04), 1) := by
  unfold x3t x8j
  refine x38 ?_
  show x0y _ _ [some (x07 n C, 9), none] = _
  have c1 : atD (x07 n C) 1 = some (.tup (C.W.map (x63 n))) := rfl
  have c2 : atD (x07 n C) 2 = some (.tup (C.B.map x8r)) := rfl
  have lB : x56 (.tup (C.B.map x8r)) = some C.B.length := by simp [x56]
  have lW : x56 (.tup (C.W.map (x63 n))) = some C.W.length := by simp [x56]
  have h1 := x2y (k := 1) (tt := x2m) (te := x5e (x01 (eC (.str "begin")) (x01 (x08 2) (x0h)))) (deep := false) (x5t (m := C.B.length) (by omega) (fe := eB y0i (x01 (x1q 0 (eC (.int 2))) (x0h))) (ρ := [some (x07 n C, 9), none]) (ρ' := [some (x07 n C, 9), none]) (q := 9) (by simp [-Int.ofNat_eq_natCast, c2, lB])) (y4r (i := 2) rfl (fun _ => true) (fun k => x04 (true, k)) (fun _ => 9) (fun k hk => rfl) (fun k hk _ => by simp [-Int.ofNat_eq_natCast, x04]))
  rw [show (List.range C.B.length).filter (fun _ => true) = List.range C.B.length by simp] at h1
  refine (x0g (ρ1 := [some (x07 n C, 9), some (.lst ((List.range C.B.length).map fun k => x04 (true, k)), 1)]) (x2h h1 rfl)).trans ?_
  have h2 := x2y (k := 1) (tt := x2m) (te := x5e (x01 (eC (.str "way")) (x01 (x08 2) (x0h)))) (deep := false) (x5t (m := C.W.length) (by omega) (fe := eB y0i (x01 (x1q 0 (eC (.int 1))) (x0h))) (ρ := [some (x07 n C, 9), some (.lst ((List.range C.B.length).map fun k => x04 (true, k)), 0)]) (ρ' := [some (x07 n C, 9), some (.lst ((List.range C.B.length).map fun k => x04 (true, k)), 0)]) (q := 9) (by simp [-Int.ofNat_eq_natCast, c1, lW])) (y4r (i := 2) rfl (fun _ => true) (fun k => x04 (false, k)) (fun _ => 9) (fun k hk => rfl) (fun k hk _ => by simp [-Int.ofNat_eq_natCast, x04]))
  rw [show (List.range C.W.length).filter (fun _ => true) = List.range C.W.length by simp] at h2
  have ea : (x82 C).map x04 = ((List.range C.B.length).map fun k => x04 (true, k)) ++ ((List.range C.W.length).map fun k => x04 (false, k)) := by
    unfold x82
    rw [List.map_append, List.map_map, List.map_map]
    rfl
  rw [ea]
  refine x3n (ρ1 := [some (x07 n C, 9), some (.lst ((List.range C.B.length).map fun k => x04 (true, k)), 0)]) ?_
  have v1 : x08 1 [some (x07 n C, 9), some (.lst ((List.range C.B.length).map fun k => x04 (true, k)), 1)] = some (.lst ((List.range C.B.length).map fun k => x04 (true, k)), 0, [some (x07 n C, 9), some (.lst ((List.range C.B.length).map fun k => x04 (true, k)), 0)]) := rfl
  unfold x68
  rw [v1]
  have hl : ((List.range C.B.length).map fun k => x04 (true, k)).length + ((List.range C.W.length).map fun k => x04 (false, k)).length <= 1000 := by
    rw [List.length_map, List.length_map, List.length_range, List.length_range]; omega
  generalize ((List.range C.B.length).map fun k => x04 (true, k)) = x at *
  generalize ((List.range C.W.length).map fun k => x04 (false, k)) = y at *
  rw [if_neg (by decide)] at h2
  simp only [h2, if_pos hl]
end
section
variable {n : Nat} {f : Nat -> Nat -> Nat} (L : Lad n f) {z : Nat} (hz : z < n) (bz : ∀ j, j < n -> f z j = j) {C : Cht} (hC : C.Ok n f)
noncomputable def x72 (p z : Nat) : List Nat := List.replicate p z
theorem y6f {p : Nat} (hz : z < n) : Vn n p (x72 p z) := ⟨by simp [x72], fun x hx => by rw [(List.mem_replicate.mp hx).2]; exact hz⟩
include L hz bz hC
theorem y2b : x6s [x0n n f, x07 n C] = some (.tup (x0e (x72 C.p z)), 9) := by
  have hn : n <= 1000 := Nat.le_trans L.hi (by decide)
  have hp8 := hC.p8
  have c0 : atD (x07 n C) 0 = some (.int (Int.ofNat C.p)) := rfl
  have hl := y82 L hz bz hn
  unfold x6s y3h
  have e : (List.replicate C.p [D.int (Int.ofNat z)]).flatten = x0e (x72 C.p z) := by
    simp [x0e, x72, List.flatten_replicate_singleton]
  have b1 : (-1000 : Int) <= Int.ofNat C.p := by show (-1000 : Int) <= (C.p : Int); omega
  have b2 : Int.ofNat C.p <= 1000 := by show (C.p : Int) <= 1000; omega
  have b3 : (Int.ofNat C.p).toNat = C.p := rfl
  have b4 : C.p <= 1000 := by omega
  simp [-Int.ofNat_eq_natCast, -List.flatten_replicate_singleton, hl, c0, b1, b2, b3, b4, e]
theorem x8d {l : List Sn} (hl : ∀ s ∈ l, okN C s) (hlen : l.length <= 1000) :
    ∃ (u : List Nat) (R : List Sn), LowS n f C.p (l.map (x1d C)) (x72 C.p z) u /\ (∀ s ∈ R, s ∈ l) /\ (R.map (x1d C)).foldl (doS f) (x72 C.p z) = u /\ Lad.mu n f u + R.length <= Lad.mu n f (x72 C.p z) /\ x1u [x0n n f, x07 n C, .lst (l.map x04)] = some (.tup [.tup (x0e u), .int (Int.ofNat R.length)], 9) := by
  obtain ⟨u, R, h1, h2, h3, h4, e⟩ := y7v L hC (y6f (p := C.p) hz) hl hlen
  refine ⟨u, R, h1, h2, h3, h4, ?_⟩
  have r0 := x4e (n := n) hl hlen
  have r1 := y2b L hz bz hC
  have a0 : atD (.tup [.tup (x0e u), .lst (R.map x04)]) 0 = some (.tup (x0e u)) := rfl
  have a1 : atD (.tup [.tup (x0e u), .lst (R.map x04)]) 1 = some (.lst (R.map x04)) := rfl
  have a2 : x56 (.lst (R.map x04)) = some R.length := by simp [x56]
  unfold x1u x7e
  simp [-Int.ofNat_eq_natCast, r0, r1, e, a0, a1, a2]
theorem y32 : ∃ u, LowS n f C.p (x7k C) (x72 C.p z) u /\ x7d [x0n n f, x07 n C] = some (.tup (x0e u), 9) := by
  have hB := hC.b60
  have hW := hC.w60
  obtain ⟨u, R, h1, h2, h3, h4, e⟩ := x8d L hz bz hC (y70 C) (by rw [y4e]; omega)
  rw [y3s] at h1
  refine ⟨u, h1, ?_⟩
  have r0 := y1l (n := n) hB hW
  have a0 : atD (.tup [.tup (x0e u), .int (Int.ofNat R.length)]) 0 = some (.tup (x0e u)) := rfl
  unfold x7d y5k
  simp [-Int.ofNat_eq_natCast, r0, e, a0]
end
section
variable {n : Nat} {f : Nat -> Nat -> Nat} (L : Lad n f) {C : Cht} (hC : C.Ok n f)
include L hC
theorem y0q : x1t [x07 n C] = some (.lst ((x82 C).map x04), 1) := by
  have hB := hC.b60
  have hW := hC.w60
  have c1 : atD (x07 n C) 1 = some (.tup (C.W.map (x63 n))) := rfl
  have c2 : atD (x07 n C) 2 = some (.tup (C.B.map x8r)) := rfl
  have lB : x56 (.tup (C.B.map x8r)) = some C.B.length := by simp [x56]
  have lW : x56 (.tup (C.W.map (x63 n))) = some C.W.length := by simp [x56]
  have h1 := x2y (k := 1) (tt := x2m) (te := x5e (x01 (eC (.str "begin")) (x01 (x08 1) (x0h)))) (deep := false) (x5t (m := C.B.length) (by omega) (fe := eB y0i (x01 (x1q 0 (eC (.int 2))) (x0h))) (ρ := [some (x07 n C, 9)]) (ρ' := [some (x07 n C, 9)]) (q := 9) (by simp [-Int.ofNat_eq_natCast, c2, lB])) (y4r (i := 1) rfl (fun _ => true) (fun k => x04 (true, k)) (fun _ => 9) (fun k hk => rfl) (fun k hk _ => by simp [-Int.ofNat_eq_natCast, x04]))
  rw [show (List.range C.B.length).filter (fun _ => true) = List.range C.B.length by simp, if_neg (by decide)] at h1
  have h2 := x2y (k := 1) (tt := x2m) (te := x5e (x01 (eC (.str "way")) (x01 (x08 1) (x0h)))) (deep := false) (x5t (m := C.W.length) (by omega) (fe := eB y0i (x01 (x1q 0 (eC (.int 1))) (x0h))) (ρ := [some (x07 n C, 9)]) (ρ' := [some (x07 n C, 9)]) (q := 9) (by simp [-Int.ofNat_eq_natCast, c1, lW])) (y4r (i := 1) rfl (fun _ => true) (fun k => x04 (false, k)) (fun _ => 9) (fun k hk => rfl) (fun k hk _ => by simp [-Int.ofNat_eq_natCast, x04]))
  rw [show (List.range C.W.length).filter (fun _ => true) = List.range C.W.length by simp, if_neg (by decide)] at h2
  have ea : (x82 C).map x04 = ((List.range C.B.length).map fun k => x04 (true, k)) ++ ((List.range C.W.length).map fun k => x04 (false, k)) := by
    unfold x82
    rw [List.map_append, List.map_map, List.map_map]
    rfl
  rw [ea]
  have hl : ((List.range C.B.length).map fun k => x04 (true, k)).length + ((List.range C.W.length).map fun k => x04 (false, k)).length <= 1000 := by
    rw [List.length_map, List.length_map, List.length_range, List.length_range]; omega
  unfold x1t x4c
  refine x38 (x3n (ρ1 := [some (x07 n C, 9)]) ?_)
  show x68 _ _ [some (x07 n C, 9)] = _
  unfold x68
  rw [h1]
  simp only [h2, if_pos hl]
theorem y2q {v : List Nat} (hv : Vn n C.p v) {s : Sn} (hs : okN C s) : x2s [x0n n f, x07 n C, .tup (x0e v), x04 s] = some (.tup (x0e (doS f v (x1d C s))), 9) := by
  have ok := x4l L hC _ (x3v hs)
  have hx := ok.lt v hv
  have hg := hv.gv ok.pl
  have hpl : (x1d C s).1 < v.length := by rw [hv.len]; exact ok.pl
  have hp8 := hC.p8
  have hl := hv.len
  have head : ∃ c d, sIf (x3d (e2 dEq (x1q 3 (eC (.int 0))) (eC (.str "begin")))) (z2v (eIx (x1q 1 (eC (.int 2))) (x1q 3 (eC (.int 1)))) (z1h (x2e (x0o 4) (x2e (x0o 5) (y0y))))) (x0y (z2v (eIx (x1q 1 (eC (.int 1))) (x1q 3 (eC (.int 1)))) (z1h (x2e (x0o 6) (x2e (x0o 4) (x2e (x0o 7) (y0y)))))) (x1n 5 (x1q 7 (x1q 2 (x08 6))))) [some (x0n n f, 9), some (x07 n C, 9), some (.tup (x0e v), 9), some (x04 s, 9), none, none, none, none] =
      some (.nx [some (x0n n f, 9), some (x07 n C, 9), some (.tup (x0e v), 9), some (x04 s, 9), some (.int (Int.ofNat (x1d C s).1), 9), some (.int (Int.ofNat ((x1d C s).2 v)), 9), c, d]) := by
    have c1 : atD (x07 n C) 1 = some (.tup (C.W.map (x63 n))) := rfl
    have c2 : atD (x07 n C) 2 = some (.tup (C.B.map x8r)) := rfl
    obtain ⟨b, k⟩ := s
    unfold okN at hs
    cases b with
    | true =>
      have hk : k < C.B.length := hs
      have s0 : atD (x04 (true, k)) 0 = some (.str "begin") := rfl
      have s1 : atD (x04 (true, k)) 1 = some (.int (Int.ofNat k)) := rfl
      have e : atD (.tup (C.B.map x8r)) (Int.ofNat k) = some (x8r (C.B.getD k (0, 0))) := x8x (by rw [List.getElem?_map, List.getElem?_eq_getElem hk]; simp [hk])
      have hst : x1d C (true, k) = y14 (C.B.getD k (0, 0)) := rfl
      rw [hst]
      refine ⟨none, none, ?_⟩
      generalize C.B.getD k (0, 0) = b at *
      unfold x8r y14 at *
      simp [-Int.ofNat_eq_natCast, s0, s1, c2, e, y48]
    | false =>
      have hk : k < C.W.length := hs
      have s0 : atD (x04 (false, k)) 0 = some (.str "way") := rfl
      have s1 : atD (x04 (false, k)) 1 = some (.int (Int.ofNat k)) := rfl
      have e : atD (.tup (C.W.map (x63 n))) (Int.ofNat k) = some (x63 n (C.W.getD k (0, 0, id))) := x8x (by rw [List.getElem?_map, List.getElem?_eq_getElem hk]; simp [hk])
      have hst : x1d C (false, k) = y6y (C.W.getD k (0, 0, id)) := rfl
      have hw : C.W.getD k (0, 0, id) ∈ C.W := by
        rw [List.getD_eq_getElem?_getD, List.getElem?_eq_getElem hk]
        exact List.getElem_mem hk
      have okw := hC.ws _ hw
      rw [hst]
      generalize C.W.getD k (0, 0, id) = w at *
      have a0 := z7d (v := v) (i := w.1) (by rw [hv.len]; exact okw.1)
      have a1 := y47 (r := w.2.2) (hv.gv okw.1)
      refine ⟨some (.int (Int.ofNat w.1), 9), some (x9e n w.2.2, 9), ?_⟩
      have e' : atD (.tup (C.W.map (x63 n))) (Int.ofNat k) = some (.tup [.int (Int.ofNat w.1), .int (Int.ofNat w.2.1), x9e n w.2.2]) := e
      show _ = some (Out.nx [_, _, _, _, some (.int (Int.ofNat w.2.1), 9), some (.int (Int.ofNat (w.2.2 (gv v w.1))), 9), _, _])
      simp [-Int.ofNat_eq_natCast, s0, s1, c1, e', z0h, a0, a1]
  obtain ⟨c, d, head⟩ := head
  unfold doS
  generalize (x1d C s).1 = g at *
  generalize (x1d C s).2 v = x at *
  have a0 := z7d hpl
  have a1 := x8v (f := f) hg
  have a2 := y0j (f := f) (i := gv v g) hx
  have s1 := y9v hpl
  have s2 := y4c hpl
  have s3 := y6g (x := f (gv v g) x) hpl
  have l1 : (x0e (v.take g)).length = g := by rw [x1m, List.length_take]; omega
  have l2 : (x0e (v.drop (g + 1))).length = v.length - (g + 1) := by rw [x1m, List.length_drop]
  unfold x2s x92
  refine x38 ?_
  show x0y _ _ [some (x0n n f, 9), some (x07 n C, 9), some (.tup (x0e v), 9), some (x04 s, 9), none, none, none, none] = _
  refine (x0g head).trans ?_
  rw [<- s3]
  have m1 : (x0e (v.take g)).length + 1 <= 1000 := by omega
  have m2 : (x0e (v.take g)).length + 1 + (x0e (v.drop (g + 1))).length <= 1000 := by omega
  generalize x0e (v.take g) = u1 at *
  generalize x0e (v.drop (g + 1)) = u2 at *
  have m1' : u1.length <= 999 := by omega
  simp [-Int.ofNat_eq_natCast, a0, a1, a2, s1, s2, m1, m1', m2]
end
noncomputable def x11 (f : Nat -> Nat -> Nat) (C : Cht) (σ : List Nat × List Sn) (s : Sn) : List Nat × List Sn := (doS f σ.1 (x1d C s), if doS f σ.1 (x1d C s) = σ.1 then σ.2 else σ.2 ++ [s])
inductive Runs (f : Nat -> Nat -> Nat) (C : Cht) (l : List Sn) : List Nat × List Sn -> List Nat × List Sn -> Prop
  | stop {σ} : (l.foldl (x11 f C) σ).1 = σ.1 -> Runs f C l σ (l.foldl (x11 f C) σ)
  | more {σ τ} : (l.foldl (x11 f C) σ).1 ≠ σ.1 -> Runs f C l (l.foldl (x11 f C) σ) τ -> Runs f C l σ τ
theorem Runs.det {f : Nat -> Nat -> Nat} {C : Cht} {l : List Sn} {σ τ τ' : List Nat × List Sn} (h : Runs f C l σ τ) (h' : Runs f C l σ τ') : τ = τ' := by
  induction h with
  | stop e =>
    cases h' with
    | stop e' => rfl
    | more n' _ => exact absurd e n'
  | more n r ih =>
    cases h' with
    | stop e' => exact absurd e' n
    | more n' r' => exact ih r'
section
variable {n : Nat} {f : Nat -> Nat -> Nat} (L : Lad n f) {C : Cht} (hC : C.Ok n f)
include L hC
structure RInv (n : Nat) (f : Nat -> Nat -> Nat) (C : Cht) (b : Nat) (w0 : List Nat) (σ : List Nat × List Sn) (c : Bool) : Prop where
  V : Vn n C.p σ.1
  m : Lad.mu n f σ.1 + σ.2.length <= b
  u : Lad.mu n f σ.1 + (if c then 1 else 0) <= Lad.mu n f w0
  e : c = false -> σ.1 = w0
theorem RInv.step {b : Nat} {w0 : List Nat} {σ : List Nat × List Sn} {c : Bool} (i : RInv n f C b w0 σ c) {s : Sn} (hs : okN C s) : RInv n f C b w0 (x11 f C σ s) (if doS f σ.1 (x1d C s) = σ.1 then c else true) := by
  have ok := x4l L hC _ (x3v hs)
  have hx' := L.doS_V ok i.V
  have hm := i.m
  have hu := i.u
  by_cases he : doS f σ.1 (x1d C s) = σ.1
  · unfold x11
    rw [if_pos he, if_pos he]
    exact ⟨by rw [he]; exact i.V, by rw [he]; exact hm, by rw [he]; exact hu, fun z => by rw [he]; exact i.e z⟩
  · have hlt := L.mu_lt i.V hx' (L.doS_up ok i.V) (fun z => he z.symm)
    unfold x11
    rw [if_neg he, if_neg he]
    refine ⟨hx', ?_, ?_, fun z => nomatch z⟩
    · show Lad.mu n f (doS f σ.1 (x1d C s)) + (σ.2 ++ [s]).length <= b
      rw [List.length_append]
      show _ + (σ.2.length + 1) <= b
      omega
    · show Lad.mu n f (doS f σ.1 (x1d C s)) + 1 <= Lad.mu n f w0
      have : Lad.mu n f σ.1 <= Lad.mu n f w0 := Nat.le_trans (Nat.le_add_right _ _) hu
      omega
theorem y52 {v : List Nat} (hv : Vn n C.p v) {l : List Sn} (hl : ∀ s ∈ l, okN C s) (hlen : l.length <= 1000) :
    ∃ (u : List Nat) (R : List Sn), Runs f C l (v, []) (u, R) /\ x67 [x0n n f, x07 n C, .lst (l.map x04), .tup (x0e v)] = some (.tup [.tup (x0e u), .lst (R.map x04)], 9) := by
  have hp8 := hC.p8
  have hn8 := L.hi
  have hmu := Lad.mu_le (f := f) hv
  have hmu' : C.p * n <= 8 * 8 := Nat.mul_le_mul hp8 hn8
  have round : ∀ (σ : List Nat × List Sn) (a : Option (D × Nat)) (j : (Option (D × Nat) × Option (D × Nat))), Vn n C.p σ.1 -> Lad.mu n f σ.1 + σ.2.length <= Lad.mu n f v ->
      ∃ (j' : (Option (D × Nat) × Option (D × Nat))) (c : Bool), RInv n f C (Lad.mu n f v) σ.1 (l.foldl (x11 f C) σ) c /\ x98 (x0o 6) x3x (l.map x04) [some (x0n n f, 9), some (x07 n C, 9), some (.lst (l.map x04), 0), some (.tup (x0e σ.1), 9), some (.lst ((σ.2).map x04), 1), a, (j).1, (j).2] = some (.nx [some (x0n n f, 9), some (x07 n C, 9), some (.lst (l.map x04), 0), some (.tup (x0e (l.foldl (x11 f C) σ).1), 9), some (.lst (((l.foldl (x11 f C) σ).2).map x04), 1), a, (j').1, (j').2]) := fun σ a j hw hm => by
    obtain ⟨j', e, i1⟩ := x70 (J := (Option (D × Nat) × Option (D × Nat))) (pt := x0o 6) (body := x3x) x04 (fun (τ : (List Nat × List Sn) × Bool) j => [some (x0n n f, 9), some (x07 n C, 9), some (.lst (l.map x04), 0), some (.tup (x0e τ.1.1), 9), some (.lst ((τ.1.2).map x04), 1), a, (j).1, (j).2]) (fun τ s => (x11 f C τ.1 s, if doS f τ.1.1 (x1d C s) = τ.1.1 then τ.2 else true))
      (fun τ => RInv n f C (Lad.mu n f v) σ.1 τ.1 τ.2) l (σ, false) j ⟨hw, hm, Nat.le_refl _, fun _ => rfl⟩ (fun s hs τ j hh0 => by
        refine ⟨hh0.step L hC (hl s hs), ?_⟩
        obtain ⟨⟨x, Q⟩, c⟩ := τ
        have k1 : Vn n C.p x := hh0.V
        have k4 : Lad.mu n f x + Q.length <= Lad.mu n f v := hh0.m
        have hb := y2a L hC k1 (hl s hs)
        dsimp only [x11]
        by_cases he : doS f x (x1d C s) = x
        · rw [if_pos he]
          refine ⟨[some (x0n n f, 9), some (x07 n C, 9), some (.lst (l.map x04), 0), some (.tup (x0e x), 9), some (.lst ((Q).map x04), 1), a, (((some (x04 s, 9), j.2) : (Option (D × Nat) × Option (D × Nat)))).1, (((some (x04 s, 9), j.2) : (Option (D × Nat) × Option (D × Nat)))).2], (some (x04 s, 9), some (.tup (x0e (doS f x (x1d C s))), 9)), by simp, ?_⟩
          unfold x3x
          refine (x0g (ρ1 := [some (x0n n f, 9), some (x07 n C, 9), some (.lst (l.map x04), 0), some (.tup (x0e x), 9), some (.lst ((Q).map x04), 1), a, (((some (x04 s, 9), some (.tup (x0e (doS f x (x1d C s))), 9)) : (Option (D × Nat) × Option (D × Nat)))).1, (((some (x04 s, 9), some (.tup (x0e (doS f x (x1d C s))), 9)) : (Option (D × Nat) × Option (D × Nat)))).2]) (by simp [hb])).trans ?_
          refine (x0g (ρ1 := [some (x0n n f, 9), some (x07 n C, 9), some (.lst (l.map x04), 0), some (.tup (x0e x), 9), some (.lst ((Q).map x04), 1), a, (((some (x04 s, 9), some (.tup (x0e (doS f x (x1d C s))), 9)) : (Option (D × Nat) × Option (D × Nat)))).1, (((some (x04 s, 9), some (.tup (x0e (doS f x (x1d C s))), 9)) : (Option (D × Nat) × Option (D × Nat)))).2]) (by rw [he]; simp [x99])).trans ?_
          simp
        · rw [if_neg he]
          refine ⟨[some (x0n n f, 9), some (x07 n C, 9), some (.lst (l.map x04), 0), some (.tup (x0e x), 9), some (.lst ((Q).map x04), 1), a, (((some (x04 s, 9), j.2) : (Option (D × Nat) × Option (D × Nat)))).1, (((some (x04 s, 9), j.2) : (Option (D × Nat) × Option (D × Nat)))).2], (some (x04 s, 9), some (.tup (x0e (doS f x (x1d C s))), 9)), by simp, ?_⟩
          unfold x3x
          have hQ : Q.length <= 1000 := by omega
          refine (x0g (ρ1 := [some (x0n n f, 9), some (x07 n C, 9), some (.lst (l.map x04), 0), some (.tup (x0e x), 9), some (.lst ((Q).map x04), 1), a, (((some (x04 s, 9), some (.tup (x0e (doS f x (x1d C s))), 9)) : (Option (D × Nat) × Option (D × Nat)))).1, (((some (x04 s, 9), some (.tup (x0e (doS f x (x1d C s))), 9)) : (Option (D × Nat) × Option (D × Nat)))).2]) (by simp [hb])).trans ?_
          refine (x0g (ρ1 := [some (x0n n f, 9), some (x07 n C, 9), some (.lst (l.map x04), 0), some (.tup (x0e x), 9), some (.lst (((Q ++ [s])).map x04), 1), a, (((some (x04 s, 9), some (.tup (x0e (doS f x (x1d C s))), 9)) : (Option (D × Nat) × Option (D × Nat)))).1, (((some (x04 s, 9), some (.tup (x0e (doS f x (x1d C s))), 9)) : (Option (D × Nat) × Option (D × Nat)))).2]) (by
            generalize doS f x (x1d C s) = y at *
            simp [x99, he, hQ])).trans ?_
          simp)
    have ef : ∀ (l : List Sn) (τ : (List Nat × List Sn) × Bool), (l.foldl (fun (τ : (List Nat × List Sn) × Bool) s => (x11 f C τ.1 s, if doS f τ.1.1 (x1d C s) = τ.1.1 then τ.2 else true)) τ).1 = l.foldl (x11 f C) τ.1 := by
      intro l
      induction l with
      | nil => intro τ; rfl
      | cons s l ih => intro τ; exact ih _
    have ef' := ef l (σ, false)
    rw [ef'] at e i1
    exact ⟨j', _, i1, e⟩
  obtain ⟨ρ', e, u, R, j, hR, rfl⟩ := x77 (c := x3d (e2 dNe (x08 3) (x08 5))) (b := x4u)
    (Q := fun ρ => ∃ (u : List Nat) (R : List Sn), ∃ j : (Option (D × Nat) × Option (D × Nat)), Runs f C l (v, []) (u, R) /\ ρ = [some (x0n n f, 9), some (x07 n C, 9), some (.lst (l.map x04), 0), some (.tup (x0e u), 9), some (.lst ((R).map x04), 1), some (.tup (x0e u), 9), (j).1, (j).2])
    (fun k ρ => ∃ (σ : List Nat × List Sn), ∃ j : (Option (D × Nat) × Option (D × Nat)), ∃ a : D, Vn n C.p σ.1 /\ Lad.mu n f σ.1 + σ.2.length <= Lad.mu n f v /\ (∀ τ, Runs f C l σ τ -> Runs f C l (v, []) τ) /\
      ((a = .non /\ k = Lad.mu n f σ.1 + 1) \/ ∃ y : List Nat × List Sn, a = .tup (x0e y.1) /\ σ = l.foldl (x11 f C) y /\ (y.1 = σ.1 -> Runs f C l (v, []) σ) /\ k = Lad.mu n f σ.1 + (if y.1 = σ.1 then 0 else 1)) /\ ρ = [some (x0n n f, 9), some (x07 n C, 9), some (.lst (l.map x04), 0), some (.tup (x0e σ.1), 9), some (.lst ((σ.2).map x04), 1), some (a, 9), (j).1, (j).2])
    (k := Lad.mu n f v + 1) (ρ := [some (x0n n f, 9), some (x07 n C, 9), some (.lst (l.map x04), 0), some (.tup (x0e v), 9), some (.lst ((([] : List Sn)).map x04), 1), some (.non, 9), (((none, none) : (Option (D × Nat) × Option (D × Nat)))).1, (((none, none) : (Option (D × Nat) × Option (D × Nat)))).2]) (by omega) ⟨(v, []), (none, none), .non, hv, Nat.le_refl _, fun _ h => h, .inl ⟨rfl, rfl⟩, rfl⟩ (fun k ρ hh0 => by
      obtain ⟨σ, j, a, hw, hm, hrun, h6, hr⟩ := hh0
      subst hr
      have next : (x3d (e2 dNe (x08 3) (x08 5)) [some (x0n n f, 9), some (x07 n C, 9), some (.lst (l.map x04), 0), some (.tup (x0e σ.1), 9), some (.lst ((σ.2).map x04), 1), some (a, 9), (j).1, (j).2] = some (true, [some (x0n n f, 9), some (x07 n C, 9), some (.lst (l.map x04), 0), some (.tup (x0e σ.1), 9), some (.lst ((σ.2).map x04), 1), some (a, 9), (j).1, (j).2])) -> Lad.mu n f σ.1 + 1 <= k -> ∃ ρ1 ρ2 k', x3d (e2 dNe (x08 3) (x08 5)) [some (x0n n f, 9), some (x07 n C, 9), some (.lst (l.map x04), 0), some (.tup (x0e σ.1), 9), some (.lst ((σ.2).map x04), 1), some (a, 9), (j).1, (j).2] = some (true, ρ1) /\ x4u ρ1 = some (.nx ρ2) /\ k' < k /\ ∃ (σ : List Nat × List Sn), ∃ j : (Option (D × Nat) × Option (D × Nat)), ∃ a : D, Vn n C.p σ.1 /\ Lad.mu n f σ.1 + σ.2.length <= Lad.mu n f v /\ (∀ τ, Runs f C l σ τ -> Runs f C l (v, []) τ) /\
      ((a = .non /\ k' = Lad.mu n f σ.1 + 1) \/ ∃ y : List Nat × List Sn, a = .tup (x0e y.1) /\ σ = l.foldl (x11 f C) y /\ (y.1 = σ.1 -> Runs f C l (v, []) σ) /\ k' = Lad.mu n f σ.1 + (if y.1 = σ.1 then 0 else 1)) /\ ρ2 = [some (x0n n f, 9), some (x07 n C, 9), some (.lst (l.map x04), 0), some (.tup (x0e σ.1), 9), some (.lst ((σ.2).map x04), 1), some (a, 9), (j).1, (j).2] := fun ht hk => by
        obtain ⟨j', c, ri, r4⟩ := round σ (some (.tup (x0e σ.1), 9)) j hw hm
        have hu := ri.u
        by_cases he : (l.foldl (x11 f C) σ).1 = σ.1
        · refine ⟨_, [some (x0n n f, 9), some (x07 n C, 9), some (.lst (l.map x04), 0), some (.tup (x0e (l.foldl (x11 f C) σ).1), 9), some (.lst (((l.foldl (x11 f C) σ).2).map x04), 1), some (.tup (x0e σ.1), 9), (j').1, (j').2], Lad.mu n f (l.foldl (x11 f C) σ).1 + (if σ.1 = (l.foldl (x11 f C) σ).1 then 0 else 1), ht, ?_, ?_, l.foldl (x11 f C) σ, j', .tup (x0e σ.1), ri.V, ri.m, fun τ hτ => ?_, .inr ⟨σ, rfl, rfl, fun _ => hrun _ (.stop he), rfl⟩, rfl⟩
          · unfold x4u
            refine (x0g (ρ1 := [some (x0n n f, 9), some (x07 n C, 9), some (.lst (l.map x04), 0), some (.tup (x0e σ.1), 9), some (.lst ((σ.2).map x04), 1), some (.tup (x0e σ.1), 9), (j).1, (j).2]) (by simp)).trans ?_
            exact (x3s (ds := l.map x04) (ρ1 := [some (x0n n f, 9), some (x07 n C, 9), some (.lst (l.map x04), 0), some (.tup (x0e σ.1), 9), some (.lst ((σ.2).map x04), 1), some (.tup (x0e σ.1), 9), (j).1, (j).2]) (by simp [hlen])).trans r4
          · rw [if_pos he.symm, he]; omega
          · have hst : Runs f C l σ (l.foldl (x11 f C) σ) := .stop he
            have hc : c = false := by
              cases c with
              | false => rfl
              | true =>
                have h2 : Lad.mu n f (l.foldl (x11 f C) σ).1 + 1 <= Lad.mu n f σ.1 := hu
                rw [he] at h2
                omega
            have hq : l.foldl (x11 f C) (l.foldl (x11 f C) σ) = l.foldl (x11 f C) σ := by
              have fix : ∀ (l : List Sn) (τ : List Nat × List Sn), (∀ s ∈ l, okN C s) -> Vn n C.p τ.1 -> (l.foldl (x11 f C) τ).1 = τ.1 -> l.foldl (x11 f C) τ = τ := by
                intro l
                induction l with
                | nil => intro τ _ _ _; rfl
                | cons s l ih =>
                  intro τ ol V h
                  have ok := x4l L hC _ (x3v (ol s List.mem_cons_self))
                  have V' := L.doS_V ok V
                  have ef : ∀ (l : List Sn) (τ : List Nat × List Sn), (l.foldl (x11 f C) τ).1 = (l.map (x1d C)).foldl (doS f) τ.1 := by
                    intro l
                    induction l with
                    | nil => intro τ; rfl
                    | cons s l ih => intro τ; exact ih _
                  have hS : ∀ t ∈ l.map (x1d C), OkS n C.p f t := fun t ht => by
                    obtain ⟨s', hs', rfl⟩ := List.mem_map.mp ht
                    exact x4l L hC _ (x3v (ol s' (List.mem_cons_of_mem _ hs')))
                  have same : doS f τ.1 (x1d C s) = τ.1 := by
                    have h1 : (l.foldl (x11 f C) (x11 f C τ s)).1 = τ.1 := h
                    rw [ef] at h1
                    have up1 := L.doS_up ok V
                    have up2 := L.foldS_up hS V'
                    have h1' : (l.map (x1d C)).foldl (doS f) (doS f τ.1 (x1d C s)) = τ.1 := h1
                    rw [h1'] at up2
                    exact L.leV_anti V' V up2 up1
                  have es : x11 f C τ s = τ := by unfold x11; rw [if_pos same, same]
                  show l.foldl (x11 f C) (x11 f C τ s) = τ
                  rw [es]
                  refine ih τ (fun t ht => ol t (List.mem_cons_of_mem _ ht)) V ?_
                  have h1 : (l.foldl (x11 f C) (x11 f C τ s)).1 = τ.1 := h
                  rw [es] at h1
                  exact h1
              have e1 := fix l σ hl hw he
              rw [e1, e1]
            have : Runs f C l (l.foldl (x11 f C) σ) (l.foldl (x11 f C) σ) := by
              have h := Runs.stop (f := f) (C := C) (l := l) (σ := l.foldl (x11 f C) σ) (by rw [hq])
              rw [hq] at h
              exact h
            rw [hτ.det this]
            exact hrun _ hst
        · refine ⟨_, [some (x0n n f, 9), some (x07 n C, 9), some (.lst (l.map x04), 0), some (.tup (x0e (l.foldl (x11 f C) σ).1), 9), some (.lst (((l.foldl (x11 f C) σ).2).map x04), 1), some (.tup (x0e σ.1), 9), (j').1, (j').2], Lad.mu n f (l.foldl (x11 f C) σ).1 + (if σ.1 = (l.foldl (x11 f C) σ).1 then 0 else 1), ht, ?_, ?_, l.foldl (x11 f C) σ, j', .tup (x0e σ.1), ri.V, ri.m, fun τ hτ => hrun τ (.more he hτ), .inr ⟨σ, rfl, rfl, fun z => absurd z.symm he, rfl⟩, rfl⟩
          · unfold x4u
            refine (x0g (ρ1 := [some (x0n n f, 9), some (x07 n C, 9), some (.lst (l.map x04), 0), some (.tup (x0e σ.1), 9), some (.lst ((σ.2).map x04), 1), some (.tup (x0e σ.1), 9), (j).1, (j).2]) (by simp)).trans ?_
            exact (x3s (ds := l.map x04) (ρ1 := [some (x0n n f, 9), some (x07 n C, 9), some (.lst (l.map x04), 0), some (.tup (x0e σ.1), 9), some (.lst ((σ.2).map x04), 1), some (.tup (x0e σ.1), 9), (j).1, (j).2]) (by simp [hlen])).trans r4
          · rw [if_neg fun z => he z.symm]
            have hc : c = true := by
              cases c with
              | true => rfl
              | false => exact absurd (ri.e rfl) he
            rw [hc] at hu
            have hu' : Lad.mu n f (l.foldl (x11 f C) σ).1 + 1 <= Lad.mu n f σ.1 := hu
            omega
      rcases h6 with ⟨rfl, hk⟩ | ⟨y, rfl, hy, hst, hk⟩
      · refine .inr (next ?_ (by omega))
        have hne : dNe (.tup (x0e σ.1)) .non = some (.bl true) := by
          unfold dNe
          rw [if_pos ⟨(z1i σ.1).ok, (Sh.non (k := 0)).ok⟩]
          rfl
        simp [hne]
      · by_cases hyw : y.1 = σ.1
        · refine .inl ⟨[some (x0n n f, 9), some (x07 n C, 9), some (.lst (l.map x04), 0), some (.tup (x0e σ.1), 9), some (.lst ((σ.2).map x04), 1), some (.tup (x0e σ.1), 9), (j).1, (j).2], by rw [hyw]; simp [x99], σ.1, σ.2, j, hst hyw, rfl⟩
        · rw [if_neg hyw] at hk
          refine .inr (next ?_ (by omega))
          have : ¬ (σ.1 = y.1) := fun z => hyw z.symm
          simp [x99, this])
  refine ⟨u, R, hR, ?_⟩
  unfold x67 y2o
  refine x38 ?_
  show x0y _ _ [some (x0n n f, 9), some (x07 n C, 9), some (.lst (l.map x04), 0), some (.tup (x0e v), 9), none, none, none, none] = _
  refine (x0g (ρ1 := [some (x0n n f, 9), some (x07 n C, 9), some (.lst (l.map x04), 0), some (.tup (x0e v), 9), some (.lst [], 1), none, none, none]) (by simp)).trans ?_
  refine (x0g (ρ1 := [some (x0n n f, 9), some (x07 n C, 9), some (.lst (l.map x04), 0), some (.tup (x0e v), 9), some (.lst ((([] : List Sn)).map x04), 1), some (.non, 9), (((none, none) : (Option (D × Nat) × Option (D × Nat)))).1, (((none, none) : (Option (D × Nat) × Option (D × Nat)))).2]) (by simp)).trans ?_
  refine (x0g e).trans ?_
  simp
end
theorem y83 {i : Nat} {ρ : Rho} {x : D × Nat} (h : ρ[i]? = some (some x)) : ρ.set i (some x) = ρ := by
  apply List.ext_getElem?
  intro k
  by_cases hk : i = k
  · subst hk
    rw [h, List.getElem?_set_self (List.getElem?_eq_some_iff.mp h).1]
  · rw [List.getElem?_set_ne hk]
theorem y4f {i q : Nat} {ρ : Rho} {ds : List D} (h : ρ[i]? = some (some (.lst ds, q))) : x08 i ρ = some (.lst ds, 0, ρ.set i (some (.lst ds, 0))) := by
  unfold x08
  rw [h]
  by_cases hq : q = 0
  · subst hq
    rw [y83 h]
    rfl
  · simp [hq]
theorem z7q {g h : x1y} {ρ ρ1 : Rho} (e : g ρ = some (false, ρ1)) : y7c g h ρ = h ρ1 := by unfold y7c; rw [e]; rfl
theorem y0p {i q n : Nat} {ρ : Rho} {d : D} (h : ρ[i]? = some (some (d, q))) (hl : x56 d = some n) : x13 i ρ = some (.int (Int.ofNat n), 9, ρ) := by unfold x13; rw [h]; simp only [hl]
theorem z2u {i q : Nat} {ρ : Rho} {x d : D} {b : Den} {k : Int} {q' : Nat} (hb : b ρ = some (.int k, q', ρ)) (h : ρ[i]? = some (some (x, q))) (ha : atD x k = some d) (hd : d.isL = false) : x1q i b ρ = some (d, 9, ρ) := by
  unfold x1q
  rw [h]
  simp only [hb, h, ha, hd, x85]
  simp
theorem x74 (ns : List Int) {c : Int} (hc : 0 <= c) {n : Nat} (hn : 0 < n) : ∃ v, v < n /\ x0a [scr ns, .int c, .int (Int.ofNat n)] = some (.int (Int.ofNat v), 9) := by
  have hnp : (0 : Int) < Int.ofNat n := by show (0 : Int) < (n : Int); omega
  have h1 := x4q ns c hnp
  have h2 := x5j ns c hnp
  have h3 : Int.ofNat n = (n : Int) := rfl
  obtain ⟨v, hv⟩ := Int.eq_ofNat_of_zero_le h1
  refine ⟨v, by rw [hv, h3] at h2; omega, ?_⟩
  rw [x5d ns c _ hc hnp, hv]
  rfl
theorem z4v (z : Nat) : ∀ p : Nat, (List.replicate p [D.int (Int.ofNat z)]).flatten = x0e (x72 p z)
  | 0 => rfl
  | p + 1 => by rw [List.replicate_succ, List.flatten_cons, z4v z p]; rfl
theorem y8e {u v : List Nat} (h : x0e u = x0e v) : u = v := by
  have := congrArg (fun l => l.map fun d => match d with | D.int i => i.toNat | _ => 0) h
  simpa [x0e, Function.comp_def] using this
section
variable {n : Nat} {f : Nat -> Nat -> Nat} (L : Lad n f) {z : Nat} (hz : z < n) (bz : ∀ j, j < n -> f z j = j) {C : Cht} (hC : C.Ok n f)
include L hz bz hC
theorem z27 {l : List Sn} (hl : ∀ s ∈ l, okN C s) (hlen : l.length <= 1000) : ∃ (u : List Nat) (R : List Sn), LowS n f C.p (l.map (x1d C)) (x72 C.p z) u /\ Runs f C l (x72 C.p z, []) (u, R) /\ x1u [x0n n f, x07 n C, .lst (l.map x04)] = some (.tup [.tup (x0e u), .int (Int.ofNat R.length)], 9) := by
  obtain ⟨u1, R1, h1, _, _, _, e1⟩ := x8d L hz bz hC hl hlen
  obtain ⟨u, R, h2, e⟩ := y52 L hC (y6f (p := C.p) hz) hl hlen
  have e2 : x1u [x0n n f, x07 n C, .lst (l.map x04)] = some (.tup [.tup (x0e u), .int (Int.ofNat R.length)], 9) := by
    have r0 := x4e (n := n) hl hlen
    have r1 := y2b L hz bz hC
    have a0 : atD (.tup [.tup (x0e u), .lst (R.map x04)]) 0 = some (.tup (x0e u)) := rfl
    have a1 : atD (.tup [.tup (x0e u), .lst (R.map x04)]) 1 = some (.lst (R.map x04)) := rfl
    have a2 : x56 (.lst (R.map x04)) = some R.length := by simp [x56]
    unfold x1u x7e
    simp [-Int.ofNat_eq_natCast, r0, r1, e, a0, a1, a2]
  rw [e2] at e1
  simp only [Option.some.injEq, Prod.mk.injEq, D.tup.injEq, List.cons.injEq] at e1
  have := y8e e1.1.1
  subst this
  exact ⟨u, R, h1, h2, e2⟩
noncomputable abbrev R8 (n : Nat) (f : Nat -> Nat -> Nat) (C : Cht) (l : List Sn) (w : List Nat) (k : Nat) (b : Bool) (j : Option (D × Nat) × Option (D × Nat)) : Rho := [some (x0n n f, 9), some (x07 n C, 9), some (.lst (l.map x04), 0), some (.tup (x0e w), 9), some (.int (Int.ofNat k), 9), some (.bl b, 9), j.1, j.2]
theorem y4j {l : List Sn} (hl : ∀ s ∈ l, okN C s) (hlen : l.length <= 1000) : ∃ (u : List Nat) (R : List Sn), Runs f C l (x72 C.p z, []) (u, R) /\ x20 [x0n n f, x07 n C, .lst (l.map x04)] = some (.tup [.tup (x0e u), .int (Int.ofNat R.length)], 9) := by
  have hn : n <= 1000 := Nat.le_trans L.hi (by decide)
  have hp8 := hC.p8
  have hp1 := hC.p1
  have hn8 := L.hi
  have hv := y6f (p := C.p) hz
  have hmu := Lad.mu_le (f := f) hv
  have hmu' : C.p * n <= 8 * 8 := Nat.mul_le_mul hp8 hn8
  have pass : ∀ (σ : List Nat × List Sn) (j : Option (D × Nat) × Option (D × Nat)), Vn n C.p σ.1 -> Lad.mu n f σ.1 + σ.2.length <= Lad.mu n f (x72 C.p z) ->
      ∃ (j' : Option (D × Nat) × Option (D × Nat)) (c : Bool), RInv n f C (Lad.mu n f (x72 C.p z)) σ.1 (l.foldl (x11 f C) σ) c /\ x98 (x0o 6) x4r (l.map x04) (R8 n f C l σ.1 σ.2.length false j) = some (.nx (R8 n f C l (l.foldl (x11 f C) σ).1 (l.foldl (x11 f C) σ).2.length c j')) := fun σ j hw hm => by
    obtain ⟨j', e, i1⟩ := x70 (J := Option (D × Nat) × Option (D × Nat)) (pt := x0o 6) (body := x4r) x04 (fun (τ : (List Nat × List Sn) × Bool) j => R8 n f C l τ.1.1 τ.1.2.length τ.2 j) (fun τ s => (x11 f C τ.1 s, if doS f τ.1.1 (x1d C s) = τ.1.1 then τ.2 else true))
      (fun τ => RInv n f C (Lad.mu n f (x72 C.p z)) σ.1 τ.1 τ.2) l (σ, false) j ⟨hw, hm, Nat.le_refl _, fun _ => rfl⟩ (fun s hs τ j hh0 => by
        refine ⟨hh0.step L hC (hl s hs), ?_⟩
        obtain ⟨⟨x, Q⟩, c⟩ := τ
        have k1 : Vn n C.p x := hh0.V
        have hb := y2q L hC k1 (hl s hs)
        dsimp only [x11]
        refine ⟨R8 n f C l x Q.length c (some (x04 s, 9), j.2), (some (x04 s, 9), some (.tup (x0e (doS f x (x1d C s))), 9)), rfl, ?_⟩
        unfold x4r
        refine (x0g (ρ1 := R8 n f C l x Q.length c (some (x04 s, 9), some (.tup (x0e (doS f x (x1d C s))), 9))) (x2h (x15 (ds := [x0n n f, x07 n C, .tup (x0e x), x04 s]) rfl rfl hb) rfl)).trans ?_
        have ne := x8t (y2j (fa := x08 7) (fb := x08 3) (q := 9) (q' := 9) (ρ := R8 n f C l x Q.length c (some (x04 s, 9), some (.tup (x0e (doS f x (x1d C s))), 9))) rfl rfl (x99 (doS f x (x1d C s)) x))
        by_cases he : doS f x (x1d C s) = x
        · rw [decide_eq_true he] at ne
          rw [if_pos he, if_pos he, he]
          rw [he] at ne
          exact (y6j ne).trans rfl
        · rw [decide_eq_false he] at ne
          rw [if_neg he, if_neg he, List.length_append]
          refine (z39 ne).trans ?_
          refine (x0g (ρ1 := R8 n f C l (doS f x (x1d C s)) Q.length c (some (x04 s, 9), some (.tup (x0e (doS f x (x1d C s))), 9))) (x2h (d := .tup (x0e (doS f x (x1d C s)))) (q := 9) rfl rfl)).trans ?_
          exact (x0g (ρ1 := R8 n f C l (doS f x (x1d C s)) (Q.length + 1) c (some (x04 s, 9), some (.tup (x0e (doS f x (x1d C s))), 9))) (x2h (d := .int (Int.ofNat (Q.length + 1))) (q := 9) rfl rfl)).trans rfl)
    have ef : ∀ (l : List Sn) (τ : (List Nat × List Sn) × Bool), (l.foldl (fun (τ : (List Nat × List Sn) × Bool) s => (x11 f C τ.1 s, if doS f τ.1.1 (x1d C s) = τ.1.1 then τ.2 else true)) τ).1 = l.foldl (x11 f C) τ.1 := by
      intro l
      induction l with
      | nil => intro τ; rfl
      | cons s l ih => intro τ; exact ih _
    have ef' := ef l (σ, false)
    rw [ef'] at e i1
    exact ⟨j', _, i1, e⟩
  obtain ⟨ρ', e, u, R, j, hR, rfl⟩ := x77 (c := y2d (x08 5)) (b := x6b)
    (Q := fun ρ => ∃ (u : List Nat) (R : List Sn) (j : Option (D × Nat) × Option (D × Nat)), Runs f C l (x72 C.p z, []) (u, R) /\ ρ = R8 n f C l u R.length false j)
    (fun k ρ => ∃ (σ : List Nat × List Sn) (j : Option (D × Nat) × Option (D × Nat)) (b : Bool), Vn n C.p σ.1 /\ Lad.mu n f σ.1 + σ.2.length <= Lad.mu n f (x72 C.p z) /\ (b = true -> ∀ τ, Runs f C l σ τ -> Runs f C l (x72 C.p z, []) τ) /\ (b = false -> Runs f C l (x72 C.p z, []) σ) /\ k = (if b then Lad.mu n f σ.1 + 1 else 0) /\ ρ = R8 n f C l σ.1 σ.2.length b j)
    (k := Lad.mu n f (x72 C.p z) + 1) (ρ := R8 n f C l (x72 C.p z) 0 true (none, none)) (by omega) ⟨(x72 C.p z, []), (none, none), true, hv, Nat.le_refl _, fun _ _ h => h, (fun z => nomatch z), rfl, rfl⟩ (fun k ρ hh0 => by
      obtain ⟨σ, j, b, hw, hm, hrun, hend, hk, rfl⟩ := hh0
      cases b with
      | false => exact .inl ⟨R8 n f C l σ.1 σ.2.length false j, rfl, σ.1, σ.2, j, hend rfl, rfl⟩
      | true =>
        obtain ⟨j', c, ri, r4⟩ := pass σ j hw hm
        have hu := ri.u
        refine .inr ⟨R8 n f C l σ.1 σ.2.length true j, R8 n f C l (l.foldl (x11 f C) σ).1 (l.foldl (x11 f C) σ).2.length c j', (if c then Lad.mu n f (l.foldl (x11 f C) σ).1 + 1 else 0), rfl, ?_, ?_, l.foldl (x11 f C) σ, j', c, ri.V, ri.m, fun hc τ hτ => ?_, fun hc => ?_, rfl, rfl⟩
        · unfold x6b
          refine (x0g (ρ1 := R8 n f C l σ.1 σ.2.length false j) (x2h (d := .bl false) (q := 9) rfl rfl)).trans ?_
          exact (x3s (ds := l.map x04) (ρ1 := R8 n f C l σ.1 σ.2.length false j) (by simp [hlen])).trans r4
        · rw [hk]
          cases c with
          | false => show 0 < Lad.mu n f σ.1 + 1; omega
          | true =>
            have hu' : Lad.mu n f (l.foldl (x11 f C) σ).1 + 1 <= Lad.mu n f σ.1 := hu
            show Lad.mu n f (l.foldl (x11 f C) σ).1 + 1 < Lad.mu n f σ.1 + 1
            omega
        · refine hrun rfl τ (.more (fun z => ?_) hτ)
          rw [hc, z] at hu
          have hu' : Lad.mu n f σ.1 + 1 <= Lad.mu n f σ.1 := hu
          omega
        · exact hrun rfl _ (.stop (ri.e hc)))
  refine ⟨u, R, hR, ?_⟩
  unfold x20 x7r
  refine x38 ?_
  show x0y _ _ [some (x0n n f, 9), some (x07 n C, 9), some (.lst (l.map x04), 0), none, none, none, none, none] = _
  refine (x0g (ρ1 := [some (x0n n f, 9), some (x07 n C, 9), some (.lst (l.map x04), 0), some (.tup (x0e (x72 C.p z)), 9), none, none, none, none]) (x2h (d := .tup (x0e (x72 C.p z))) (q := 9) (ρ1 := [some (x0n n f, 9), some (x07 n C, 9), some (.lst (l.map x04), 0), none, none, none, none, none]) ?_ rfl)).trans ?_
  · have e1 : x5e (x01 (x0k x1r 1 (x01 (x08 0) (x0h))) (x0h)) [some (x0n n f, 9), some (x07 n C, 9), some (.lst (l.map x04), 0), none, none, none, none, none] = some (.tup [.int (Int.ofNat z)], 9, [some (x0n n f, 9), some (x07 n C, 9), some (.lst (l.map x04), 0), none, none, none, none, none]) := by
      have := x15 (F := x1r) (n := 1) (g := x01 (x08 0) x0h) (ds := [x0n n f]) (ρ := [some (x0n n f, 9), some (x07 n C, 9), some (.lst (l.map x04), 0), none, none, none, none, none]) rfl rfl (y78 L hz bz hn)
      unfold x5e
      rw [x1b this]
      exact if_pos (show 1 <= 1000 by decide)
    have e2 : x1q 1 (eC (.int 0)) [some (x0n n f, 9), some (x07 n C, 9), some (.lst (l.map x04), 0), none, none, none, none, none] = some (.int (Int.ofNat C.p), 9, [some (x0n n f, 9), some (x07 n C, 9), some (.lst (l.map x04), 0), none, none, none, none, none]) := rfl
    unfold y57
    rw [e1]
    simp only [e2]
    rw [if_pos ⟨rfl, by show (1 : Int) <= (C.p : Int); omega, by show 1 * C.p <= 1000; omega⟩]
    show some (D.tup (List.replicate C.p [D.int (Int.ofNat z)]).flatten, 9, _) = _
    rw [z4v]
  refine (x0g (ρ1 := [some (x0n n f, 9), some (x07 n C, 9), some (.lst (l.map x04), 0), some (.tup (x0e (x72 C.p z)), 9), some (.int 0, 9), none, none, none]) rfl).trans ?_
  refine (x0g (ρ1 := R8 n f C l (x72 C.p z) 0 true (none, none)) rfl).trans ?_
  refine (x0g e).trans ?_
  rfl
theorem y5x : x4i [.exc "NoStep"] = some (.str "no step", 9) := by rfl
theorem y3p {ds : List D} (hlen : ds.length <= 1000) {b : D -> Bool} (hb : ∀ d ∈ ds, x1e [x07 n C, d] = some (.bl (b d), 9) /\ x85 d = 9) :
    (ds.all b = false -> x1a [x0n n f, x07 n C, .lst ds] = some (.str "no step", 9)) /\
    (ds.all b = true -> ∀ d, x1u [x0n n f, x07 n C, .lst ds] = some (.tup d, 9) -> x1a [x0n n f, x07 n C, .lst ds] = some (.tup d, 9)) := by
  have hit : x9l (x08 1) [some (x07 n C, 9), some (.lst ds, 0)] = some (ds, [some (x07 n C, 9), some (.lst ds, 0)]) := by simp [hlen]
  have e := y3n (i := 2) (te := x0k x1e 2 (x01 (x08 0) (x01 (x08 2) (x0h)))) (ρ := [some (x07 n C, 9), some (.lst ds, 0)]) rfl hit b (fun _ => 9) (fun d hd => by
    obtain ⟨h1, h2⟩ := hb d hd
    have v2 : x08 2 ([some (x07 n C, 9), some (.lst ds, 0)] ++ [some (d, x85 d)]) = some (d, x85 d, [some (x07 n C, 9), some (.lst ds, 0)] ++ [some (d, x85 d)]) := y9n rfl
    exact x15 (x0x (f := x08 0) (q := 9) rfl (x1b v2)) rfl h1)
  have x1 : x1v [x07 n C, .lst ds] = if ds.all b = true then none else some "NoStep" := by
    unfold x1v fnX x53
    show xIf _ "NoStep" [some (x07 n C, 9), some (.lst ds, 0)] = _
    unfold xIf x8q y2d
    simp only [e]
    cases ds.all b <;> rfl
  have x2 : x4y [x0n n f, x07 n C, .lst ds] = if ds.all b = true then none else some "NoStep" := by
    rw [<- x1]
    rfl
  have c1 : x01 (x08 0) (x01 (x08 1) (x01 (x08 2) x0h)) [some (x0n n f, 9), some (x07 n C, 9), some (.lst ds, 0), some (.non, 9), some (.non, 9), none] = some ([x0n n f, x07 n C, .lst ds], [some (x0n n f, 9), some (x07 n C, 9), some (.lst ds, 0), some (.non, 9), some (.non, 9), none]) := rfl
  refine ⟨fun hx => ?_, fun hx d hF => ?_⟩
  · rw [hx] at x2
    unfold x1a x5k
    refine x38 ?_
    refine (x0g (ρ1 := [some (x0n n f, 9), some (x07 n C, 9), some (.lst ds, 0), some (.non, 9), none, none]) rfl).trans ?_
    refine (x0g (ρ1 := [some (x0n n f, 9), some (x07 n C, 9), some (.lst ds, 0), some (.non, 9), some (.non, 9), none]) rfl).trans ?_
    refine (x0g (ρ1 := [some (x0n n f, 9), some (x07 n C, 9), some (.lst ds, 0), some (.exc "NoStep", 9), some (.non, 9), none]) ?_).trans ?_
    · unfold z3u
      rw [c1]
      simp only [x2]
      rfl
    refine (x0g (ρ1 := [some (x0n n f, 9), some (x07 n C, 9), some (.lst ds, 0), some (.exc "NoStep", 9), some (.non, 9), none]) rfl).trans ?_
    exact x3n (x15 (ds := [.exc "NoStep"]) rfl rfl (y5x L hz bz hC))
  · rw [hx] at x2
    unfold x1a x5k
    refine x38 ?_
    refine (x0g (ρ1 := [some (x0n n f, 9), some (x07 n C, 9), some (.lst ds, 0), some (.non, 9), none, none]) rfl).trans ?_
    refine (x0g (ρ1 := [some (x0n n f, 9), some (x07 n C, 9), some (.lst ds, 0), some (.non, 9), some (.non, 9), none]) rfl).trans ?_
    refine (x0g (ρ1 := [some (x0n n f, 9), some (x07 n C, 9), some (.lst ds, 0), some (.non, 9), some (.tup d, 9), none]) ?_).trans ?_
    · unfold z3u
      rw [c1]
      simp only [x2]
      exact x2h (x15 c1 rfl hF) rfl
    exact z25 ((z39 (ρ1 := [some (x0n n f, 9), some (x07 n C, 9), some (.lst ds, 0), some (.non, 9), some (.tup d, 9), none]) rfl).trans (x3n rfl))
end
theorem z06 {ds : List D} {v : Nat} (h : v <= ds.length) : L3.z0e ds none (some (Int.ofNat v)) = ds.take v := by
  unfold L3.z0e
  have e1 : HT.sIx ds.length 0 none = 0 := rfl
  have e2 : HT.sIx ds.length ds.length (some (Int.ofNat v)) = v := by
    have : ¬ ((v : Int) < 0) := by omega
    simp [HT.sIx, this]
    omega
  rw [e1, e2, List.drop_zero, Nat.sub_zero]
theorem z41 {ds : List D} {v : Nat} (h : v <= ds.length) : L3.z0e ds (some (Int.ofNat v)) none = ds.drop v := by
  unfold L3.z0e
  have e1 : HT.sIx ds.length 0 (some (Int.ofNat v)) = v := by
    have : ¬ ((v : Int) < 0) := by omega
    simp [HT.sIx, this]
    omega
  have e2 : HT.sIx ds.length ds.length none = ds.length := rfl
  rw [e1, e2, List.take_of_length_le (by rw [List.length_drop]; exact Nat.le_refl _)]
theorem z6g {i : Nat} {g : x1h} {ρ ρ1 : Rho} {a : List Sn} {v : Nat} (hl : y36 ρ[i]? = true) (hg : g ρ = some ([.int (Int.ofNat v)], ρ1)) (h1 : ρ1[i]? = some (some (.lst (a.map x04), 1))) (hv : v < a.length) (hb : v <= 1000) :
    y75 i g ρ = some (x04 (a.getD v (true, 0)), 9, ρ1.set i (some (.lst ((a.eraseIdx v).map x04), 1))) := by
  have hs : seqIndex? (Int.ofNat v) (a.map x04).length = some v := (y0s (x8k (by rw [List.length_map]; exact hv))).1
  have hgx : (a.map x04)[v]? = some (x04 (a.getD v (true, 0))) := by
    rw [List.getElem?_map, List.getD_eq_getElem?_getD, List.getElem?_eq_getElem hv]; rfl
  have he : (a.map x04).eraseIdx v = (a.eraseIdx v).map x04 := by
    rw [List.eraseIdx_eq_take_drop_succ, List.eraseIdx_eq_take_drop_succ, List.map_append, List.map_take, List.map_drop]
  have b1 : (-1000 : Int) <= Int.ofNat v := by show (-1000 : Int) <= (v : Int); omega
  have b2 : Int.ofNat v <= 1000 := by show (v : Int) <= 1000; omega
  unfold y75
  rw [if_pos hl, hg]
  simp only [h1, if_pos (And.intro b1 b2), hs, hgx, he]
  rfl
theorem y27 {a : List Sn} {v : Nat} (h : v < a.length) : a.getD v (true, 0) ∈ a := by
  rw [List.getD_eq_getElem?_getD, List.getElem?_eq_getElem h]
  exact List.getElem_mem h
theorem y1x {a : List Sn} {v : Nat} (h : v < a.length) {s : Sn} (hs : s ∈ a) : s ∈ a.eraseIdx v \/ s = a.getD v (true, 0) := by
  obtain ⟨i, hi, rfl⟩ := List.getElem_of_mem hs
  by_cases e : i = v
  · subst e
    right
    rw [List.getD_eq_getElem?_getD, List.getElem?_eq_getElem h]; rfl
  · exact .inl (List.mem_eraseIdx_iff_getElem.mpr ⟨i, hi, e, rfl⟩)
theorem z93 (i : Int) : PyData.eqv (toP (.int i)) (toP (.int i)) = true := by show (i == i) = true; simp
theorem j01 (v : List Nat) : PyData.eqvAll (x57 (x0e v)) (x57 (x0e v)) = true := by
  induction v with
  | nil => rfl
  | cons a v ih =>
    show (PyData.eqv (toP (.int (Int.ofNat a))) (toP (.int (Int.ofNat a))) && PyData.eqvAll (x57 (x0e v)) (x57 (x0e v))) = true
    rw [z93, ih]; rfl
theorem y23 (u : List Nat) (k : Nat) : dNe (.tup [.tup (x0e u), .int (Int.ofNat k)]) (.tup [.tup (x0e u), .int (Int.ofNat k)]) = some (.bl false) := by
  have s : Sh 2 (.tup [.tup (x0e u), .int (Int.ofNat k)]) := .tup fun d hd => by
    rcases List.mem_cons.mp hd with rfl | hd
    · exact z1i u
    · rcases List.mem_cons.mp hd with rfl | hd
      · exact .int _
      · cases hd
  unfold dNe
  rw [if_pos ⟨s.ok, s.ok⟩]
  have e : eqD (.tup [.tup (x0e u), .int (Int.ofNat k)]) (.tup [.tup (x0e u), .int (Int.ofNat k)]) = true := by
    show (PyData.eqvAll (x57 (x0e u)) (x57 (x0e u)) && (PyData.eqv (toP (.int (Int.ofNat k))) (toP (.int (Int.ofNat k))) && true)) = true
    rw [j01, z93]; rfl
  rw [e]
  rfl
theorem z6x : dEq (.str "no step") (.str "no step") = some (.bl true) := by
  have s : Sh 0 (.str "no step") := ⟨by decide +kernel, by decide +kernel⟩
  unfold dEq
  rw [if_pos ⟨s.ok, s.ok⟩]
  simp [eqD, toP, PyData.eqv]
theorem dg3 (a b : D) : x9a ["begin", "way"] [a, b] "stop" = none := by
  unfold x9a
  rw [if_neg (by decide +kernel)]
  unfold x9a
  rw [if_neg (by decide +kernel)]
  rfl
section
variable {n : Nat} {C : Cht}
theorem x87 (x : Str) (i : Int) (m : Nat) (hx : (x9a ["begin", "way"] [.int (Int.ofNat C.B.length), .int (Int.ofNat C.W.length)] x = some (.int (Int.ofNat m))) \/ (x9a ["begin", "way"] [.int (Int.ofNat C.B.length), .int (Int.ofNat C.W.length)] x = none /\ m = 0)) (hi : x6o m (.int i) = false) : x1e [x07 n C, .tup [.str x, .int i]] = some (.bl false, 9) := by
  have h : x17 [.tup [.str x, .int i], .dic ["begin", "way"] [.int (Int.ofNat C.B.length), .int (Int.ofNat C.W.length)]] = some (.bl false, 9) := by
    have l2 : dNe (.int 2) (.int 2) = some (.bl false) := (y5v _ _).trans (by simp)
    have n1 := x5h m (.int i)
    rw [hi] at n1
    have s0 : atD (.tup [.str x, .int i]) 0 = some (.str x) := rfl
    have s1 : atD (.tup [.str x, .int i]) 1 = some (.int i) := rfl
    have ll : x56 (.tup [.str x, .int i]) = some 2 := rfl
    unfold x17 x39
    rcases hx with hx | ⟨hx, rfl⟩
    · simp [-Int.ofNat_eq_natCast, isD, ll, l2, s0, s1, hx, n1]
    · have n1' : x1g [.int i, .int 0] = some (.bl false, 9) := n1
      simp [-Int.ofNat_eq_natCast, isD, ll, l2, s0, s1, hx, n1']
  unfold x1e x90
  have e1 : x47 0 2 [some (x07 n C, 9), some (.tup [.str x, .int i], 9)] = some (Int.ofNat C.B.length) := by
    show some (Int.ofNat (C.B.map x8r).length) = _
    rw [List.length_map]
  have e2' : x47 0 1 [some (x07 n C, 9), some (.tup [.str x, .int i], 9)] = some (Int.ofNat C.W.length) := by
    show some (Int.ofNat (C.W.map (x63 n)).length) = _
    rw [List.length_map]
  have ed : y1e "begin" "way" (x47 0 2) (x47 0 1) [some (x07 n C, 9), some (.tup [.str x, .int i], 9)] = some (.dic ["begin", "way"] [.int (Int.ofNat C.B.length), .int (Int.ofNat C.W.length)], 9, [some (x07 n C, 9), some (.tup [.str x, .int i], 9)]) := by
    unfold y1e
    rw [e1, e2']
  exact x38 (x3n (x15 (x0x (f := x08 1) (d := .tup [.str x, .int i]) (q := 9) (ρ := [some (x07 n C, 9), some (.tup [.str x, .int i], 9)]) (ρ1 := [some (x07 n C, 9), some (.tup [.str x, .int i], 9)]) rfl (x1b ed)) rfl h))
end
noncomputable def z03 (n : Nat) (C : Cht) (d : D) : Bool := match x1e [x07 n C, d] with
  | some (.bl b, _) => b
  | _ => false
noncomputable abbrev T10 (ns : List Int) (n : Nat) (f : Nat -> Nat -> Nat) (C : Cht) (a b c d e g h : Option (D × Nat)) : Rho := [some (scr ns, 0), some (x0n n f, 9), some (x07 n C, 9), a, b, c, d, e, g, h]
theorem y8j {ns : List Int} {n : Nat} {f : Nat -> Nat -> Nat} {C : Cht} (hB : C.B.length <= 3) (hW : C.W.length <= 7) : ∃ (b : List Sn) (x3 x5 : Option (D × Nat)), b.length <= 20 /\ (∀ s ∈ b, okN C s) /\ (∀ s ∈ x82 C, s ∈ b) /\
    x7i (x10 (x01 (x13 3) (x0h))) (x0o 5) y41 (T10 ns n f C (some (.lst ((x82 C).map x04), 1)) (some (.lst [], 1)) none none none none none) = some (.nx (T10 ns n f C x3 (some (.lst (b.map x04), 1)) x5 none none none none)) := by
  have hN : (x82 C).length <= 10 := by rw [y4e]; omega
  rw [x3s (x4p (n := (x82 C).length) (by omega) rfl (by simp [x56]))]
  obtain ⟨ρ', e, a, b, x5, ha, hb, oa, ob, cov, rfl⟩ := x3j (pt := x0o 5) (body := y41) (x16 (x82 C).length) (fun i ρ => ∃ (a b : List Sn) (x5 : Option (D × Nat)), a.length + i = (x82 C).length /\ b.length <= 2 * i /\ (∀ s ∈ a, okN C s) /\ (∀ s ∈ b, okN C s) /\ (∀ s ∈ x82 C, s ∈ a \/ s ∈ b) /\ ρ = T10 ns n f C (some (.lst (a.map x04), 1)) (some (.lst (b.map x04), 1)) x5 none none none none)
    (T10 ns n f C (some (.lst ((x82 C).map x04), 1)) (some (.lst [], 1)) none none none none none) (fun i hi ρ hh => by
      obtain ⟨a, b, x5, ha, hb, oa, ob, cov, rfl⟩ := hh
      rw [x0q] at hi
      have hap : 0 < a.length := by omega
      obtain ⟨v, hv, ev⟩ := x74 ns (c := 200 + 2 * Int.ofNat i) (by show 0 <= 200 + 2 * (i : Int); omega) hap
      have hv' : v <= 1000 := by omega
      generalize hs : a.getD v (true, 0) = s
      have hsa : s ∈ a := by rw [<- hs]; exact y27 hv
      -- popped and appended
      have g3 : x01 (x0k x0a 3 (x01 (x08 0) (x01 (e2 x29 (eC (.int 200)) (e2 x8s (eC (.int 2)) (x08 5))) (x01 (x13 3) (x0h))))) (x0h) (T10 ns n f C (some (.lst (a.map x04), 1)) (some (.lst (b.map x04), 1)) (some (.int (Int.ofNat i), 9)) none none none none) = some ([.int (Int.ofNat v)], T10 ns n f C (some (.lst (a.map x04), 1)) (some (.lst (b.map x04), 1)) (some (.int (Int.ofNat i), 9)) none none none none) :=
        x1b (x15 (x0x (f := x08 0) (q := 0) rfl (x0x (f := e2 x29 (eC (.int 200)) (e2 x8s (eC (.int 2)) (x08 5))) (d := .int (200 + 2 * Int.ofNat i)) (q := 9) rfl (x1b (y0p rfl (by simp [x56]))))) rfl ev)
      have g4 := z6g (i := 3) rfl g3 rfl hv hv'
      rw [hs] at g4
      have g5 : x34 (x7q 4 (x01 (y75 3 (x01 (x0k x0a 3 (x01 (x08 0) (x01 (e2 x29 (eC (.int 200)) (e2 x8s (eC (.int 2)) (x08 5))) (x01 (x13 3) (x0h))))) (x0h))) (x0h))) (T10 ns n f C (some (.lst (a.map x04), 1)) (some (.lst (b.map x04), 1)) (some (.int (Int.ofNat i), 9)) none none none none) = some (.nx (T10 ns n f C (some (.lst ((a.eraseIdx v).map x04), 1)) (some (.lst ((b ++ [s]).map x04), 1)) (some (.int (Int.ofNat i), 9)) none none none none)) :=
        y09 (ds := b.map x04) rfl (x1b g4) rfl (by rw [List.length_map]; omega) (by rw [List.map_append]; rfl)
      have la : (a.eraseIdx v).length + (i + 1) = (x82 C).length := by rw [List.length_eraseIdx_of_lt hv]; omega
      have oa' : ∀ t ∈ a.eraseIdx v, okN C t := fun t ht => oa t (List.mem_of_mem_eraseIdx ht)
      have ob' : ∀ t ∈ b ++ [s], okN C t := fun t ht => by
        rcases List.mem_append.mp ht with h | h
        · exact ob t h
        · rw [List.mem_singleton.mp h]; exact oa s hsa
      have cov' : ∀ t ∈ x82 C, t ∈ a.eraseIdx v \/ t ∈ b ++ [s] := fun t ht => by
        rcases cov t ht with h | h
        · rcases y1x hv h with h | h
          · exact .inl h
          · rw [hs] at h; exact .inr (List.mem_append_right _ (by rw [h]; exact List.mem_singleton.mpr rfl))
        · exact .inr (List.mem_append_left _ h)
      have lb : (b ++ [s]).length = b.length + 1 := by rw [List.length_append]; rfl
      obtain ⟨y, hy, ey⟩ := x74 ns (c := 201 + 2 * Int.ofNat i) (by show 0 <= 201 + 2 * (i : Int); omega) (n := 4) (by decide)
      obtain ⟨v2, hv2, ev2⟩ := x74 ns (c := 230 + Int.ofNat i) (by show 0 <= 230 + (i : Int); omega) (n := (b ++ [s]).length) (by omega)
      have te : x3d (e2 dEq (x0k x0a 3 (x01 (x08 0) (x01 (e2 x29 (eC (.int 201)) (e2 x8s (eC (.int 2)) (x08 5))) (x01 (eC (.int 4)) (x0h))))) (eC (.int 0))) (T10 ns n f C (some (.lst ((a.eraseIdx v).map x04), 1)) (some (.lst ((b ++ [s]).map x04), 1)) (some (.int (Int.ofNat i), 9)) none none none none) = some (decide (y = 0), T10 ns n f C (some (.lst ((a.eraseIdx v).map x04), 1)) (some (.lst ((b ++ [s]).map x04), 1)) (some (.int (Int.ofNat i), 9)) none none none none) :=
        x8t (y2j (x15 (ds := [scr ns, .int (201 + 2 * Int.ofNat i), .int 4]) rfl rfl ey) (rfl : eC (.int 0) _ = some (.int (Int.ofNat 0), 9, _)) (y6t y 0))
      refine ⟨T10 ns n f C (some (.lst (a.map x04), 1)) (some (.lst (b.map x04), 1)) (some (.int (Int.ofNat i), 9)) none none none none, ?_⟩
      by_cases h0 : y = 0
      · rw [decide_eq_true h0] at te
        generalize hs2 : (b ++ [s]).getD v2 (true, 0) = s2
        have hs2m : s2 ∈ b ++ [s] := by rw [<- hs2]; exact y27 hv2
        have at4 : atD (.lst ((b ++ [s]).map x04)) (Int.ofNat v2) = some (x04 s2) := by
          show L2.atI ((b ++ [s]).map x04) (Int.ofNat v2) = _
          refine z18 ?_
          rw [List.getElem?_map, <- hs2, List.getD_eq_getElem?_getD, List.getElem?_eq_getElem hv2]; rfl
        have ix : x1q 4 (x0k x0a 3 (x01 (x08 0) (x01 (e2 x29 (eC (.int 230)) (x08 5)) (x01 (x13 4) (x0h))))) (T10 ns n f C (some (.lst ((a.eraseIdx v).map x04), 1)) (some (.lst ((b ++ [s]).map x04), 1)) (some (.int (Int.ofNat i), 9)) none none none none) = some (x04 s2, 9, T10 ns n f C (some (.lst ((a.eraseIdx v).map x04), 1)) (some (.lst ((b ++ [s]).map x04), 1)) (some (.int (Int.ofNat i), 9)) none none none none) :=
          z2u (x15 (x0x (f := x08 0) (q := 0) rfl (x0x (f := e2 x29 (eC (.int 230)) (x08 5)) (d := .int (230 + Int.ofNat i)) (q := 9) rfl (x1b (y0p rfl (by simp only [x56, List.length_map]))))) rfl ev2) rfl at4 rfl
        refine ⟨T10 ns n f C (some (.lst ((a.eraseIdx v).map x04), 1)) (some (.lst (((b ++ [s]) ++ [s2]).map x04), 1)) (some (.int (Int.ofNat i), 9)) none none none none, by rw [x3l]; rfl, .inl ?_, a.eraseIdx v, (b ++ [s]) ++ [s2], _, la, by rw [List.length_append, lb]; show b.length + 1 + 1 <= _; omega, oa', fun t ht => ?_, fun t ht => (cov' t ht).imp id fun h => List.mem_append_left _ h, rfl⟩
        · unfold y41
          refine (x0g g5).trans ((z39 te).trans ?_)
          exact y09 (ds := (b ++ [s]).map x04) rfl (x1b ix) rfl (by rw [List.length_map, lb]; omega) (by rw [List.map_append (l₂ := [s2])]; rfl)
        · rcases List.mem_append.mp ht with h | h
          · exact ob' t h
          · rw [List.mem_singleton.mp h]; exact ob' s2 hs2m
      · rw [decide_eq_false h0] at te
        refine ⟨T10 ns n f C (some (.lst ((a.eraseIdx v).map x04), 1)) (some (.lst ((b ++ [s]).map x04), 1)) (some (.int (Int.ofNat i), 9)) none none none none, by rw [x3l]; rfl, .inl ?_, a.eraseIdx v, b ++ [s], _, la, by rw [lb]; omega, oa', ob', cov', rfl⟩
        unfold y41
        exact (x0g g5).trans ((y6j te).trans rfl)) ⟨x82 C, [], none, Nat.add_zero _, Nat.le_refl _, y70 C, (fun _ h => nomatch h), fun s h => .inl h, rfl⟩
  rw [x0q] at ha hb
  have ha0 : a = [] := List.length_eq_zero_iff.mp (by omega)
  subst ha0
  refine ⟨b, some (.lst [], 1), x5, by omega, ob, fun s hs => (cov s hs).resolve_left (fun h => nomatch h), ?_⟩
  exact e
theorem law_true (ns : List Int) (h63 : ns.length <= 63) : ∃ q, y4m [.lst (ns.map D.int)] = some (.bl true, q) := by
  obtain ⟨n, f, L, hL⟩ := z6q ns 0 (Int.le_refl 0)
  obtain ⟨z, hz, bz⟩ := L.bot
  obtain ⟨C, hC, hp5, hW7, hB3, eCt⟩ := y1v L hz bz ns 20 (by decide)
  obtain ⟨b, x3, x5, lb, ob, cov, hloop⟩ := y8j (ns := ns) (n := n) (f := f) hB3 hW7
  have okst : ∀ l : List Sn, (∀ s ∈ l, okN C s) -> ∀ d ∈ l.map x04, x1e [x07 n C, d] = some (.bl (z03 n C d), 9) /\ x85 d = 9 := fun l ol d hd => by
    obtain ⟨s, hs, rfl⟩ := List.mem_map.mp hd
    have e := x73 (n := n) (ol s hs)
    refine ⟨?_, rfl⟩
    unfold z03
    rw [e]
  have allt : ∀ l : List Sn, (∀ s ∈ l, okN C s) -> (l.map x04).all (z03 n C) = true := fun l ol => List.all_eq_true.mpr fun d hd => by
    obtain ⟨s, hs, rfl⟩ := List.mem_map.mp hd
    unfold z03
    rw [x73 (n := n) (ol s hs)]
  have both : ∀ l : List Sn, (∀ s ∈ l, okN C s) -> l.length <= 20 -> ∃ u k, LowS n f C.p (l.map (x1d C)) (x72 C.p z) u /\ x1a [x0n n f, x07 n C, .lst (l.map x04)] = some (.tup [.tup (x0e u), .int (Int.ofNat k)], 9) /\ x20 [x0n n f, x07 n C, .lst (l.map x04)] = some (.tup [.tup (x0e u), .int (Int.ofNat k)], 9) := fun l ol ll => by
    obtain ⟨u, R, h1, h2, e1⟩ := z27 L hz bz hC ol (by omega)
    obtain ⟨u', R', h2', e2⟩ := y4j L hz bz hC ol (by omega)
    have e := h2.det h2'
    cases e
    exact ⟨u, R.length, h1, (y3p L hz bz hC (by rw [List.length_map]; omega) (okst l ol)).2 (allt l ol) _ e1, e2⟩
  obtain ⟨u, k, lo, et, er⟩ := both b ob lb
  obtain ⟨u', lo', el⟩ := y32 L hz bz hC
  have eu : u = u' := by
    have c1 : ClS f (x7k C) u := fun s hs => by
      rw [<- y3s] at hs
      obtain ⟨t, ht, rfl⟩ := List.mem_map.mp hs
      exact lo.cl _ (List.mem_map_of_mem (cov t ht))
    have c2 : ClS f (b.map (x1d C)) u' := fun s hs => by
      obtain ⟨t, ht, rfl⟩ := List.mem_map.mp hs
      exact lo'.cl _ (x3v (ob t ht))
    exact L.leV_anti lo.V lo'.V (lo.le u' lo'.V c2 lo'.up) (lo'.le u lo.V c1 lo.up)
  subst eu
  obtain ⟨v, hv, ev⟩ := x74 ns (c := 250) (by decide) (n := b.length + 1) (by omega)
  obtain ⟨w, hw, ew⟩ := x74 ns (c := 251) (by decide) (n := 4) (by decide)
  obtain ⟨p, hp, ep⟩ := x74 ns (c := 252) (by decide) (n := b.length + 1) (by omega)
  have os : ∀ s ∈ b.take v, okN C s := fun s hs => ob s (List.mem_of_mem_take hs)
  obtain ⟨u2, k2, _, et2, er2⟩ := both (b.take v) os (by rw [List.length_take]; omega)
  have hev := y0q L hC
  refine ⟨9, ?_⟩
  unfold y4m z3x
  refine x38 ?_
  show x0y _ _ [some (scr ns, 0), none, none, none, none, none, none, none, none, none] = _
  refine (x0g (ρ1 := [some (scr ns, 0), some (x0n n f, 9), none, none, none, none, none, none, none, none]) (x2h (x15 (ds := [scr ns, .int 0]) rfl rfl hL) rfl)).trans ?_
  refine (x0g (ρ1 := T10 ns n f C none none none none none none none) (x2h (x15 (ds := [scr ns, .int 20, x0n n f, .bl false]) rfl rfl eCt) rfl)).trans ?_
  refine (x0g (ρ1 := T10 ns n f C (some (.lst ((x82 C).map x04), 1)) none none none none none none) (x2h (x15 (ds := [x07 n C]) rfl rfl hev) rfl)).trans ?_
  refine (x0g (ρ1 := T10 ns n f C (some (.lst ((x82 C).map x04), 1)) (some (.lst [], 1)) none none none none none) rfl).trans ?_
  refine (x0g hloop).trans ?_
  have v4 : ∀ (q : Nat) (c d e g h : Option (D × Nat)), x08 4 (T10 ns n f C x3 (some (.lst (b.map x04), q)) c d e g h) = some (.lst (b.map x04), 0, T10 ns n f C x3 (some (.lst (b.map x04), 0)) c d e g h) := fun q c d e g h => y4f rfl
  have o1 : ∀ (a b c d e g h : Option (D × Nat)), x08 1 (T10 ns n f C a b c d e g h) = some (x0n n f, 9, T10 ns n f C a b c d e g h) := fun _ _ _ _ _ _ _ => rfl
  have o2 : ∀ (a b c d e g h : Option (D × Nat)), x08 2 (T10 ns n f C a b c d e g h) = some (x07 n C, 9, T10 ns n f C a b c d e g h) := fun _ _ _ _ _ _ _ => rfl
  have l4 : ∀ (q : Nat) (c d e g h : Option (D × Nat)), x13 4 (T10 ns n f C x3 (some (.lst (b.map x04), q)) c d e g h) = some (.int (Int.ofNat b.length), 9, T10 ns n f C x3 (some (.lst (b.map x04), q)) c d e g h) := fun q c d e g h => y0p rfl (by simp only [x56, List.length_map])
  refine (x0g (ρ1 := T10 ns n f C x3 (some (.lst (b.map x04), 0)) x5 (some (.tup [.tup (x0e u), .int (Int.ofNat k)], 9)) none none none) (x2h (x15 (x0x (f := x08 1) (q := 9) rfl (x0x (f := x08 2) (q := 9) rfl (x1b (v4 1 _ _ _ _ _)))) rfl et) rfl)).trans ?_
  refine (x0g (ρ1 := T10 ns n f C x3 (some (.lst (b.map x04), 0)) x5 (some (.tup [.tup (x0e u), .int (Int.ofNat k)], 9)) none none none) ?_).trans ?_
  · have o6 : x08 6 (T10 ns n f C x3 (some (.lst (b.map x04), 0)) x5 (some (.tup [.tup (x0e u), .int (Int.ofNat k)], 9)) none none none) = some (.tup [.tup (x0e u), .int (Int.ofNat k)], 9, T10 ns n f C x3 (some (.lst (b.map x04), 0)) x5 (some (.tup [.tup (x0e u), .int (Int.ofNat k)], 9)) none none none) := rfl
    have c1 := x8t (y2j o6 (x15 (x0x (o1 _ _ _ _ _ _ _) (x0x (o2 _ _ _ _ _ _ _) (x1b (v4 0 x5 (some (.tup [.tup (x0e u), .int (Int.ofNat k)], 9)) none none none)))) rfl er) (y23 u k))
    have ne := x99 u u
    rw [decide_eq_true rfl] at ne
    have c2 := x8t (y2j (fa := x1q 6 (eC (.int 0))) (x := .tup (x0e u)) (q := 9) (ρ := T10 ns n f C x3 (some (.lst (b.map x04), 0)) x5 (some (.tup [.tup (x0e u), .int (Int.ofNat k)], 9)) none none none) rfl (x15 (F := x7d) (g := x01 (x08 1) (x01 (x08 2) x0h)) (ds := [x0n n f, x07 n C]) rfl rfl el) ne)
    exact (y6j ((z7q c1).trans c2)).trans rfl
  generalize (some (.tup [.tup (x0e u), .int (Int.ofNat k)], 9) : Option (D × Nat)) = x6
  have pk : ∀ (c : Int) (y : Nat), x0a [scr ns, .int c, .int (Int.ofNat (b.length + 1))] = some (.int (Int.ofNat y), 9) -> ∀ (c5 d e g h : Option (D × Nat)), x0k x0a 3 (x01 (x08 0) (x01 (eC (.int c)) (x01 (e2 x29 (x13 4) (eC (.int 1))) (x0h)))) (T10 ns n f C x3 (some (.lst (b.map x04), 0)) c5 d e g h) = some (.int (Int.ofNat y), 9, T10 ns n f C x3 (some (.lst (b.map x04), 0)) c5 d e g h) := fun c y hy c5 d e g h =>
    x15 (x0x (f := x08 0) (q := 0) rfl (x0x (f := eC (.int c)) (q := 9) rfl (x1b (y2j (l4 0 _ _ _ _ _) (rfl : eC (.int 1) _ = some (.int 1, 9, _)) (rfl : x29 (.int (Int.ofNat b.length)) (.int 1) = some (.int (Int.ofNat (b.length + 1)))))))) rfl hy
  refine (x0g (ρ1 := T10 ns n f C x3 (some (.lst (b.map x04), 0)) x5 x6 (some (.lst ((b.take v).map x04), 1)) none none) (x2h (d := .lst ((b.take v).map x04)) (q := 1) (ρ1 := T10 ns n f C x3 (some (.lst (b.map x04), 0)) x5 x6 none none none) ?_ rfl)).trans ?_
  · have hc : L3.z0e (b.map x04) none (some (Int.ofNat v)) = (b.take v).map x04 := by rw [z06 (by rw [List.length_map]; omega), List.map_take]
    unfold y2l x58 x4m
    rw [v4 0 x5 x6 none none none]
    simp only [pk 250 v ev x5 x6 none none none, hc]
  refine (x0g (ρ1 := T10 ns n f C x3 (some (.lst (b.map x04), 0)) x5 x6 (some (.lst ((b.take v).map x04), 0)) none none) ?_).trans ?_
  · have v7 : ∀ q : Nat, x08 7 (T10 ns n f C x3 (some (.lst (b.map x04), 0)) x5 x6 (some (.lst ((b.take v).map x04), q)) none none) = some (.lst ((b.take v).map x04), 0, T10 ns n f C x3 (some (.lst (b.map x04), 0)) x5 x6 (some (.lst ((b.take v).map x04), 0)) none none) := fun q => y4f rfl
    have c1 := x15 (F := x1a) (n := 3) (x0x (o1 _ _ _ _ _ _ _) (x0x (o2 _ _ _ _ _ _ _) (x1b (v7 1)))) rfl et2
    have c2 := x15 (F := x20) (n := 3) (x0x (o1 _ _ _ _ _ _ _) (x0x (o2 _ _ _ _ _ _ _) (x1b (v7 0)))) rfl er2
    exact (y6j (x8t (y2j c1 c2 (y23 u2 k2)))).trans rfl
  generalize (some (.lst ((b.take v).map x04), 0) : Option (D × Nat)) = x7
  generalize hbl : ([.tup [.str "way", .int (Int.ofNat C.W.length)], .tup [.str "begin", .int (Int.ofNat C.B.length)], .tup [.str "way", .int (-1)], .tup [.str "stop", .int 0]] : List D) = bad
  have fin : ∃ ds, L2.atI bad (Int.ofNat w) = some (.tup ds) /\ x1e [x07 n C, .tup ds] = some (.bl false, 9) := by
    have hk' : w = 0 \/ w = 1 \/ w = 2 \/ w = 3 := by omega
    have g1 := dg1 (.int (Int.ofNat C.B.length)) (.int (Int.ofNat C.W.length))
    have g2 := dg2 (.int (Int.ofNat C.B.length)) (.int (Int.ofNat C.W.length))
    subst hbl
    rcases hk' with rfl | rfl | rfl | rfl
    · exact ⟨_, rfl, x87 "way" _ C.W.length (.inl g2) (by show (decide ((0 : Int) <= (C.W.length : Int)) && decide ((C.W.length : Int) < (C.W.length : Int))) = false; simp)⟩
    · exact ⟨_, rfl, x87 "begin" _ C.B.length (.inl g1) (by show (decide ((0 : Int) <= (C.B.length : Int)) && decide ((C.B.length : Int) < (C.B.length : Int))) = false; simp)⟩
    · exact ⟨_, rfl, x87 "way" _ C.W.length (.inl g2) rfl⟩
    · exact ⟨_, rfl, x87 "stop" _ 0 (.inr ⟨dg3 _ _, rfl⟩) rfl⟩
  obtain ⟨bd, ebd, hbd⟩ := fin
  refine (x0g (ρ1 := T10 ns n f C x3 (some (.lst (b.map x04), 0)) x5 x6 x7 (some (.tup bd, 9)) none) (x2h (d := .tup bd) (q := 9) (ρ1 := T10 ns n f C x3 (some (.lst (b.map x04), 0)) x5 x6 x7 none none) ?_ rfl)).trans ?_
  · have lW : eB y0i (x01 (x1q 2 (eC (.int 1))) (x0h)) (T10 ns n f C x3 (some (.lst (b.map x04), 0)) x5 x6 x7 none none) = some (.int (Int.ofNat C.W.length), 9, T10 ns n f C x3 (some (.lst (b.map x04), 0)) x5 x6 x7 none none) := z1f (ds := [.tup (C.W.map (x63 n))]) rfl (by simp [y0i, x56])
    have lB : eB y0i (x01 (x1q 2 (eC (.int 2))) (x0h)) (T10 ns n f C x3 (some (.lst (b.map x04), 0)) x5 x6 x7 none none) = some (.int (Int.ofNat C.B.length), 9, T10 ns n f C x3 (some (.lst (b.map x04), 0)) x5 x6 x7 none none) := z1f (ds := [.tup (C.B.map x8r)]) rfl (by simp [y0i, x56])
    have tu : ∀ {g : x1h} {ρ ρ1 : Rho} {ds : List D}, g ρ = some (ds, ρ1) -> ds.length <= 1000 -> x5e g ρ = some (.tup ds, 9, ρ1) := fun h hl => by unfold x5e; rw [h]; exact if_pos hl
    have k1 := tu (x0x (f := eC (.str "way")) (q := 9) rfl (x1b lW)) (show 2 <= 1000 by decide)
    have k2 := tu (x0x (f := eC (.str "begin")) (q := 9) rfl (x1b lB)) (show 2 <= 1000 by decide)
    have k3 : x5e (x01 (eC (.str "way")) (x01 (z6w (eC (.int 1))) (x0h))) (T10 ns n f C x3 (some (.lst (b.map x04), 0)) x5 x6 x7 none none) = some (.tup [.str "way", .int (-1)], 9, T10 ns n f C x3 (some (.lst (b.map x04), 0)) x5 x6 x7 none none) := rfl
    have k4 : x5e (x01 (eC (.str "stop")) (x01 (eC (.int 0)) (x0h))) (T10 ns n f C x3 (some (.lst (b.map x04), 0)) x5 x6 x7 none none) = some (.tup [.str "stop", .int 0], 9, T10 ns n f C x3 (some (.lst (b.map x04), 0)) x5 x6 x7 none none) := rfl
    have hl := x0x k1 (x0x k2 (x0x k3 (x1b k4)))
    have hp' : x0k x0a 3 (x01 (x08 0) (x01 (eC (.int 251)) (x01 (eC (.int 4)) (x0h)))) (T10 ns n f C x3 (some (.lst (b.map x04), 0)) x5 x6 x7 none none) = some (.int (Int.ofNat w), 9, T10 ns n f C x3 (some (.lst (b.map x04), 0)) x5 x6 x7 none none) := x15 (ds := [scr ns, .int 251, .int 4]) rfl rfl ew
    unfold eIx x49
    rw [hl]
    subst hbl
    have ed' : atD (.lst [.tup [.str "way", .int (Int.ofNat C.W.length)], .tup [.str "begin", .int (Int.ofNat C.B.length)], .tup [.str "way", .int (-1)], .tup [.str "stop", .int 0]]) (Int.ofNat w) = some (.tup bd) := ebd
    simp only [List.length_cons, List.length_nil]
    rw [if_pos (by decide)]
    simp only [hp', ed', D.isL_tup, x85]
    rfl
  refine (x0g (ρ1 := T10 ns n f C x3 (some (.lst (b.map x04), 0)) x5 x6 x7 (some (.tup bd, 9)) (some (.int (Int.ofNat p), 9))) (x2h (pk 252 p ep x5 x6 x7 (some (.tup bd, 9)) none) rfl)).trans ?_
  generalize hR : T10 ns n f C x3 (some (.lst (b.map x04), 0)) x5 x6 x7 (some (.tup bd, 9)) (some (.int (Int.ofNat p), 9)) = R
  have w4 : x08 4 R = some (.lst (b.map x04), 0, R) := by rw [<- hR]; exact v4 0 _ _ _ _ _
  have w9 : x08 9 R = some (.int (Int.ofNat p), 9, R) := by rw [<- hR]; rfl
  have w8 : x08 8 R = some (.tup bd, 9, R) := by rw [<- hR]; rfl
  have w1 : x08 1 R = some (x0n n f, 9, R) := by rw [<- hR]; rfl
  have w2 : x08 2 R = some (x07 n C, 9, R) := by rw [<- hR]; rfl
  have f1 : y2l (x08 4) (x58) (x4m (x08 9)) R = some (.lst ((b.take p).map x04), 1, R) := by
    have hc : L3.z0e (b.map x04) none (some (Int.ofNat p)) = (b.take p).map x04 := by rw [z06 (by rw [List.length_map]; omega), List.map_take]
    unfold y2l x58 x4m
    rw [w4]
    simp only [w9, hc]
  have f3 : y2l (x08 4) (x4m (x08 9)) (x58) R = some (.lst ((b.drop p).map x04), 1, R) := by
    have hc : L3.z0e (b.map x04) (some (Int.ofNat p)) none = (b.drop p).map x04 := by rw [z41 (by rw [List.length_map]; omega), List.map_drop]
    unfold y2l x58 x4m
    rw [w4]
    simp only [w9, hc]
  have f2 : x49 (x01 (x08 8) x0h) R = some (.lst [.tup bd], 1, R) := by
    unfold x49
    rw [x1b w8]
    exact if_pos (show 1 <= 1000 by decide)
  have lt1 : ((b.take p).map x04).length <= 20 := by rw [List.length_map, List.length_take]; omega
  have lt2 : ((b.drop p).map x04).length <= 20 := by rw [List.length_map, List.length_drop]; omega
  have f4 : x68 (y2l (x08 4) (x58) (x4m (x08 9))) (x49 (x01 (x08 8) x0h)) R = some (.lst ((b.take p).map x04 ++ [.tup bd]), 1, R) := by
    unfold x68
    rw [f1]
    simp only [f2]
    exact if_pos (by show _ + 1 <= 1000; omega)
  have f5 : x68 (x68 (y2l (x08 4) (x58) (x4m (x08 9))) (x49 (x01 (x08 8) x0h))) (y2l (x08 4) (x4m (x08 9)) (x58)) R = some (.lst ((b.take p).map x04 ++ [.tup bd] ++ (b.drop p).map x04), 1, R) := by
    show (match x68 (y2l (x08 4) (x58) (x4m (x08 9))) (x49 (x01 (x08 8) x0h)) R with | some (.lst ds, _, ρ1) => _ | _ => none) = _
    rw [f4]
    simp only [f3]
    exact if_pos (by rw [List.length_append]; show _ + 1 + _ <= 1000; omega)
  have tb := (y3p L hz bz hC (ds := (b.take p).map x04 ++ [.tup bd] ++ (b.drop p).map x04) (b := z03 n C) (by rw [List.length_append, List.length_append]; show _ + 1 + _ <= 1000; omega) (fun d hd => by
    rcases List.mem_append.mp hd with hd | hd
    · rcases List.mem_append.mp hd with hd | hd
      · exact okst (b.take p) (fun s hs => ob s (List.mem_of_mem_take hs)) d hd
      · rw [List.mem_singleton.mp hd]
        refine ⟨?_, rfl⟩
        unfold z03
        rw [hbd]
    · exact okst (b.drop p) (fun s hs => ob s (List.mem_of_mem_drop hs)) d hd)).1 (by
      rw [List.all_append, List.all_append]
      have : z03 n C (.tup bd) = false := by unfold z03; rw [hbd]
      simp [this])
  exact x3n (y2j (x15 (x0x w1 (x0x w2 (x1b f5))) rfl tb) (rfl : eC (.str "no step") _ = some (.str "no step", 9, _)) z6x)
noncomputable def A0 (K : PySem.W.Frag) (mg : Str -> Option Value) (x : Str) (st : Stmt) : Prop := ∃ f fd, Fun K x x st f fd /\ mg x = some (.ref f)
theorem A0.mk {K : PySem.W.Frag} {h : Heap} {mg : Str -> Option Value} {x : Str} {st : Stmt} {f : Addr} {od an : Option Addr} {sl : Array (Option Value)} {oc kV dc pm cd ct : Value} (X : K.In h) (G : h.Ns mainGlobals mg) (a : PySem.W.nsIn K mainGlobals x = some (some (.ref f))) (l : K.lookup f = some ⟨oc, od, .func (PySem.W.fnOf x x (x5n st) (x2r st) (x0d st) .none kV dc pm an cd ct), sl⟩) (c : PySem.W.codeIn K cd x = true) (k : PySem.W.keepIn K (.ref f) = true) : A0 K mg x st := ⟨_, _, z0i l c k, PySem.W.mg_of X G a⟩
theorem A0.at {K : PySem.W.Frag} {mg : Str -> Option Value} {x : Str} {st : Stmt} {ps : List Str} (a : A0 K mg x st) (h : ∀ (kV doc pm : Value) (an : Option Addr) (cdv ct : Value) (us : List Value), us.length = ps.length -> bindArgs (PySem.W.fnOf x x (x5n st) (x2r st) (x0d st) .none kV doc pm an cdv ct) ⟨us, []⟩ = pure (ps.zip us)) : At K mg x st ps := by
  obtain ⟨f, fd, F, m⟩ := a
  exact ⟨f, fd, F, m, F.binds h⟩
theorem all_mk {l : PySem.W.OpenLaw} {w : World} {K : PySem.W.Frag} {h : Heap} {mg : Str -> Option Value} {fa : Addr} {f34 : Addr} {od34 an34 : Option Addr} {sl34 : Array (Option Value)} {oc34 kV34 dc34 pm34 cd34 ct34 : Value} {xe xr y0 y1 y2 y3 y4 : Addr} (X : K.In h) (G : h.Ns mainGlobals mg) (hfa : mg "law" = some (.ref fa))
    (A1 : A0 K mg "_law_cell" (top 26))
    (A2 : A0 K mg "_law_pick" (top 27))
    (A3 : A0 K mg "_law_chain" (top 28))
    (A4 : A0 K mg "_law_couples" (top 29))
    (A5 : A0 K mg "_law_side_by_side" (top 30))
    (A6 : A0 K mg "_law_base" (top 31))
    (A7 : A0 K mg "_law_ladder" (top 32))
    (A8 : A0 K mg "_law_low" (top 33))
    (A9 : A0 K mg "_law_join" (top 34))
    (A10 : A0 K mg "_law_under" (top 35))
    (A11 : A0 K mg "_law_rule" (top 36))
    (A12 : A0 K mg "_law_spreads" (top 37))
    (A13 : A0 K mg "_law_spread_rule" (top 38))
    (A14 : A0 K mg "_law_chart" (top 39))
    (A15 : A0 K mg "_law_every_step" (top 41))
    (A16 : A0 K mg "_law_word" (top 40))
    (A17 : A0 K mg "is_whole" (top 9))
    (A18 : A0 K mg "is_number_of" (top 10))
    (A19 : A0 K mg "is_named_number" (top 11))
    (A20 : A0 K mg "is_step" (top 19))
    (A21 : A0 K mg "refuse_no_step" (top 20))
    (A22 : A0 K mg "place_and_worth" (top 21))
    (A23 : A0 K mg "worths_behind" (top 22))
    (A24 : A0 K mg "risen" (top 23))
    (A25 : A0 K mg "row_of_least" (top 13))
    (A26 : A0 K mg "least_of" (top 14))
    (A27 : A0 K mg "lowest" (top 16))
    (A28 : A0 K mg "least_by" (top 24))
    (A29 : A0 K mg "_law_tried" (top 43))
    (A30 : A0 K mg "_law_step" (top 42))
    (A31 : A0 K mg "_law_round" (top 44))
    (A32 : A0 K mg "all_steps" (top 18))
    (A33 : A0 K mg "least" (top 17))
    (a34 : PySem.W.nsIn K mainGlobals "law" = some (some (.ref f34))) (l34 : K.lookup f34 = some ⟨oc34, od34, .func (PySem.W.fnOf "law" "law" (x5n (top 45)) (x2r (top 45)) (x0d (top 45)) .none kV34 dc34 pm34 an34 cd34 ct34), sl34⟩) (c34 : PySem.W.codeIn K cd34 "law" = true) (k34 : PySem.W.keepIn K (.ref f34) = true)
    (z1 : PySem.W.nsIn K mainGlobals "ValueError" = some none) (z2 : PySem.W.nsIn K mainGlobals "all" = some none) (z3 : PySem.W.nsIn K mainGlobals "bool" = some none) (z4 : PySem.W.nsIn K mainGlobals "int" = some none) (z5 : PySem.W.nsIn K mainGlobals "isinstance" = some none) (z6 : PySem.W.nsIn K mainGlobals "len" = some none) (z7 : PySem.W.nsIn K mainGlobals "list" = some none) (z8 : PySem.W.nsIn K mainGlobals "max" = some none) (z9 : PySem.W.nsIn K mainGlobals "range" = some none) (z10 : PySem.W.nsIn K mainGlobals "str" = some none) (z11 : PySem.W.nsIn K mainGlobals "tuple" = some none)  (xeN : PySem.W.nsIn K mainGlobals "NoStep" = some (some (.ref xe))) (xrN : PySem.W.nsIn K mainGlobals "RiseError" = some (some (.ref xr))) (xcg : PySem.W.specialIn K (.builtin "object.__class__") "__get__" = some (some (.builtin "getset_descriptor.__get__"))) (xct : PySem.W.takesIn K (.builtin "object.__class__") = some true) (xeg : PySem.W.findIn K (.ref xe) "__getattribute__" = some (some (.builtin "BaseException.__getattribute__"))) (xet : PySem.W.findIn K (.ref xe) "__getattr__" = some none) (xec : PySem.W.findIn K (.ref xe) "__class__" = some (some (.builtin "object.__class__"))) (xeo : PySem.W.mroIn K xe (.type "object") = some true) (xeb : PySem.W.mroIn K xe (.type "BaseException") = some true) (xrg : PySem.W.findIn K (.ref xr) "__getattribute__" = some (some (.builtin "BaseException.__getattribute__"))) (xrt : PySem.W.findIn K (.ref xr) "__getattr__" = some none) (xrc : PySem.W.findIn K (.ref xr) "__class__" = some (some (.builtin "object.__class__"))) (xro : PySem.W.mroIn K xr (.type "object") = some true) (xrb : PySem.W.mroIn K xr (.type "BaseException") = some true) (xeV : PySem.W.mroIn K xe (.type "ValueError") = some true) (xe0 : PySem.W.mroIn K xe (.type "int") = some false) (xe1 : PySem.W.mroIn K xe (.type "bool") = some false) (xe2 : PySem.W.mroIn K xe (.type "tuple") = some false) (xe3 : PySem.W.mroIn K xe (.type "list") = some false) (xe4 : PySem.W.mroIn K xe (.type "str") = some false) (xrT : PySem.W.typeIn K (.ref xr) = some (.type "type")) (xeR : PySem.W.mroIn K xe (.ref xr) = some true) (xeX : PySem.W.excIn K xe L3.bmV "ValueError.__new__" = true) (y0N : PySem.W.nsIn K mainGlobals "NoHouse" = some (some (.ref y0))) (y0T : PySem.W.typeIn K (.ref y0) = some (.type "type")) (y0O : PySem.W.mroIn K y0 (.type "object") = some true) (y0S : PySem.W.mroIn K xe (.ref y0) = some false) (y0D : xe ≠ y0) (y1N : PySem.W.nsIn K mainGlobals "NoMap" = some (some (.ref y1))) (y1T : PySem.W.typeIn K (.ref y1) = some (.type "type")) (y1O : PySem.W.mroIn K y1 (.type "object") = some true) (y1S : PySem.W.mroIn K xe (.ref y1) = some false) (y1D : xe ≠ y1) (y2N : PySem.W.nsIn K mainGlobals "NoPlace" = some (some (.ref y2))) (y2T : PySem.W.typeIn K (.ref y2) = some (.type "type")) (y2O : PySem.W.mroIn K y2 (.type "object") = some true) (y2S : PySem.W.mroIn K xe (.ref y2) = some false) (y2D : xe ≠ y2) (y3N : PySem.W.nsIn K mainGlobals "NoRule" = some (some (.ref y3))) (y3T : PySem.W.typeIn K (.ref y3) = some (.type "type")) (y3O : PySem.W.mroIn K y3 (.type "object") = some true) (y3S : PySem.W.mroIn K xe (.ref y3) = some false) (y3D : xe ≠ y3) (y4N : PySem.W.nsIn K mainGlobals "TooGreat" = some (some (.ref y4))) (y4T : PySem.W.typeIn K (.ref y4) = some (.type "type")) (y4O : PySem.W.mroIn K y4 (.type "object") = some true) (y4S : PySem.W.mroIn K xe (.ref y4) = some false) (y4D : xe ≠ y4) :
    ∃ fd : FuncData, (∀ (s : Shared) (v : Value), BindsTo s fd ⟨[v], []⟩ [("_law_script", v)]) /\ ∀ base : Heap, K.In base -> base.Ns mainGlobals mg -> FnOk l.prog w K mg base CX0 8 fa fd ["_law_script"] (spD K 1 y4m) := by
  have e := hfa.symm.trans (PySem.W.mg_of X G a34)
  cases e
  have B : Bt mg := ⟨PySem.W.mg_none_of X G z1, PySem.W.mg_none_of X G z2, PySem.W.mg_none_of X G z3, PySem.W.mg_none_of X G z4, PySem.W.mg_none_of X G z5, PySem.W.mg_none_of X G z6, PySem.W.mg_none_of X G z7, PySem.W.mg_none_of X G z8, PySem.W.mg_none_of X G z9, PySem.W.mg_none_of X G z10, PySem.W.mg_none_of X G z11⟩
  have xk : XKls K "NoStep" xe := XKls.of xeN ⟨L3.z8o xeo, xeg, xet, xec, xcg, xct, xeo, xeb⟩ xeX xeV xe0 xe1 xe2 xe3 xe4
  have T : Xt K mg := ⟨y58.of xk ⟨L3.z8o xro, xrg, xrt, xrc, xcg, xct, xro, xrb⟩ xrT (PySem.W.mg_of X G xrN) xeR, ⟨xe, ⟨xk, PySem.W.mg_of X G xeN⟩⟩, IsC.other xeN (PySem.W.mg_of X G y0N) (by decide) y0D y0T y0O y0S, IsC.other xeN (PySem.W.mg_of X G y1N) (by decide) y1D y1T y1O y1S, IsC.other xeN (PySem.W.mg_of X G y2N) (by decide) y2D y2T y2O y2S, IsC.other xeN (PySem.W.mg_of X G y3N) (by decide) y3D y3T y3O y3S, IsC.self xeN (PySem.W.mg_of X G xeN), IsC.other xeN (PySem.W.mg_of X G y4N) (by decide) y4D y4T y4O y4S⟩
  refine ⟨PySem.W.fnOf "law" "law" (x5n (top 45)) (x2r (top 45)) (x0d (top 45)) .none kV34 dc34 pm34 an34 cd34 ct34, fun s v => .of_eq rfl, fun base _ _ => ?_⟩
  have D__law_cell := y2w (P := l.prog) (w := w) (base := base) B  (A1.at fun _ _ _ _ _ _ _ h => by obtain ⟨_, _, rfl⟩ := L3.j02 h; rfl)
  have D__law_pick := y2u B D__law_cell (A2.at fun _ _ _ _ _ _ _ h => by obtain ⟨_, _, _, rfl⟩ := L3.z9u h; rfl)
  have D__law_chain := y1s (P := l.prog) (w := w) (base := base) B  (A3.at fun _ _ _ _ _ _ _ h => by obtain ⟨_, rfl⟩ := L3.j05 h; rfl)
  have D__law_couples := x9d (P := l.prog) (w := w) (base := base) B  (A4.at fun _ _ _ _ _ _ _ h => by obtain ⟨_, _, rfl⟩ := L3.j02 h; rfl)
  have D__law_side_by_side := x62 (P := l.prog) (w := w) (base := base) B  (A5.at fun _ _ _ _ _ _ _ h => by obtain ⟨_, rfl⟩ := L3.j05 h; rfl)
  have D__law_base := y2s B D__law_pick D__law_chain D__law_couples D__law_side_by_side (A6.at fun _ _ _ _ _ _ _ h => by obtain ⟨_, _, rfl⟩ := L3.j02 h; rfl)
  have D__law_ladder := y0a B D__law_base D__law_pick (A7.at fun _ _ _ _ _ _ _ h => by obtain ⟨_, _, rfl⟩ := L3.j02 h; rfl)
  have D__law_low := y5b (P := l.prog) (w := w) (base := base) B  (A8.at fun _ _ _ _ _ _ _ h => by obtain ⟨_, rfl⟩ := L3.j05 h; rfl)
  have D__law_join := y39 B D__law_low (A9.at fun _ _ _ _ _ _ _ h => by obtain ⟨_, _, rfl⟩ := L3.j02 h; rfl)
  have D__law_under := y1r (P := l.prog) (w := w) (base := base) B  (A10.at fun _ _ _ _ _ _ _ h => by obtain ⟨_, _, rfl⟩ := L3.j02 h; rfl)
  have D__law_rule := y2t B D__law_low D__law_pick D__law_join D__law_under (A11.at fun _ _ _ _ _ _ _ h => by obtain ⟨_, _, _, rfl⟩ := L3.z9u h; rfl)
  have D__law_spreads := x9j (P := l.prog) (w := w) (base := base) B  (A12.at fun _ _ _ _ _ _ _ h => by obtain ⟨_, _, rfl⟩ := L3.j02 h; rfl)
  have D__law_spread_rule := x6r B D__law_rule D__law_spreads D__law_pick (A13.at fun _ _ _ _ _ _ _ h => by obtain ⟨_, _, _, rfl⟩ := L3.z9u h; rfl)
  have D__law_chart := y20 B D__law_pick D__law_rule D__law_spread_rule (A14.at fun _ _ _ _ _ _ _ h => by obtain ⟨_, _, _, _, rfl⟩ := L3.j07 h; rfl)
  have D__law_every_step := x7j (P := l.prog) (w := w) (base := base) B  (A15.at fun _ _ _ _ _ _ _ h => by obtain ⟨_, rfl⟩ := L3.j05 h; rfl)
  have D__law_word := y2m (P := l.prog) (w := w) (base := base) B T  (A16.at fun _ _ _ _ _ _ _ h => by obtain ⟨_, rfl⟩ := L3.j05 h; rfl)
  have D_is_whole := y54 (P := l.prog) (w := w) (base := base) B  (A17.at fun _ _ _ _ _ _ _ h => by obtain ⟨_, rfl⟩ := L3.j05 h; rfl)
  have D_is_number_of := x9g B D_is_whole (A18.at fun _ _ _ _ _ _ _ h => by obtain ⟨_, _, rfl⟩ := L3.j02 h; rfl)
  have D_is_named_number := x75 B D_is_number_of (A19.at fun _ _ _ _ _ _ _ h => by obtain ⟨_, _, rfl⟩ := L3.j02 h; rfl)
  have D_is_step := y64 B D_is_named_number (A20.at fun _ _ _ _ _ _ _ h => by obtain ⟨_, _, rfl⟩ := L3.j02 h; rfl)
  have D_refuse_no_step := x7y B D_is_step (A21.at fun _ _ _ _ _ _ _ h => by obtain ⟨_, _, rfl⟩ := L3.j02 h; rfl)
  have DX_refuse_no_step := x76 B T D_is_step (A21.at fun _ _ _ _ _ _ _ h => by obtain ⟨_, _, rfl⟩ := L3.j02 h; rfl)
  have D_place_and_worth := x79 (P := l.prog) (w := w) (base := base) B  (A22.at fun _ _ _ _ _ _ _ h => by obtain ⟨_, _, _, rfl⟩ := L3.z9u h; rfl)
  have D_worths_behind := x8g B D_place_and_worth (A23.at fun _ _ _ _ _ _ _ h => by obtain ⟨_, _, _, _, rfl⟩ := L3.j07 h; rfl)
  have D_risen := z2a B D_worths_behind (A24.at fun _ _ _ _ _ _ _ h => by obtain ⟨_, _, _, _, rfl⟩ := L3.j07 h; rfl)
  have D_row_of_least := x9c (P := l.prog) (w := w) (base := base) B  (A25.at fun _ _ _ _ _ _ _ h => by obtain ⟨_, rfl⟩ := L3.j05 h; rfl)
  have D_least_of := y4k B D_row_of_least (A26.at fun _ _ _ _ _ _ _ h => by obtain ⟨_, rfl⟩ := L3.j05 h; rfl)
  have D_lowest := y8h B D_least_of (A27.at fun _ _ _ _ _ _ _ h => by obtain ⟨_, _, rfl⟩ := L3.j02 h; rfl)
  have D_least_by := y51 B D_refuse_no_step D_risen D_lowest (A28.at fun _ _ _ _ _ _ _ h => by obtain ⟨_, _, _, rfl⟩ := L3.z9u h; rfl)
  have DX_least_by := y2h B T  DX_refuse_no_step (A28.at fun _ _ _ _ _ _ _ h => by obtain ⟨_, _, _, rfl⟩ := L3.z9u h; rfl)
  have D__law_tried := y13 B T D_least_by D__law_word DX_least_by (A29.at fun _ _ _ _ _ _ _ h => by obtain ⟨_, _, _, rfl⟩ := L3.z9u h; rfl)
  have D__law_step := y3c (P := l.prog) (w := w) (base := base) B  (A30.at fun _ _ _ _ _ _ _ h => by obtain ⟨_, _, _, _, rfl⟩ := L3.j07 h; rfl)
  have D__law_round := y19 B D__law_low D__law_step (A31.at fun _ _ _ _ _ _ _ h => by obtain ⟨_, _, _, rfl⟩ := L3.z9u h; rfl)
  have D_all_steps := y3g (P := l.prog) (w := w) (base := base) B  (A32.at fun _ _ _ _ _ _ _ h => by obtain ⟨_, rfl⟩ := L3.j05 h; rfl)
  have D_least := z2m B D_least_by D_all_steps (A33.at fun _ _ _ _ _ _ _ h => by obtain ⟨_, _, rfl⟩ := L3.j02 h; rfl)
  exact z2d B D__law_ladder D__law_chart D__law_every_step D__law_pick D__law_tried D__law_round D_least (z0i (st := top 45) l34 c34 k34)
theorem walk {l : PySem.W.OpenLaw} {q : Program} {loose : List Str} {XP : (Str -> Option Value) -> Heap -> Prop} {YP : World -> Heap -> Prop} {d : DefRec} {K : Params -> PySem.W.Frag} (hn : l.most = some 63) (hdf : d.params.defaults = [])
    (hY : ∀ (w : World) (h : Heap), YP w h -> (K w.params).In h)
    (F : ∀ (w : World) (mg : Str -> Option Value) (fa : Addr) (h : Heap), (K w.params).In h -> h.Ns mainGlobals mg -> mg d.name = some (.ref fa) ->
      ∃ fd : FuncData, (∀ (s : Shared) (u : Value), BindsTo s fd ⟨[u], []⟩ [("_law_script", u)]) /\ ∀ base : Heap, (K w.params).In base -> base.Ns mainGlobals mg -> FnOk l.prog w (K w.params) mg base CX0 8 fa fd ["_law_script"] (spD (K w.params) 1 y4m)) :
    PySem.W.WalkO q loose XP YP l.row.toRowW d [] (fun f vs => PySem.call f vs) :=
  L2.z7v (n := 63) (k := 8) (x := "_law_script") (CX := fun _ => CX0) (sp := fun w => spD (K w.params) 1 y4m) hn (by decide) hdf ⟨rfl, by decide, by decide⟩ hY F (fun _ _ a ns hl _ hS => z70 law_true hl hS) fun _ _ _ _ _ z => z
end My
namespace PySem.W.Fast
def tw10001187570026942042 := 0
def tw10043429619561152434 := 0
def tw10177094947321369142 := 0
def tw10217461418257436154 := 0
def tw1023340568235652619 := 0
def tw10320668781910157525 := 0
def tw10353000705194998890 := 0
def tw10378503236628586394 := 0
def tw10596496633692686595 := 0
def tw10603410120504853589 := 0
def tw10610551012841252112 := 0
def tw10704018318913757325 := 0
def tw10816992127104378504 := 0
def tw10928400103135513997 := 0
def tw10950672243278092525 := 0
def tw10962901281000011878 := 0
def tw11096582933414067843 := 0
def tw11099960405703792285 := 0
def tw11172425269996100300 := 0
def tw11194993311158254536 := 0
def tw11201076907483968214 := 0
def tw11212148688890678035 := 0
def tw11215669668312445249 := 0
def tw11343838681154468891 := 0
def tw11411101270274951161 := 0
def tw11549441909832373861 := 0
def tw11606663041944894878 := 0
def tw11657298354860164840 := 0
def tw11709087600626723972 := 0
def tw11732539783197181944 := 0
def tw11768768674710665648 := 0
def tw11803490277520916056 := 0
def tw11810973137543809910 := 0
def tw11839472981768808283 := 0
def tw11859696484638829069 := 0
def tw11893922837767314475 := 0
def tw11945744460600981691 := 0
def tw1194621164547867611 := 0
def tw1206677331441219931 := 0
def tw12153293526277817914 := 0
def tw12164685128192795798 := 0
def tw12390587446366182822 := 0
def tw12451111052797332077 := 0
def tw12459625909794502791 := 0
def tw12482269508470322006 := 0
def tw12527211570727285221 := 0
def tw12533629684176449915 := 0
def tw12652046960873954718 := 0
def tw12739800884783203992 := 0
def tw12826376104556648834 := 0
def tw12986160617635346154 := 0
def tw12990443263277184283 := 0
def tw1301465952375318235 := 0
def tw13021853717625571017 := 0
def tw13090485092138377189 := 0
def tw13185147204054964942 := 0
def tw13261610968037879067 := 0
def tw13262701812554714985 := 0
def tw13347696422713233699 := 0
def tw13358522194196273024 := 0
def tw13427906019140321607 := 0
def tw13667093354408610926 := 0
def tw13721896842832595609 := 0
def tw13820381383859657528 := 0
def tw13841344884201597210 := 0
def tw1386745056006453610 := 0
def tw13915490228462451503 := 0
def tw13958108764363109612 := 0
def tw13997968427658647019 := 0
def tw14104884666187708569 := 0
def tw1411798776705888061 := 0
def tw14120896719659922696 := 0
def tw14138498228096788278 := 0
def tw14143372117845456871 := 0
def tw14176922695830440064 := 0
def tw1417892348161085005 := 0
def tw14284614598037995297 := 0
def tw14358540066361571723 := 0
def tw14398234967810168842 := 0
def tw14642169131846393459 := 0
def tw14649131706752159360 := 0
def tw14763252436692910375 := 0
def tw14836030468079384709 := 0
def tw14987364045217357 := 0
def tw14989433997322866371 := 0
def tw15032415444582224625 := 0
def tw15037425110397889229 := 0
def tw15110160298404115239 := 0
def tw15134331058120536014 := 0
def tw15300408607959077003 := 0
def tw15428018821429632211 := 0
def tw15450966276810829 := 0
def tw15497108931931826547 := 0
def tw15511507494207337271 := 0
def tw15618034368425324448 := 0
def tw15711845390880941311 := 0
def tw15771282736650996154 := 0
def tw15805503783618452723 := 0
def tw15841230342748584583 := 0
def tw15889110115933373953 := 0
def tw15954099835215636530 := 0
def tw15964870861708119579 := 0
def tw1601773054272014151 := 0
def tw16036614593205641766 := 0
def tw16052520690346128163 := 0
def tw16074052502766085900 := 0
def tw16098005974297347604 := 0
def tw16148795862985541826 := 0
def tw16150330742314171559 := 0
def tw16164099311652972336 := 0
def tw16174900206891180199 := 0
def tw16289927550443894435 := 0
def tw16303661929043746460 := 0
def tw16324860861975053539 := 0
def tw16330436836985628301 := 0
def tw16417669111096630675 := 0
def tw16694050044167426890 := 0
def tw16699895521019183385 := 0
def tw16704707971932527013 := 0
def tw16777941345958756327 := 0
def tw16857330864014052741 := 0
def tw16967838212979842068 := 0
def tw17022056493559495118 := 0
def tw17057373992880735827 := 0
def tw17084160157414618317 := 0
def tw17216680448090176476 := 0
def tw17249540465986600490 := 0
def tw17360234649982871769 := 0
def tw17478538477161988461 := 0
def tw17480096326011635048 := 0
def tw17557611362942200452 := 0
def tw17662592179219341590 := 0
def tw17713025627496289045 := 0
def tw17716572668647753242 := 0
def tw1779995754584276434 := 0
def tw17947685802228077346 := 0
def tw18171089086565224893 := 0
def tw1821134455470167685 := 0
def tw18265328937121140304 := 0
def tw18295093112926048835 := 0
def tw18300776820641046878 := 0
def tw18319982459384080167 := 0
def tw18387732233514960516 := 0
def tw1839917216349035326 := 0
def tw18428986538475141732 := 0
def tw18440023079172111665 := 0
def tw1855890466572373694 := 0
def tw1894349573600181077 := 0
def tw1920991764095325401 := 0
def tw1953212811503945795 := 0
def tw2072803361973477290 := 0
def tw2143245106548667602 := 0
def tw2204129721073220438 := 0
def tw2238370012049102577 := 0
def tw2264386551400982479 := 0
def tw2269634129805635361 := 0
def tw2276633805930953549 := 0
def tw2330946780044848249 := 0
def tw2334115112963805144 := 0
def tw2372955974399660153 := 0
def tw2462654039271424129 := 0
def tw2520731760835011610 := 0
def tw2529653639215531784 := 0
def tw2541211726162569125 := 0
def tw2648553765474006117 := 0
def tw2688019859152184925 := 0
def tw2776209364711314113 := 0
def tw2885856992983025253 := 0
def tw2929016814149556788 := 0
def tw2953869453727730645 := 0
def tw3098392568595677120 := 0
def tw3123400747259096204 := 0
def tw3178147753476630113 := 0
def tw3183019937101811701 := 0
def tw3187758953149061101 := 0
def tw3193328501004490976 := 0
def tw3215899898292040994 := 0
def tw323297726620160925 := 0
def tw3323994003913709776 := 0
def tw3340119369039294568 := 0
def tw3354706382245070611 := 0
def tw3453709255468350874 := 0
def tw3528676464235409878 := 0
def tw3554159300674870061 := 0
def tw362247526211921694 := 0
def tw3645441498116504402 := 0
def tw3841374384658316359 := 0
def tw389346614929161670 := 0
def tw3925249975437382498 := 0
def tw3926337756052227624 := 0
def tw3988818315132909434 := 0
def tw4030215520671096615 := 0
def tw4042282391775558801 := 0
def tw407624331731198837 := 0
def tw4151914743855005450 := 0
def tw4294064261959921074 := 0
def tw4417746267642180788 := 0
def tw449585707483161889 := 0
def tw4513954926937552562 := 0
def tw4523374989188565328 := 0
def tw4617914214083687836 := 0
def tw4703157325697396707 := 0
def tw4749788679449741634 := 0
def tw4798288582412109595 := 0
def tw4814024641938880932 := 0
def tw4842875694390669356 := 0
def tw4911816523258126350 := 0
def tw5079225178839235652 := 0
def tw5082495216516182075 := 0
def tw5125152594654251449 := 0
def tw5228299483439590327 := 0
def tw5234750608044933964 := 0
def tw5276085000612585772 := 0
def tw5283845644019588093 := 0
def tw5314396146849232467 := 0
def tw5370979978987531835 := 0
def tw5381210991511981337 := 0
def tw5381301644841816125 := 0
def tw5406144115422193510 := 0
def tw5421098590809652809 := 0
def tw5469638375128109990 := 0
def tw5529885142808525628 := 0
def tw5581405441886553712 := 0
def tw5668987602753049590 := 0
def tw5684064624967165929 := 0
def tw5742515776369497524 := 0
def tw5781917632274839595 := 0
def tw5792310358473395104 := 0
def tw5904846270762302790 := 0
def tw5937816182249034108 := 0
def tw6006237180937179073 := 0
def tw6011344925559332729 := 0
def tw6011375099419346794 := 0
def tw6020212857735861695 := 0
def tw602469634827178290 := 0
def tw6092673718416081686 := 0
def tw6204546252076541144 := 0
def tw623002204340597213 := 0
def tw629638125601437736 := 0
def tw6302292042843938074 := 0
def tw6398460174275469430 := 0
def tw6444102410371237991 := 0
def tw6501429927357807842 := 0
def tw6622643260287638288 := 0
def tw6628527499320120756 := 0
def tw664600966982401824 := 0
def tw6693634439024930876 := 0
def tw6768516552609946155 := 0
def tw6797459286821748061 := 0
def tw6825198370035380198 := 0
def tw6959602896057128072 := 0
def tw7041744264840931584 := 0
def tw7096109878902883463 := 0
def tw7127589596108705106 := 0
def tw7186994525440192014 := 0
def tw7192444739375756419 := 0
def tw7288784214111647840 := 0
def tw7331148154410486797 := 0
def tw7377446828162490402 := 0
def tw7483803542802724089 := 0
def tw756609305739675455 := 0
def tw7631467683918335208 := 0
def tw7669756998052285193 := 0
def tw7692127867391913254 := 0
def tw7714312338803315478 := 0
def tw7729196089467550916 := 0
def tw7748708348940584659 := 0
def tw7804643828450832320 := 0
def tw7926801458979263178 := 0
def tw7959047470365146650 := 0
def tw8008616943290884379 := 0
def tw8024474036626869327 := 0
def tw8029434638640542404 := 0
def tw8060066207609558186 := 0
def tw809261199458881591 := 0
def tw8113456102514377850 := 0
def tw8143730664205572250 := 0
def tw8145695875048089568 := 0
def tw8287340491231649352 := 0
def tw8289060011645469544 := 0
def tw8328459388844996613 := 0
def tw8395502028744649103 := 0
def tw8493511300323451955 := 0
def tw8541869987206389915 := 0
def tw8639183295382949585 := 0
def tw8699476649728865627 := 0
def tw8770811449336446916 := 0
def tw8923816531833761714 := 0
def tw8943467625301086136 := 0
def tw8952943288641316238 := 0
def tw8982070222205101019 := 0
def tw8999511530979542328 := 0
def tw9103451673969497122 := 0
def tw9107878984326234060 := 0
def tw9111047241443291594 := 0
def tw9128210171282180394 := 0
def tw9194284094368540158 := 0
def tw9198212233696626438 := 0
def tw9250037553448443497 := 0
def tw9252020133794285635 := 0
def tw9325860650089068360 := 0
def tw9343032105046618447 := 0
def tw9448927170199424783 := 0
def tw9449079686361851129 := 0
def tw9517926542847115970 := 0
def tw9532722063727933871 := 0
def tw9805824119018554057 := 0
def tw9816698300650654759 := 0
def tw9880234517856863468 := 0
def tw9903324584859542433 := 0
def tw991230983648566380 := 0
end PySem.W.Fast
open PySem PySem.W PyProof.Rows
set_option maxRecDepth 100000 in
set_option maxHeartbeats 0 in
theorem PySem.Challenge.cw_ladderhall_k31_whole_any_order_holds : PySem.Challenge.rw_ladderhall_k31_whole_any_order.Holds := by
  w_on; o_law; k_head; (case hw => w_witness2)
  k_fill
  refine My.walk (l := PySem.Challenge.rw_ladderhall_k31_whole_any_order) rfl rfl (fun w h Y => PySem.W.kIn_of Y) ?F
  case F =>
    intro w mg fa h KX G hmg
    refine' My.all_mk KX G hmg ?A1 ?A2 ?A3 ?A4 ?A5 ?A6 ?A7 ?A8 ?A9 ?A10 ?A11 ?A12 ?A13 ?A14 ?A15 ?A16 ?A17 ?A18 ?A19 ?A20 ?A21 ?A22 ?A23 ?A24 ?A25 ?A26 ?A27 ?A28 ?A29 ?A30 ?A31 ?A32 ?A33 ?a34 ?l34 ?c34 ?k34 ?z1 ?z2 ?z3 ?z4 ?z5 ?z6 ?z7 ?z8 ?z9 ?z10 ?z11 ?xeN ?xrN ?xcg ?xct ?xeg ?xet ?xec ?xeo ?xeb ?xrg ?xrt ?xrc ?xro ?xrb ?xeV ?xe0 ?xe1 ?xe2 ?xe3 ?xe4 ?xrT ?xeR ?xeX ?y0N ?y0T ?y0O ?y0S ?y0D ?y1N ?y1T ?y1O ?y1S ?y1D ?y2N ?y2T ?y2O ?y2S ?y2D ?y3N ?y3T ?y3O ?y3S ?y3D ?y4N ?y4T ?y4O ?y4S ?y4D
    (case A1 | A2 | A3 | A4 | A5 | A6 | A7 | A8 | A9 | A10 | A11 | A12 | A13 | A14 | A15 | A16 | A17 | A18 | A19 | A20 | A21 | A22 | A23 | A24 | A25 | A26 | A27 | A28 | A29 | A30 | A31 | A32 | A33 => refine' My.A0.mk KX G ?a ?l ?c ?k; (case a => k_is); (case l => k_is); (case c => k_is); (case k => k_is))
    (case a34 => k_is)
    (case l34 => k_is)
    (case c34 => k_is)
    (case k34 => k_is)
    (case z1 => k_is)
    (case z2 => k_is)
    (case z3 => k_is)
    (case z4 => k_is)
    (case z5 => k_is)
    (case z6 => k_is)
    (case z7 => k_is)
    (case z8 => k_is)
    (case z9 => k_is)
    (case z10 => k_is)
    (case z11 => k_is)
    (case xeN => k_is)
    (case xrN => k_is)
    (case xcg => k_is)
    (case xct => k_is)
    (case xeg => k_is)
    (case xet => k_is)
    (case xec => k_is)
    (case xeo => k_is)
    (case xeb => k_is)
    (case xrg => k_is)
    (case xrt => k_is)
    (case xrc => k_is)
    (case xro => k_is)
    (case xrb => k_is)
    (case xeV => k_is)
    (case xe0 => k_is)
    (case xe1 => k_is)
    (case xe2 => k_is)
    (case xe3 => k_is)
    (case xe4 => k_is)
    (case xrT => k_is)
    (case xeR => k_is)
    (case xeX => k_exc)
    (case y0N => k_is)
    (case y0T => k_is)
    (case y0O => k_is)
    (case y0S => k_is)
    (case y0D => decide)
    (case y1N => k_is)
    (case y1T => k_is)
    (case y1O => k_is)
    (case y1S => k_is)
    (case y1D => decide)
    (case y2N => k_is)
    (case y2T => k_is)
    (case y2O => k_is)
    (case y2S => k_is)
    (case y2D => decide)
    (case y3N => k_is)
    (case y3T => k_is)
    (case y3O => k_is)
    (case y3S => k_is)
    (case y3D => decide)
    (case y4N => k_is)
    (case y4T => k_is)
    (case y4O => k_is)
    (case y4S => k_is)
    (case y4D => decide)
