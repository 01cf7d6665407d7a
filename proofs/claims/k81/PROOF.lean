import PyProof.Rows.All
import Wide.All
import OpenK.AllK
import Wide.FinOn
import Lean
import PyProof.EqAt
import PyProof.EqKinds
import PyProof.TupleCall
import KE.KIsNot
import PyProof.ExcArgs
import OpenK.KOwn
import KE.LcSums
import PyProof.EnumMake
import PyProof.Draws
import PyProof.Rows.EnumRows
import PyProof.ExcBaseAll.ValueError
import PyProof.NsDelKeeps
import PySem.Challenge.RW_ladderhall_k81_whole_summaries
set_option Elab.async false
set_option linter.all false
set_option maxRecDepth 100000
set_option maxHeartbeats 0
namespace L2
open PySem PySem.Spec PyProof.Rows
noncomputable abbrev Key := Sum Int Str
noncomputable def y64 : Key -> Value -> Bool
  | .inl k, v => Value.isInt k v
  | .inr x, v => Value.isStrOf x v
noncomputable def j1k (w : World) : Key -> Int
  | .inl k => hashInt k
  | .inr x => hashStr w x
theorem x2j : ∀ {k : Key} {v : Value}, y64 k v = true -> (∃ i t, k = Sum.inl i /\ v = Value.int i t) \/ (∃ x t, k = Sum.inr x /\ v = Value.str x t)
  | .inl i, v, h => by
    obtain ⟨t, e⟩ := Value.isInt_shape (k := i) (v := v) h
    exact .inl ⟨i, t, rfl, e⟩
  | .inr x, v, h => by
    obtain ⟨t, e⟩ := Value.isStrOf_shape (x := x) (v := v) h
    exact .inr ⟨x, t, rfl, e⟩
theorem y84 (i : Int) (t : Tok) : y64 (.inl i) (.int i t) = true := by simp [y64, Value.isInt]
theorem y8b (x : Str) (t : Tok) : y64 (.inr x) (.str x t) = true := by simp [y64, Value.isStrOf]
theorem z77 (a b : Int) : decide ((Sum.inl a : Key) = Sum.inl b) = (a == b) := by
  by_cases e : a = b
  · subst e; simp
  · have h : ¬ (Sum.inl a : Key) = Sum.inl b := fun q => e (Sum.inl.inj q)
    rw [decide_eq_false h]
    exact (beq_eq_false_iff_ne.mpr e).symm
theorem z6q (a b : Str) : decide ((Sum.inr a : Key) = Sum.inr b) = decide (a = b) := by
  by_cases e : a = b
  · subst e; simp
  · have h : ¬ (Sum.inr a : Key) = Sum.inr b := fun q => e (Sum.inr.inj q)
    rw [decide_eq_false h, decide_eq_false e]
theorem z6j (a : Int) (b : Str) : decide ((Sum.inl a : Key) = Sum.inr b) = false := decide_eq_false (fun q => nomatch q)
theorem z5e (a : Str) (b : Int) : decide ((Sum.inr a : Key) = Sum.inl b) = false := decide_eq_false (fun q => nomatch q)
noncomputable def x2v (prog : Program) (w : World) : PySem.KeyKind prog w Key where
  is := y64
  hash := j1k w
  inj := fun v a b ha hb => by
    rcases x2j ha with ⟨i, t, rfl, rfl⟩ | ⟨x, t, rfl, rfl⟩
    · rcases x2j hb with ⟨j, u, rfl, e⟩ | ⟨y, u, rfl, e⟩
      · injection e with e1 _; rw [e1]
      · exact nomatch e
    · rcases x2j hb with ⟨j, u, rfl, e⟩ | ⟨y, u, rfl, e⟩
      · exact nomatch e
      · injection e with e1 _; rw [e1]
  byValue := fun k v h => by
    rcases x2j h with ⟨i, t, rfl, rfl⟩ | ⟨x, t, rfl, rfl⟩ <;> rfl
  pyHash := fun hv h => by
    rcases x2j hv with ⟨i, t, rfl, rfl⟩ | ⟨x, t, rfl, rfl⟩
    · exact wpAny_pyHash_int h
    · exact wpAny_pyHash_str h
  eqBool := fun hu hv h => by
    rcases x2j hu with ⟨i, t, rfl, rfl⟩ | ⟨x, t, rfl, rfl⟩
    · rcases x2j hv with ⟨j, u, rfl, rfl⟩ | ⟨y, u, rfl, rfl⟩
      · rw [z77] at h; exact wpAny_eqBool_int h
      · rw [z6j] at h; exact SeqAt.EqAt.int_str i t y u _ _ _ _ h
    · rcases x2j hv with ⟨j, u, rfl, rfl⟩ | ⟨y, u, rfl, rfl⟩
      · rw [z5e] at h; exact SeqAt.EqAt.str_int x t j u _ _ _ _ h
      · rw [z6q] at h; exact wpAny_eqBool_str h
  «strs» := fun k x t v h => by
    rcases x2j h with ⟨i, u, rfl, e⟩ | ⟨y, u, rfl, e⟩
    · exact nomatch e
    · injection e with e1 _
      subst e1
      cases v <;> rfl
theorem y3q (prog : Program) (w : World) (i : Int) (t : Tok) : (x2v prog w).is (.inl i) (.int i t) = true := y84 i t
theorem y41 (prog : Program) (w : World) (x : Str) (t : Tok) : (x2v prog w).is (.inr x) (.str x t) = true := y8b x t
inductive V where
  | non | bl (b : Bool) | int (i : Int) | str (x : Str) | byt (b : Array UInt8) | flt (b : UInt64) | ref (a : Addr) | ty (n : String)
  deriving DecidableEq
noncomputable def x3r : V -> Value -> Prop
  | .non, u => u = Value.none
  | .bl b, u => u = Value.bool b
  | .int i, u => ∃ t, u = Value.int i t
  | .str x, u => ∃ t, u = Value.str x t
  | .byt b, u => ∃ t, u = Value.bytes b t
  | .flt b, u => ∃ t, u = Value.float b t
  | .ref a, u => u = Value.ref a
  | .ty n, u => u = Value.type n
noncomputable abbrev x2p : List V -> List Value -> Prop := Paired x3r
theorem x2p.length {xs : List V} {us : List Value} (r : x2p xs us) : xs.length = us.length := Paired.length r
theorem x2p.get : ∀ {xs : List V} {us : List Value} {i : Nat} {x : V}, x2p xs us -> xs[i]? = some x -> ∃ u, us[i]? = some u /\ x3r x u
  | _, _, _, _, .nil, e => by simp at e
  | _, _, 0, _, .cons r _, e => by simp at e; subst e; exact ⟨_, rfl, r⟩
  | _, _, i + 1, x, .cons _ t, e => by
    obtain ⟨u, h1, h2⟩ := x2p.get (i := i) (x := x) t (by simpa using e)
    exact ⟨u, by simpa using h1, h2⟩
theorem x2p.set {x : V} {u : Value} (r : x3r x u) : ∀ {xs : List V} {us : List Value} (i : Nat), x2p xs us -> x2p (xs.set i x) (us.set i u)
  | _, _, _, .nil => .nil
  | _, _, 0, .cons _ t => .cons r t
  | _, _, i + 1, .cons q t => .cons q (x2p.set r i t)
theorem x2p.append : ∀ {xs ys : List V} {us ws : List Value}, x2p xs us -> x2p ys ws -> x2p (xs ++ ys) (us ++ ws)
  | _, _, _, _, .nil, s => s
  | _, _, _, _, .cons r t, s => .cons r (x2p.append t s)
theorem x2p.take : ∀ {xs : List V} {us : List Value} (n : Nat), x2p xs us -> x2p (xs.take n) (us.take n)
  | _, _, 0, _ => .nil
  | _, _, _ + 1, .nil => .nil
  | _, _, n + 1, .cons r t => .cons r (x2p.take n t)
theorem x2p.drop : ∀ {xs : List V} {us : List Value} (n : Nat), x2p xs us -> x2p (xs.drop n) (us.drop n)
  | _, _, 0, r => r
  | _, _, _ + 1, .nil => .nil
  | _, _, n + 1, .cons _ t => x2p.drop n t
noncomputable def z39 : Option V -> Option Value -> Prop
  | some v, some u => x3r v u
  | none, none => True
  | _, _ => False
noncomputable def KV {κ : Type} : List (κ × V) -> List (κ × Value) -> Prop := Paired fun (p : κ × V) (q : κ × Value) => p.1 = q.1 /\ x3r p.2 q.2
noncomputable def kV : Key -> V
  | .inl i => .int i
  | .inr x => .str x
inductive HO where
  /-- a list -/
  | lst (xs : List V)
  /-- a tuple (never changes) -/
  | tup (xs : List V)
  /-- a dict whose keys are ints and texts; one whose keys are tuples of ints and texts (the empty one is both) -/
  | dK (kvs : List (Key × V)) | dT (kvs : List (List Key × V))
  /-- a set of ints: its members, its size -/
  | set (S : Int -> Bool) (n : Nat)
  /-- an instance of the class at C, its dict at dx, its attributes -/
  | ins (C dx : Addr) (fs : List (Str × V))
  /-- the dict of the instance at x -/
  | own (x : Addr)
  /-- the dict of an exception -/
  | xd (fs : List (Str × V))
  /-- a bound method, f of x -/
  | met (f x : Addr)
  /-- a range object lo, lo + 1, .. below hi -/
  | rng (lo hi : Int)
  /-- a thing that is known to the object (the script; a dict while a loop walks it): read, never written while it is so -/
  | frz (o : Obj) (u : HO)
  /-- a code object's table -/
  | tbl (ps : Array Value)
  /-- any other thing, by what is true of its one object (a def of one's own: SetO a S n := HO.ext fun h => ..) -/
  | ext (φ : Heap -> Prop)
noncomputable abbrev Hp := Addr -> Option HO
noncomputable def upd (H : Hp) (a : Addr) (o : HO) : Hp := fun b => if b = a then some o else H b
theorem x23 {H : Hp} {a : Addr} {o : HO} : upd H a o a = some o := by unfold upd; rw [if_pos rfl]
theorem x0q {H : Hp} {a b : Addr} {o : HO} (h : b ≠ a) : upd H a o b = H b := by unfold upd; rw [if_neg h]
theorem z4v {H : Hp} {a : Addr} {o u : HO} : upd (upd H a o) a u = upd H a u := by
  funext b; unfold upd; split <;> rfl
theorem x1f {H : Hp} {a b : Addr} {o : HO} (h : H a = some o) (h' : H b = none) : a ≠ b := by
  intro e; subst e; rw [h] at h'; cases h'
noncomputable def x4u (h : Heap) (a : Addr) (items : Array Value) : Prop := ∃ o, h.get? a = some o /\ o.cls = .type "tuple" /\ (∃ n, o.data = .seq items n) /\ o.dict = none
theorem x4u.tup {h : Heap} {a : Addr} {items : Array Value} (x : x4u h a items) : IsTup h a items := let ⟨o, e, c, n, _⟩ := x; ⟨o, e, c, n⟩
theorem x4u.new (h : Heap) (items : Array Value) : x4u (h.push { cls := .type "tuple", data := .seq items }) h.objs.size items := ⟨_, Heap.get?_push_size _ rfl, rfl, ⟨_, rfl⟩, rfl⟩
theorem x4u.lt {h : Heap} {a : Addr} {items : Array Value} (x : x4u h a items) : a < h.objs.size := let ⟨_, e, _⟩ := x; Heap.lt_size e
section
variable (P : Program) (w : World)
noncomputable def x2y (H : Hp) (h : Heap) (a : Addr) : HO -> Prop
  | .lst xs => xs.length <= sizeLine /\ ∃ (its : List Value) (n : Nat), x2p xs its /\ h.get? a = some { cls := .type "list", data := .seq its.toArray n }
  | .tup xs => xs.length <= sizeLine /\ ∃ its : List Value, x2p xs its /\ x4u h a its.toArray
  | .dK kvs => kvs.length <= sizeLine /\ (a == sysModules) = false /\ ∃ vs, KV kvs vs /\ h.DictOf (x2v P w) a vs
  | .dT kvs => kvs.length <= sizeLine /\ (a == sysModules) = false /\ ∃ xs : List (List Key × Addr × Value),
      Paired (fun (p : List Key × V) (q : List Key × Addr × Value) => p.1 = q.1 /\ H q.2.1 = some (.tup (p.1.map kV)) /\ x3r p.2 q.2.2) kvs xs /\
      ∃ o es ep, h.get? a = some o /\ o.ExactDict /\ o.data = .dict es ep /\ es.toList = xs.map (entryOfKey (tupleKind (x2v P w))) /\ (xs.map (·.1)).Nodup
  | .set S n => h.SetOf (intKind P w) a S n
  | .ins C dx fs => H dx = some (.own a) /\ fs.length <= 1000 /\ dx ≠ a /\ h.get? a = some (PySem.W.instObj C dx) /\
      ∃ mA, h.Ns1 dx mA /\ (∀ f, z39 (fs.lookup f) (mA f)) /\ PySem.Within mA (fs.map (·.1))
  | .own _ => ∃ o, h.get? a = some o
  | .xd fs => ∃ mA, h.Ns1 a mA /\ ∀ f, z39 (fs.lookup f) (mA f)
  | .rng lo hi => ∃ t u v, h.get? a = some { cls := .type "range", data := .fields #[.int lo t, .int hi u, .int 1 v] }
  | .frz o u => h.get? a = some o /\ x2y H h a u
  | .tbl ps => h.get? a = some { cls := .none, data := .fields ps }
  | .met f x => h.get? a = some (PySem.W.methodObj (.ref f) (.ref x))
  | .ext φ => φ h /\ (∃ o, h.get? a = some o) /\ ∀ h1 h2 : Heap, φ h1 -> (∀ o, h1.get? a = some o -> h2.get? a = some o) -> φ h2
noncomputable def HOk (H : Hp) (h : Heap) : Prop := ∀ a o, H a = some o -> x2y P w H h a o
end
section
variable {P : Program} {w : World} {H H' : Hp} {h h' : Heap} {a : Addr} {o : HO}
theorem x2y.lt (x : x2y P w H h a o) : a < h.objs.size := by
  cases o with
  | lst xs => obtain ⟨_, _, _, _, e⟩ := x; exact Heap.lt_size e
  | tup xs => obtain ⟨_, _, _, p⟩ := x; exact p.lt
  | dK kvs => obtain ⟨_, _, _, _, o, _, _, e, _⟩ := x; exact Heap.lt_size e
  | dT kvs => obtain ⟨_, _, _, _, o, _, _, e, _⟩ := x; exact Heap.lt_size e
  | set S n => obtain ⟨o, _, _, _, e, _⟩ := x; exact Heap.lt_size e
  | ins C dx fs => obtain ⟨_, _, _, e, _⟩ := x; exact Heap.lt_size e
  | own y => obtain ⟨_, e⟩ := x; exact Heap.lt_size e
  | xd fs => obtain ⟨_, ⟨_, _, _, e, _⟩, _⟩ := x; exact Heap.lt_size e
  | rng lo hi => obtain ⟨_, _, _, e⟩ := x; exact Heap.lt_size e
  | frz ob u => obtain ⟨e, _⟩ := x; exact Heap.lt_size e
  | tbl ps => exact Heap.lt_size (show h.get? a = some _ from x)
  | met f y => exact Heap.lt_size (show h.get? a = some _ from x)
  | ext φ => obtain ⟨_, ⟨_, e⟩, _⟩ := x; exact Heap.lt_size e
theorem Paired.mapP {α β : Type} {F G : α -> β -> Prop} : ∀ {l₁ : List α} {l₂ : List β}, Paired F l₁ l₂ -> (∀ a b, F a b -> G a b) -> Paired G l₁ l₂
  | _, _, .nil, _ => .nil
  | _, _, .cons r t, f => .cons (f _ _ r) (Paired.mapP t f)
theorem x2y.stay (x : x2y P w H h a o) (k : ∀ b u, (b = a \/ H b = some (.own a)) -> h.get? b = some u -> h'.get? b = some u)
    (ho : ∀ b, H b = some (.own a) -> H' b = some (.own a)) (ht : ∀ b xs, H b = some (.tup xs) -> H' b = some (.tup xs)) : x2y P w H' h' a o := by
  induction o with
  | lst xs => obtain ⟨z, its, n, r, e⟩ := x; exact ⟨z, its, n, r, k _ _ (.inl rfl) e⟩
  | tup xs => obtain ⟨z, its, r, ob, e, c⟩ := x; exact ⟨z, its, r, ob, k _ _ (.inl rfl) e, c⟩
  | dK kvs => obtain ⟨z, y, vs, r, ob, es, ep, e, c⟩ := x; exact ⟨z, y, vs, r, ob, es, ep, k _ _ (.inl rfl) e, c⟩
  | dT kvs =>
    obtain ⟨z, y, xs, r, ob, es, ep, e, c⟩ := x
    exact ⟨z, y, xs, Paired.mapP r fun p q z => ⟨z.1, ht _ _ z.2.1, z.2.2⟩, ob, es, ep, k _ _ (.inl rfl) e, c⟩
  | set S n => obtain ⟨ob, es, ep, t, e, c⟩ := x; exact ⟨ob, es, ep, t, k _ _ (.inl rfl) e, c⟩
  | ins C dx fs =>
    obtain ⟨d, z, ne, e, mA, ⟨od, es, ep, e2, c⟩, r⟩ := x
    exact ⟨ho _ d, z, ne, k _ _ (.inl rfl) e, mA, ⟨od, es, ep, k _ _ (.inr d) e2, c⟩, r⟩
  | own y => obtain ⟨ob, e⟩ := x; exact ⟨ob, k _ _ (.inl rfl) e⟩
  | xd fs => obtain ⟨mA, ⟨od, es, ep, e, c⟩, r⟩ := x; exact ⟨mA, ⟨od, es, ep, k _ _ (.inl rfl) e, c⟩, r⟩
  | rng lo hi => obtain ⟨t, u, v, e⟩ := x; exact ⟨t, u, v, k _ _ (.inl rfl) e⟩
  | frz ob u ih => obtain ⟨e, q⟩ := x; exact ⟨k _ _ (.inl rfl) e, ih q⟩
  | tbl ps =>
    have e : h.get? a = some { cls := .none, data := .fields ps } := x
    show h'.get? a = some { cls := .none, data := .fields ps }
    exact k a _ (.inl rfl) e
  | met f y =>
    have e : h.get? a = some (PySem.W.methodObj (.ref f) (.ref y)) := x
    show h'.get? a = some (PySem.W.methodObj (.ref f) (.ref y))
    exact k a _ (.inl rfl) e
  | ext φ => obtain ⟨p, ⟨o, e⟩, st⟩ := x; exact ⟨st _ _ p fun o q => k _ _ (.inl rfl) q, ⟨o, k _ _ (.inl rfl) e⟩, st⟩
theorem HOk.lt (x : HOk P w H h) (e : H a = some o) : a < h.objs.size := (x a o e).lt
theorem HOk.fresh (x : HOk P w H h) (e : h.objs.size <= a) : H a = none := by
  cases q : H a with
  | none => rfl
  | some u => exact absurd (Nat.lt_of_lt_of_le (x.lt q) e) (Nat.lt_irrefl _)
theorem HOk.kept (x : HOk P w H h) (k : ∀ b u, h.get? b = some u -> h'.get? b = some u) : HOk P w H h' := fun a o e =>
  (x a o e).stay (fun b u _ q => k b u q) (fun _ q => q) fun _ _ q => q
theorem HOk.laid (x : HOk P w H h) (k : ∀ b u, h.get? b = some u -> h'.get? b = some u) (hp : h.objs.size <= a) (new : x2y P w (upd H a o) h' a o) : HOk P w (upd H a o) h' := fun b u e => by
  have hn := x.fresh hp
  by_cases hb : b = a
  · subst hb; rw [x23] at e; cases e; exact new
  · rw [x0q hb] at e
    exact (x b u e).stay (fun c v _ q => k c v q) (fun c q => by rw [x0q (x1f q hn)]; exact q) fun c xs q => by rw [x0q (x1f q hn)]; exact q
end
noncomputable def Rd (H : Hp) (a : Addr) (u : HO) : Prop := H a = some u \/ ∃ o, H a = some (.frz o u)
theorem Rd.of {H : Hp} {a : Addr} {u : HO} (h : H a = some u) : Rd H a u := .inl h
theorem Rd.ok {P : Program} {w : World} {H : Hp} {h : Heap} {a : Addr} {u : HO} (r : Rd H a u) (x : HOk P w H h) : x2y P w H h a u := by
  rcases r with r | ⟨o, r⟩
  · exact x a u r
  · obtain ⟨_, q⟩ := x a _ r
    exact q
noncomputable def Mut : Option HO -> Prop
  | some (.lst _) => True
  | some (.dK _) => True
  | some (.dT _) => True
  | some (.set _ _) => True
  | some (.ins _ _ _) => True
  | some (.ext _) => True
  | _ => False
section
variable {P : Program} {w : World} {H : Hp} {h h' : Heap} {x e : Addr} {o' : HO}
theorem HOk.write (ok : HOk P w H h) (mu : Mut (H x)) (he : e = x \/ H e = some (.own x)) (k : ∀ b u, b ≠ e -> h.get? b = some u -> h'.get? b = some u) (heo : ∃ u, h'.get? e = some u)
    (new : x2y P w (upd H x o') h' x o') : HOk P w (upd H x o') h' := fun b u q => by
  have nown : ∀ c y, H c = some (.own y) -> c ≠ x := fun c y r z => by subst z; rw [r] at mu; exact mu
  have ntup : ∀ c xs, H c = some (.tup xs) -> c ≠ x := fun c xs r z => by subst z; rw [r] at mu; exact mu
  by_cases hb : b = x
  · subst hb; rw [x23] at q; cases q; exact new
  · rw [x0q hb] at q
    by_cases hbe : b = e
    · have q' : H b = some (.own x) := by
        rcases he with z | z
        · exact absurd (hbe.trans z) hb
        · rw [hbe]; exact z
      rw [q] at q'; cases q'
      obtain ⟨v, hv⟩ := heo
      exact ⟨v, by rw [hbe]; exact hv⟩
    · refine (ok b u q).stay (fun c v hc r => k c v ?_ r) (fun c r => by rw [x0q (nown c b r)]; exact r) fun c xs r => by rw [x0q (ntup c xs r)]; exact r
      rcases hc with rfl | hc
      · exact hbe
      · rintro rfl
        rcases he with z | z
        · exact nown c b hc z
        · rw [hc] at z; cases z; exact hb rfl
end
structure Un (fs ex : List Addr) (H H' : Hp) (h h' : Heap) : Prop where
  keep : ∀ b o, h.get? b = some o -> H b = none -> b ∉ fs -> b ∉ ex -> h'.get? b = some o
  slot : ∀ b o, h.get? b = some o -> H b = none -> b ∈ fs -> b ∉ ex -> ∃ sl, h'.get? b = some { o with slots := sl }
  free : ∀ b o, h.get? b = some o -> H b = none -> b ∉ ex -> H' b = none
  there : ∀ b o, h.get? b = some o -> b ∉ ex -> ∃ o', h'.get? b = some o'
  tups : ∀ b xs, H b = some (.tup xs) -> H' b = some (.tup xs)
  frzs : ∀ b o u, H b = some (.frz o u) -> H' b = some (.frz o u)
  tbls : ∀ b ps, H b = some (.tbl ps) -> ∃ more, H' b = some (.tbl (ps ++ more))
section
variable {fs fs' ex ex' : List Addr} {H H1 H2 : Hp} {h h1 h2 h' : Heap} {a x e : Addr} {o : HO}
theorem Un.any (u : Un fs ex H H1 h h1) {b : Addr} {ob : Obj} (q : h.get? b = some ob) (n : H b = none) (hx : b ∉ ex) : ∃ sl, h1.get? b = some { ob with slots := sl } := by
  by_cases hb : b ∈ fs
  · exact u.slot b ob q n hb hx
  · exact ⟨ob.slots, u.keep b ob q n hb hx⟩
theorem Un.kept (k : ∀ b u, h.get? b = some u -> h'.get? b = some u) : Un fs ex H H h h' :=
  ⟨fun b ob q _ _ _ => k b ob q, fun b ob q _ _ _ => ⟨ob.slots, k b ob q⟩, fun _ _ _ n _ => n, fun b ob q _ => ⟨ob, k b ob q⟩, fun _ _ q => q, fun _ _ _ q => q, fun _ ps q => ⟨#[], by rw [q]; simp⟩⟩
theorem Un.refl : Un fs ex H H h h := Un.kept fun _ _ q => q
theorem Un.laid (k : ∀ b u, h.get? b = some u -> h'.get? b = some u) (hp : h.objs.size <= a) (hn : H a = none) : Un fs ex H (upd H a o) h h' where
  keep := fun b u q _ _ _ => k b u q
  slot := fun b u q _ _ _ => ⟨u.slots, k b u q⟩
  free := fun b u q n _ => by rw [x0q (Nat.ne_of_lt (Nat.lt_of_lt_of_le (Heap.lt_size q) hp))]; exact n
  there := fun b u q _ => ⟨u, k b u q⟩
  tups := fun b xs q => by rw [x0q (x1f q hn)]; exact q
  frzs := fun b u xs q => by rw [x0q (x1f q hn)]; exact q
  tbls := fun b ps q => ⟨#[], by rw [x0q (x1f q hn), q]; simp⟩
theorem Un.write (mu : Mut (H x)) (he : e = x \/ H e = some (.own x)) (k : ∀ b u, b ≠ e -> h.get? b = some u -> h'.get? b = some u) (heo : ∃ u, h'.get? e = some u) : Un fs ex H (upd H x o) h h' := by
  have hx : ∀ b, H b = none -> b ≠ x := fun b n z => by subst z; rw [n] at mu; exact mu
  have hb : ∀ b, H b = none -> b ≠ e := fun b n z => by
    subst z
    rcases he with r | r
    · exact hx b n r
    · rw [n] at r; cases r
  have hm : ∀ b u, H b = some u -> ¬ Mut (some u) -> b ≠ x := fun b u q nm z => by subst z; rw [q] at mu; exact nm mu
  refine ⟨fun b u q n _ _ => k b u (hb b n) q, fun b u q n _ _ => ⟨u.slots, k b u (hb b n) q⟩, fun b u q n _ => by rw [x0q (hx b n)]; exact n, fun b u q _ => ?_,
    fun b xs q => by rw [x0q (hm b _ q fun z => z)]; exact q, fun b u xs q => by rw [x0q (hm b _ q fun z => z)]; exact q, fun b ps q => ⟨#[], by rw [x0q (hm b _ q fun z => z), q]; simp⟩⟩
  by_cases hbe : b = e
  · subst hbe; exact heo
  · exact ⟨u, k b u hbe q⟩
end
noncomputable def trk (h : Heap) (H : Hp) : List Addr := (List.range h.objs.size).filter fun a => (H a).isSome
noncomputable def z0k (h : Heap) (H : Hp) : Heap := PySem.W.hideAll h (trk h H)
theorem y7x (h : Heap) (H : Hp) : (z0k h H).objs.size = h.objs.size := PySem.W.hideAll_size _ _
theorem z1h {h : Heap} {H : Hp} {b : Addr} {o : Obj} (e : h.get? b = some o) (n : H b = none) : (z0k h H).get? b = some o :=
  PySem.W.hideAll_get _ e fun hm => by
    have q : (H b).isSome = true := (List.mem_filter.mp hm).2
    rw [n] at q; simp at q
theorem z48 {h : Heap} {H : Hp} {b : Addr} {o : Obj} (e : (z0k h H).get? b = some o) : h.get? b = some o /\ H b = none := by
  have e' : h.get? b = some o := PySem.W.of_hideAll (trk h H) e
  refine ⟨e', ?_⟩
  cases q : H b with
  | none => rfl
  | some x =>
    have hm : b ∈ trk h H := List.mem_filter.mpr ⟨List.mem_range.mpr (Heap.lt_size e'), by simp [q]⟩
    have z : (z0k h H).get? b = none := PySem.W.hideAll_none (trk h H) hm
    rw [z] at e; cases e
noncomputable def z2f (g h : Heap) (L : Addr) : List (Addr × Obj) := (List.range h.objs.size).filterMap fun a => if a = L \/ (g.get? a).isSome = true then none else (h.get? a).map fun o => (a, o)
noncomputable def x2b (g h : Heap) (L d : Addr) : List (Addr × Obj) := (z2f g h L).filter fun p => decide (p.1 ≠ d)
structure Mod (K : PySem.W.Frag) (mg : Str -> Option Value) (base : Heap) : Prop where
  kin : K.In base
  glob : base.Ns mainGlobals mg
  blt : ∃ mb, base.Ns builtinsNs mb /\ ∀ x : Str, x ≠ "__name__" -> mb x = bootBuiltins x
  nolimit : base.NoLimit
structure Cx where
  prog : Program
  w : World
  K : PySem.W.Frag
  mg : Str -> Option Value
  base : Heap
  A : Around
  N : List Str
  s₀ : Shared
  H₀ : Hp
  env : Env
  outer : List Env
  stack : List Env
  ex : List Addr
  fn : Str -> Bool
  calm : Bool
  pn : List (Addr × Obj)
  xe : Value -> Shared -> Prop
noncomputable def frs (l : List Env) : List Addr := l.filterMap (·.frame)
noncomputable abbrev Cx.fs (X : Cx) : List Addr := frs X.outer
noncomputable def Vis (sc : Scope) (x : Str) : Prop := sc.names.lookup x = some .local \/ sc.names.lookup x = some .cell \/ sc.names.lookup x = some .free
noncomputable def Loc (sc : Scope) (x : Str) : Prop := sc.names.lookup x = some .local \/ sc.names.lookup x = some .cell
noncomputable def j11 (env : Env) (h : Heap) (m : Str -> Option Value) (x : Str) (u : Value) : Prop :=
  (env.kindOf x = some .local /\ m x = some u) \/ ((env.kindOf x = some .cell \/ env.kindOf x = some .free) /\ ∃ c, env.cells.lookup x = some c /\ h.IsCell c (some u))
structure Cx.Ok (X : Cx) : Prop where
  mod : Mod X.K X.mg X.base
  kind : X.env.scope.kind = .function
  glob : X.env.globals = mainGlobals
  blt : X.env.builtins = builtinsNs
  above : X.s₀.heap.objs.size <= X.env.locals
  inj : ∀ x y c, X.env.cells.lookup x = some c -> X.env.cells.lookup y = some c -> x = y
  has : ∀ x, (X.env.kindOf x = some .cell \/ X.env.kindOf x = some .free) -> ∃ c, X.env.cells.lookup x = some c
  cab : ∀ x c, X.fn x = true -> X.env.cells.lookup x = some c -> X.s₀.heap.objs.size <= c
  hd : X.calm = true -> X.A.handled = none
  frames : X.A.frames = some X.stack
  stk : X.stack = X.outer \/ (X.stack = X.env :: X.outer /\ X.env.frame = some X.env.locals)
  exf : ∀ b ∈ X.ex, b ≠ X.env.locals /\ ∀ x c, X.env.cells.lookup x = some c -> c ≠ b
  bs : ∀ b o, X.base.get? b = some o -> X.s₀.heap.get? b = some o /\ X.H₀ b = none
  bsz : X.base.objs.size <= X.s₀.heap.objs.size
  noex : ∀ b o, X.base.get? b = some o -> b ∉ X.ex
  exfs : ∀ b ∈ X.ex, b ∉ X.fs
  funs : X.s₀.heap.FunFrames X.base X.outer
  frf : ∀ b ∈ X.fs, X.H₀ b = none
structure Inv (X : Cx) (pins : List (Addr × Obj)) (σ : List (Option V)) (H : Hp) (s : Shared) : Prop where
  ok : X.Ok
  os : s.os = X.s₀.os
  bare : AllBare s.gens
  base : Un X.fs X.ex X.H₀ H X.s₀.heap s.heap
  loc : ∃ m, s.heap.Ns X.env.locals m /\ ∀ (i : Nat) (x : Str) (v : V), X.N[i]? = some x -> σ[i]? = some (some v) -> Vis X.env.scope x -> ∃ u, x3r v u /\ j11 X.env s.heap m x u
  cell : ∀ x c, X.env.cells.lookup x = some c -> ∃ v, s.heap.IsCell c v
  free : H X.env.locals = none
  freeC : ∀ x c, X.env.cells.lookup x = some c -> H c = none
  pin : ∀ p ∈ X.pn ++ pins, s.heap.get? p.1 = some p.2 /\ H p.1 = none /\ p.1 ≠ X.env.locals /\ p.1 ∉ X.fs /\ ∀ v, p.2.data ≠ .cell v
  hok : HOk X.prog X.w H s.heap
  len : σ.length = X.N.length
section
variable {X : Cx} {pins : List (Addr × Obj)} {σ : List (Option V)} {H H' : Hp} {s : Shared} {h' : Heap}
theorem Cx.Ok.nofr (ok : X.Ok) {b : Addr} {o : Obj} (e : X.base.get? b = some o) : b ∉ X.fs := fun hb => by
  have := (ok.funs.mem hb).1
  rw [e] at this; cases this
theorem Inv.bs (I : Inv X pins σ H s) : ∀ b o, X.base.get? b = some o -> s.heap.get? b = some o /\ H b = none := fun b o e =>
  ⟨I.base.keep b o (I.ok.bs b o e).1 (I.ok.bs b o e).2 (I.ok.nofr e) (I.ok.noex b o e), I.base.free b o (I.ok.bs b o e).1 (I.ok.bs b o e).2 (I.ok.noex b o e)⟩
theorem Inv.bk (I : Inv X pins σ H s) : ∀ b o, X.base.get? b = some o -> s.heap.get? b = some o := fun b o e => (I.bs b o e).1
theorem Inv.mod (I : Inv X pins σ H s) : Mod X.K X.mg X.base := I.ok.mod
theorem Inv.kIn (I : Inv X pins σ H s) : X.K.In s.heap := I.ok.mod.kin.keeps I.bk
theorem Inv.fr (I : Inv X pins σ H s) : ∃ m, Fr X.base X.env.locals s.heap m :=
  let ⟨m, hn, _⟩ := I.loc
  ⟨m, hn, I.bk, Nat.le_trans I.ok.bsz I.ok.above⟩
theorem Inv.lt (I : Inv X pins σ H s) : X.env.locals < s.heap.objs.size := let ⟨_, hn, _⟩ := I.loc; hn.lt
theorem Inv.sz (I : Inv X pins σ H s) : X.s₀.heap.objs.size <= s.heap.objs.size := Nat.le_trans I.ok.above (Nat.le_of_lt I.lt)
theorem Inv.nofs (I : Inv X pins σ H s) {a : Addr} (h : s.heap.objs.size <= a) : a ∉ X.fs := fun hb => by
  obtain ⟨_, o, ho, _⟩ := I.ok.funs.mem hb
  exact absurd (Nat.lt_of_lt_of_le (Heap.lt_size ho) (Nat.le_trans I.sz h)) (Nat.lt_irrefl _)
theorem Inv.cne (I : Inv X pins σ H s) : ∀ x c, X.env.cells.lookup x = some c -> c ≠ X.env.locals := fun x c e z => by
  obtain ⟨v, o, ho, hd⟩ := I.cell x c e
  obtain ⟨m, ⟨o', es, ep, ho', hd', _⟩, _⟩ := I.loc
  rw [z, ho'] at ho; cases ho; rw [hd'] at hd; cases hd
theorem Inv.funs (I : Inv X pins σ H s) : s.heap.FunFrames X.base X.outer := by
  have all : ∀ (l : List Env), (∀ b ∈ frs l, b ∈ X.fs) -> X.s₀.heap.FunFrames X.base l -> s.heap.FunFrames X.base l := by
    intro l
    induction l with
    | nil => intro _ _; trivial
    | cons env r ih =>
      intro hs hl
      obtain ⟨hk, ⟨L, o, hf, hn, ho, hd⟩, hr⟩ := hl
      have hL : L ∈ X.fs := hs L (by unfold frs; rw [List.filterMap_cons, hf]; exact List.mem_cons_self)
      obtain ⟨sl, e⟩ := I.base.slot L o ho (I.ok.frf L hL) hL fun z => I.ok.exfs L z hL
      exact ⟨hk, ⟨L, _, hf, hn, e, hd⟩, ih (fun b hb => hs b (by unfold frs; rw [List.filterMap_cons, hf]; exact List.mem_cons_of_mem _ hb)) hr⟩
  exact all X.outer (fun _ hb => hb) I.ok.funs
theorem Inv.stack (I : Inv X pins σ H s) : s.heap.FunFrames X.base X.stack := by
  rcases I.ok.stk with e | ⟨e, hf⟩
  · rw [e]; exact I.funs
  · rw [e]
    obtain ⟨m, hn, _⟩ := I.loc
    refine .cons (by rw [I.ok.kind]; decide) hf hn ?_ I.funs
    exact Heap.get?_none_of_le (Nat.le_trans I.ok.bsz I.ok.above)
theorem Inv.stkSub (I : Inv X pins σ H s) : ∀ b ∈ frs X.stack, b ∈ X.env.locals :: X.fs := fun b hb => by
  rcases I.ok.stk with e | ⟨e, hf⟩
  · rw [e] at hb; exact List.mem_cons_of_mem _ hb
  · rw [e] at hb
    unfold frs at hb
    rw [List.filterMap_cons, hf] at hb
    exact hb
theorem Inv.stkFree (I : Inv X pins σ H s) : ∀ b ∈ frs X.stack, H b = none := fun b hb => by
  rcases List.mem_cons.mp (I.stkSub b hb) with e | hb
  · rw [e]; exact I.free
  · obtain ⟨_, o, ho, _⟩ := I.ok.funs.mem hb
    exact I.base.free b o ho (I.ok.frf b hb) fun z => I.ok.exfs b z hb
theorem Inv.step {g' : Array GenState} {t' : Nat} {d' : Drawn} {ch : List Addr} (I : Inv X pins σ H s)
    (hch : ∀ b ∈ ch, (b ∈ X.ex \/ X.s₀.heap.objs.size <= b) /\ b ≠ X.env.locals /\ (∀ x c, X.env.cells.lookup x = some c -> c ≠ b) /\ ∀ p ∈ X.pn ++ pins, p.1 ≠ b)
    (keep : ∀ b o, b ≠ X.env.locals -> b ∉ X.fs -> b ∉ ch -> s.heap.get? b = some o -> H b = none -> h'.get? b = some o)
    (slot : ∀ b o, b ≠ X.env.locals -> b ∈ X.fs -> b ∉ ch -> s.heap.get? b = some o -> H b = none -> ∃ sl, h'.get? b = some { o with slots := sl }) (free : ∀ b o, b ∉ ch -> s.heap.get? b = some o -> H b = none -> H' b = none)
    (there : ∀ b o, b ∉ ch -> s.heap.get? b = some o -> ∃ o', h'.get? b = some o')
    (tups : ∀ b xs, H b = some (.tup xs) -> H' b = some (.tup xs)) (frzs : ∀ b o u, H b = some (.frz o u) -> H' b = some (.frz o u)) (tbls : ∀ b ps, H b = some (.tbl ps) -> ∃ more, H' b = some (.tbl (ps ++ more)))
    (ns : ∀ m, s.heap.Ns X.env.locals m -> h'.Ns X.env.locals m) (hok : HOk X.prog X.w H' h') (hg : AllBare g') :
    Inv X pins σ H' { s with heap := h', gens := g', drawn := d', toks := t' } := by
  have neL : ∀ b o, X.s₀.heap.get? b = some o -> b ≠ X.env.locals := fun b o e => Nat.ne_of_lt (Nat.lt_of_lt_of_le (Heap.lt_size e) I.ok.above)
  have neC : ∀ b o, X.s₀.heap.get? b = some o -> b ∉ X.ex -> b ∉ ch := fun b o e hx hb => by
    rcases (hch b hb).1 with z | z
    · exact hx z
    · exact absurd (Nat.lt_of_lt_of_le (Heap.lt_size e) z) (Nat.lt_irrefl _)
  have cellK : ∀ x c, X.env.cells.lookup x = some c -> ∀ v, s.heap.IsCell c v -> h'.IsCell c v := fun x c e v hh0 => by
    obtain ⟨o, ho, hd⟩ := hh0
    have nch : c ∉ ch := fun z => (hch c z).2.2.1 x c e rfl
    by_cases hc : c ∈ X.fs
    · obtain ⟨sl, q⟩ := slot c o (I.cne x c e) hc nch ho (I.freeC x c e)
      exact ⟨_, q, hd⟩
    · exact ⟨o, keep c o (I.cne x c e) hc nch ho (I.freeC x c e), hd⟩
  refine ⟨I.ok, I.os, hg, ⟨fun b o e n hb hx => ?_, fun b o e n hb hx => ?_, fun b o e n hx => ?_, fun b o e hx => ?_, fun b xs e => tups b xs (I.base.tups b xs e), fun b o xs e => frzs b o xs (I.base.frzs b o xs e), fun b ps e => ?_⟩, ?_, fun x c e => ?_, ?_, fun x c e => ?_, fun p hp => ?_, hok, I.len⟩
  · exact keep b o (neL b o e) hb (neC b o e hx) (I.base.keep b o e n hb hx) (I.base.free b o e n hx)
  · obtain ⟨sl, e1⟩ := I.base.slot b o e n hb hx
    obtain ⟨sl', e2⟩ := slot b _ (neL b o e) hb (neC b o e hx) e1 (I.base.free b o e n hx)
    exact ⟨sl', e2⟩
  · obtain ⟨o', e1⟩ := I.base.there b o e hx
    exact free b o' (neC b o e hx) e1 (I.base.free b o e n hx)
  · obtain ⟨o', e1⟩ := I.base.there b o e hx
    exact there b o' (neC b o e hx) e1
  · obtain ⟨m1, e1⟩ := I.base.tbls b ps e
    obtain ⟨m2, e2⟩ := tbls b _ e1
    exact ⟨m1 ++ m2, by rw [e2, Array.append_assoc]⟩
  · obtain ⟨m, hn, hl⟩ := I.loc
    refine ⟨m, ns m hn, fun i x v e1 e2 e3 => ?_⟩
    obtain ⟨u, r, l⟩ := hl i x v e1 e2 e3
    refine ⟨u, r, ?_⟩
    rcases l with l | ⟨k, c, e, z⟩
    · exact .inl l
    · exact .inr ⟨k, c, e, cellK x c e _ z⟩
  · obtain ⟨v, z⟩ := I.cell x c e
    exact ⟨v, cellK x c e v z⟩
  · obtain ⟨m, ⟨o, _, _, ho, _⟩, _⟩ := I.loc
    exact free _ o (fun z => (hch _ z).2.1 rfl) ho I.free
  · obtain ⟨v, o, ho, hd⟩ := I.cell x c e
    exact free c o (fun z => (hch c z).2.2.1 x c e rfl) ho (I.freeC x c e)
  · obtain ⟨e, n, ne, nf, d⟩ := I.pin p hp
    have nch : p.1 ∉ ch := fun z => (hch p.1 z).2.2.2 p hp rfl
    exact ⟨keep p.1 p.2 ne nf nch e n, free p.1 p.2 nch e n, ne, nf, d⟩
theorem Inv.un {t' : Nat} (I : Inv X pins σ H s) (u : Un X.fs [] H H' s.heap h') (hok : HOk X.prog X.w H' h') : Inv X pins σ H' { s with heap := h', toks := t' } := by
  obtain ⟨m, ⟨o, es, ep, ho, r⟩, _⟩ := id I.loc
  obtain ⟨sl, hL⟩ := u.any ho I.free (by simp)
  exact I.step (g' := s.gens) (d' := s.drawn) (ch := []) (fun _ z => nomatch z) (fun b o _ hb _ e n => u.keep b o e n hb (by simp)) (fun b o _ hb _ e n => u.slot b o e n hb (by simp)) (fun b o _ e n => u.free b o e n (by simp)) (fun b o _ e => u.there b o e (by simp)) u.tups u.frzs u.tbls (fun m' hm => by
    obtain ⟨o', es', ep', ho', r'⟩ := hm
    rw [ho] at ho'; cases ho'
    exact ⟨_, es', ep', hL, r'⟩) hok I.bare
theorem Inv.call {g' : Array GenState} {t' : Nat} {d' : Drawn} {ch : List Addr} (I : Inv X pins σ H s) (u : Un (frs X.stack) ch H H' s.heap h') (hok : HOk X.prog X.w H' h') (hg : AllBare g')
    (hch : ∀ b ∈ ch, (b ∈ X.ex \/ X.s₀.heap.objs.size <= b) /\ b ≠ X.env.locals /\ (∀ x c, X.env.cells.lookup x = some c -> c ≠ b) /\ ∀ p ∈ X.pn ++ pins, p.1 ≠ b) :
    Inv X pins σ H' { s with heap := h', gens := g', drawn := d', toks := t' } := by
  obtain ⟨m, ⟨o, es, ep, ho, r⟩, _⟩ := id I.loc
  obtain ⟨sl, hL⟩ := u.any ho I.free fun z => (hch _ z).2.1 rfl
  exact I.step (ch := ch) hch (fun b o hL hb hc e n => u.keep b o e n (fun z => (List.mem_cons.mp (I.stkSub b z)).elim hL hb) hc) (fun b o _ _ hc e n => u.any e n hc) (fun b o hc e n => u.free b o e n hc) (fun b o hc e => u.there b o e hc) u.tups u.frzs u.tbls (fun m' hm => by
    obtain ⟨o', es', ep', ho', r'⟩ := hm
    rw [ho] at ho'; cases ho'
    exact ⟨_, es', ep', hL, r'⟩) hok hg
theorem Inv.turned {t' : Nat} {it : Addr} (I : Inv X pins σ H s) (k : ∀ b o, b ≠ it -> s.heap.get? b = some o -> h'.get? b = some o) (hn : H it = none) (hL : it ≠ X.env.locals)
    (h1 : it ∈ X.ex \/ X.s₀.heap.objs.size <= it) (h2 : ∀ x c, X.env.cells.lookup x = some c -> c ≠ it) (h3 : ∀ p ∈ X.pn ++ pins, p.1 ≠ it) : Inv X pins σ H { s with heap := h', toks := t' } := by
  have nit : ∀ b u, H b = some u -> b ≠ it := fun b u e z => by rw [z, hn] at e; cases e
  refine I.step (g' := s.gens) (d' := s.drawn) (ch := [it]) (fun b hb => ?_) (fun b o _ _ hc e _ => k b o (fun z => hc (by simp [z])) e) (fun b o _ _ hc e _ => ⟨o.slots, k b o (fun z => hc (by simp [z])) e⟩) (fun _ _ _ _ n => n)
    (fun b o hc e => ⟨o, k b o (fun z => hc (by simp [z])) e⟩) (fun _ _ e => e) (fun _ _ _ e => e) (fun b ps e => ⟨#[], by rw [e]; simp⟩) (fun m hm => ?_) (fun b u e => ?_) I.bare
  · have e : b = it := by simpa using hb
    subst e
    exact ⟨h1, hL, h2, h3⟩
  · obtain ⟨o, es, ep, ho, r⟩ := hm
    exact ⟨o, es, ep, k _ o (Ne.symm hL) ho, r⟩
  · refine (I.hok b u e).stay (fun c v hc q => k c v ?_ q) (fun _ q => q) fun _ _ q => q
    rcases hc with z | z
    · rw [z]; exact nit b u e
    · exact nit c _ z
theorem Inv.tok (I : Inv X pins σ H s) (t : Nat) : Inv X pins σ H { s with toks := t } := I.un (h' := s.heap) (t' := t) Un.refl I.hok
theorem Inv.kept {t' : Nat} (I : Inv X pins σ H s) (k : ∀ b u, s.heap.get? b = some u -> h'.get? b = some u) : Inv X pins σ H { s with heap := h', toks := t' } := I.un (Un.kept k) (I.hok.kept k)
theorem Inv.laid {a : Addr} {o : HO} {t' : Nat} (I : Inv X pins σ H s) (k : ∀ b u, s.heap.get? b = some u -> h'.get? b = some u) (hp : s.heap.objs.size <= a) (new : x2y X.prog X.w (upd H a o) h' a o) :
    Inv X pins σ (upd H a o) { s with heap := h', toks := t' } := I.un (Un.laid k hp (I.hok.fresh hp)) (I.hok.laid k hp new)
theorem Inv.write {x e : Addr} {o : HO} {t' : Nat} (I : Inv X pins σ H s) (mu : Mut (H x)) (he : e = x \/ H e = some (.own x)) (k : ∀ b u, b ≠ e -> s.heap.get? b = some u -> h'.get? b = some u) (heo : ∃ u, h'.get? e = some u)
    (new : x2y X.prog X.w (upd H x o) h' x o) : Inv X pins σ (upd H x o) { s with heap := h', toks := t' } := I.un (Un.write mu he k heo) (I.hok.write mu he k heo new)
theorem Inv.weak {σ' : List (Option V)} (I : Inv X pins σ H s) (hl : σ'.length = σ.length) (w : ∀ (i : Nat) v, σ'[i]? = some (some v) -> σ[i]? = some (some v)) : Inv X pins σ' H s :=
  ⟨I.ok, I.os, I.bare, I.base, let ⟨m, hn, hl'⟩ := I.loc; ⟨m, hn, fun i x v e1 e2 e3 => hl' i x v e1 (w i v e2) e3⟩, I.cell, I.free, I.freeC, I.pin, I.hok, hl.trans I.len⟩
theorem Inv.pins_of {pins' : List (Addr × Obj)} (I : Inv X pins σ H s) (h : ∀ p ∈ pins', s.heap.get? p.1 = some p.2 /\ H p.1 = none /\ p.1 ≠ X.env.locals /\ p.1 ∉ X.fs /\ ∀ v, p.2.data ≠ .cell v) : Inv X pins' σ H s :=
  ⟨I.ok, I.os, I.bare, I.base, I.loc, I.cell, I.free, I.freeC, fun p hp => (List.mem_append.mp hp).elim (fun z => I.pin p (List.mem_append_left _ z)) (h p), I.hok, I.len⟩
theorem y5l {N : List Str} (hN : N.Nodup) {i j : Nat} {x : Str} (a : N[i]? = some x) (b : N[j]? = some x) : i = j := by
  obtain ⟨h1, e1⟩ := List.getElem?_eq_some_iff.mp a
  obtain ⟨h2, e2⟩ := List.getElem?_eq_some_iff.mp b
  exact (List.getElem_inj hN).mp (e1.trans e2.symm)
theorem y2e {M : Model} {A : Around} {E : Value -> Shared -> Prop} {i : Nat} {x : Str} {v : V} {u : Value} {Q : Unit -> Shared -> Prop} (I : Inv X pins σ H s) (hN : X.N.Nodup) (hi : X.N[i]? = some x) (hx : Loc X.env.scope x) (r : x3r v u)
    (h : ∀ s', Inv X pins (σ.set i (some v)) H s' -> (∃ a, Heap.SameBut a s.heap s'.heap /\ (a = X.env.locals \/ X.env.cells.lookup x = some a)) -> Q () s') (hf : X.fn x = true \/ X.env.scope.names.lookup x = some .local := by first | exact .inl rfl | exact .inr rfl | assumption) : wpAny M A (storeName X.env x u) Q E s := by
  obtain ⟨m, hn, hl⟩ := id I.loc
  have hcls : (X.env.scope.kind == .class || (X.env.scope.kind == .module && X.env.locals != X.env.globals)) = false := by rw [I.ok.kind]; rfl
  have hiσ : i < σ.length := by rw [I.len]; exact (List.getElem?_eq_some_iff.mp hi).1
  have cne := I.cne
  have tracked : ∀ {a : Addr} {h' : Heap}, (∃ o, s.heap.get? a = some o /\ H a = none) -> Heap.SameBut a s.heap h' -> HOk X.prog X.w H h' := fun {a h'} ha hs b ob e => by
    obtain ⟨_, _, hfree⟩ := ha
    refine (I.hok b ob e).stay (fun c w' hc q => (hs.2 c ?_).trans q) (fun _ q => q) fun _ _ q => q
    rintro rfl
    rcases hc with rfl | hc
    · rw [hfree] at e; cases e
    · rw [hfree] at hc; cases hc
  rcases hx with hk | hk
  · refine wpAny_storeName_local hk hn (fun h' hn' hs => ?_) hcls
    obtain ⟨oL, _, _, hoL, _⟩ := id hn
    refine h _ ⟨I.ok, I.os, I.bare, ⟨fun b o e n hb hx => ?_, fun b o e n hb hx => ?_, I.base.free, fun b o e hx => ?_, I.base.tups, I.base.frzs, I.base.tbls⟩, ⟨_, hn', fun j y v' e1 e2 e3 => ?_⟩, fun y c e => ?_, I.free, I.freeC, fun p hp => ?_, tracked ⟨oL, hoL, I.free⟩ hs, by simpa using I.len⟩ ⟨_, hs, .inl rfl⟩
    · exact (hs.2 b (Nat.ne_of_lt (Nat.lt_of_lt_of_le (Heap.lt_size e) I.ok.above))).trans (I.base.keep b o e n hb hx)
    · obtain ⟨sl, e1⟩ := I.base.slot b o e n hb hx
      exact ⟨sl, (hs.2 b (Nat.ne_of_lt (Nat.lt_of_lt_of_le (Heap.lt_size e) I.ok.above))).trans e1⟩
    · obtain ⟨o', e1⟩ := I.base.there b o e hx
      exact ⟨o', (hs.2 b (Nat.ne_of_lt (Nat.lt_of_lt_of_le (Heap.lt_size e) I.ok.above))).trans e1⟩
    · by_cases hj : j = i
      · subst hj
        rw [hi] at e1; cases e1
        rw [List.getElem?_set_self hiσ] at e2
        cases e2
        exact ⟨u, r, .inl ⟨hk, by simp⟩⟩
      · rw [List.getElem?_set_ne (Ne.symm hj)] at e2
        obtain ⟨u', r', q⟩ := hl j y v' e1 e2 e3
        refine ⟨u', r', ?_⟩
        rcases q with ⟨k, e⟩ | ⟨k, c, e, z⟩
        · refine .inl ⟨k, ?_⟩
          have : y ≠ x := fun e => hj (y5l hN e1 (e ▸ hi))
          simp [this, e]
        · exact .inr ⟨k, c, e, z.sameBut hs (cne y c e)⟩
    · obtain ⟨w', z⟩ := I.cell y c e
      exact ⟨w', z.sameBut hs (cne y c e)⟩
    · obtain ⟨e, n, ne, nf, d⟩ := I.pin p hp
      exact ⟨(hs.2 p.1 ne).trans e, n, ne, nf, d⟩
  · have hfn : X.fn x = true := by
      rcases hf with z | z
      · exact z
      · rw [z] at hk; cases hk
    obtain ⟨c, hc⟩ := I.ok.has x (.inl hk)
    obtain ⟨w', z⟩ := I.cell x c hc
    refine wpAny_storeName_cell I.ok.kind hk hc z (fun h' hc' hs => ?_)
    obtain ⟨oc, hoc, hocd⟩ := id z
    refine h { s with heap := h' } ⟨I.ok, I.os, I.bare, ⟨fun b o e n hb hx => ?_, fun b o e n hb hx => ?_, I.base.free, fun b o e hx => ?_, I.base.tups, I.base.frzs, I.base.tbls⟩, ⟨m, hn.sameBut hs (Ne.symm (cne x c hc)), fun j y v' e1 e2 e3 => ?_⟩, fun y c' e => ?_, I.free, I.freeC, fun p hp => ?_, tracked ⟨oc, hoc, I.freeC x c hc⟩ hs, by simpa using I.len⟩ ⟨c, hs, .inr hc⟩
    · exact (hs.2 b (Nat.ne_of_lt (Nat.lt_of_lt_of_le (Heap.lt_size e) (I.ok.cab x c hfn hc)))).trans (I.base.keep b o e n hb hx)
    · obtain ⟨sl, e1⟩ := I.base.slot b o e n hb hx
      exact ⟨sl, (hs.2 b (Nat.ne_of_lt (Nat.lt_of_lt_of_le (Heap.lt_size e) (I.ok.cab x c hfn hc)))).trans e1⟩
    · obtain ⟨o', e1⟩ := I.base.there b o e hx
      exact ⟨o', (hs.2 b (Nat.ne_of_lt (Nat.lt_of_lt_of_le (Heap.lt_size e) (I.ok.cab x c hfn hc)))).trans e1⟩
    · by_cases hj : j = i
      · subst hj
        rw [hi] at e1; cases e1
        rw [List.getElem?_set_self hiσ] at e2
        cases e2
        exact ⟨u, r, .inr ⟨.inl hk, c, hc, hc'⟩⟩
      · rw [List.getElem?_set_ne (Ne.symm hj)] at e2
        obtain ⟨u', r', q⟩ := hl j y v' e1 e2 e3
        refine ⟨u', r', ?_⟩
        rcases q with q | ⟨k, c', e, z'⟩
        · exact .inl q
        · refine .inr ⟨k, c', e, z'.sameBut hs ?_⟩
          rintro rfl
          exact hj (y5l hN e1 (I.ok.inj _ _ _ e hc ▸ hi))
    · by_cases hcc : c' = c
      · subst hcc; exact ⟨_, hc'⟩
      · obtain ⟨w2, z2⟩ := I.cell y c' e
        exact ⟨w2, z2.sameBut hs hcc⟩
    · obtain ⟨e, n, ne, nf, d⟩ := I.pin p hp
      refine ⟨(hs.2 p.1 ?_).trans e, n, ne, nf, d⟩
      intro q
      rw [q, hoc] at e
      have q' : oc = p.2 := Option.some.inj e
      exact d w' (by rw [<- q']; exact hocd)
theorem y4w {M : Model} {A : Around} {E : Value -> Shared -> Prop} {i : Nat} {x : Str} {v : V} {u : Value} {Q : Unit -> Shared -> Prop} (I : Inv X pins σ H s) (hN : X.N.Nodup) (hi : X.N[i]? = some x) (hx : Loc X.env.scope x) (r : x3r v u)
    (h : ∀ s', Inv X pins (σ.set i (some v)) H s' -> Q () s') (hf : X.fn x = true \/ X.env.scope.names.lookup x = some .local := by first | exact .inl rfl | exact .inr rfl | assumption) : wpAny M A (storeName X.env x u) Q E s :=
  y2e I hN hi hx r (fun s' I' _ => h s' I') hf
theorem Inv.call' {s' : Shared} {ch : List Addr} (I : Inv X pins σ H s) (ho : s'.os = s.os) (u : Un (frs X.stack) ch H H' s.heap s'.heap) (hok : HOk X.prog X.w H' s'.heap) (hg : AllBare s'.gens)
    (hch : ∀ b ∈ ch, (b ∈ X.ex \/ X.s₀.heap.objs.size <= b) /\ b ≠ X.env.locals /\ (∀ x c, X.env.cells.lookup x = some c -> c ≠ b) /\ ∀ p ∈ X.pn ++ pins, p.1 ≠ b) : Inv X pins σ H' s' := by
  obtain ⟨h', g', d', t', o'⟩ := s'
  have e : o' = s.os := ho
  subst e
  exact I.call (g' := g') (t' := t') (d' := d') u hok hg hch
end
noncomputable abbrev XK := Value -> Option Addr -> Hp -> Prop
noncomputable abbrev St := List (Option V)
noncomputable abbrev VK := V -> Hp -> Prop
noncomputable abbrev TE := St -> Hp -> VK -> Prop
noncomputable abbrev TT := St -> Hp -> (Bool -> Hp -> Prop) -> Prop
noncomputable abbrev TA := St -> Hp -> (List V -> Hp -> Prop) -> Prop
structure Ends where
  nx : St -> Hp -> Prop
  rt : VK
  bk : St -> Hp -> Prop := fun _ _ => False
  ct : St -> Hp -> Prop := fun _ _ => False
noncomputable abbrev TS := Ends -> St -> Hp -> Prop
noncomputable def EP (X : Cx) (pins : List (Addr × Obj)) (σ : St) (Q : VK) (u : Value) (s' : Shared) : Prop := ∃ v H', Inv X pins σ H' s' /\ x3r v u /\ Q v H'
noncomputable def TP (X : Cx) (pins : List (Addr × Obj)) (σ : St) (Q : Bool -> Hp -> Prop) (b : Bool) (s' : Shared) : Prop := ∃ H', Inv X pins σ H' s' /\ Q b H'
noncomputable def AP (X : Cx) (pins : List (Addr × Obj)) (σ : St) (Q : List V -> Hp -> Prop) (us : List Value) (s' : Shared) : Prop := ∃ vs H', Inv X pins σ H' s' /\ x2p vs us /\ Q vs H'
noncomputable def SP (X : Cx) (pins : List (Addr × Obj)) (D : Ends) (f : Flow) (s' : Shared) : Prop :=
  match f with
  | .next => ∃ σ' H', Inv X pins σ' H' s' /\ D.nx σ' H'
  | .brk => ∃ σ' H', Inv X pins σ' H' s' /\ D.bk σ' H'
  | .cont => ∃ σ' H', Inv X pins σ' H' s' /\ D.ct σ' H'
  | .ret u => ∃ v σ' H', Inv X pins σ' H' s' /\ x3r v u /\ D.rt v H'
noncomputable def PE (X : Cx) (e : Expr) (t : TE) : Prop :=
  ∀ (pins : List (Addr × Obj)) (s : Shared) (σ : St) (H : Hp) (Q : VK), Inv X pins σ H s -> t σ H Q -> wpAny (model X.prog X.w) X.A (eval e X.env) (EP X pins σ Q) X.xe s
noncomputable def PT (X : Cx) (e : Expr) (t : TT) : Prop :=
  ∀ (pins : List (Addr × Obj)) (s : Shared) (σ : St) (H : Hp) (Q : Bool -> Hp -> Prop), Inv X pins σ H s -> t σ H Q -> wpAny (model X.prog X.w) X.A (isTrue e X.env (eval e X.env)) (TP X pins σ Q) X.xe s
noncomputable def PW (X : Cx) (e : Expr) (t : TT) : Prop :=
  ∀ (whole : Sem Value) (pins : List (Addr × Obj)) (s : Shared) (σ : St) (H : Hp) (Q : Bool -> Hp -> Prop), Inv X pins σ H s -> t σ H Q -> wpAny (model X.prog X.w) X.A (isTrue e X.env whole) (TP X pins σ Q) X.xe s
theorem PW.pt {X : Cx} {e : Expr} {t : TT} (h : PW X e t) : PT X e t := h _
noncomputable def PA (X : Cx) (es : List Expr) (t : TA) : Prop :=
  ∀ (pos : Pos) (pins : List (Addr × Obj)) (s : Shared) (σ : St) (H : Hp) (Q : List V -> Hp -> Prop), Inv X pins σ H s -> t σ H Q -> wpAny (model X.prog X.w) X.A (spliced (backTo pos (starEach es X.env))) (AP X pins σ Q) X.xe s
noncomputable def PS (X : Cx) (st : Stmt) (t : TS) : Prop :=
  ∀ (pins : List (Addr × Obj)) (s : Shared) (σ : St) (H : Hp) (D : Ends), Inv X pins σ H s -> t D σ H -> wpAny (model X.prog X.w) X.A (exec st X.env) (SP X pins D) X.xe s
noncomputable def PSs (X : Cx) (st : List Stmt) (t : TS) : Prop :=
  ∀ (pins : List (Addr × Obj)) (s : Shared) (σ : St) (H : Hp) (D : Ends), Inv X pins σ H s -> t D σ H -> wpAny (model X.prog X.w) X.A (execs st X.env) (SP X pins D) X.xe s
theorem thn {α : Type} {t : Sem α} {Q Q' : α -> Shared -> Prop} {M : Model} {A : Around} {E : Value -> Shared -> Prop} {s : Shared} (h : wpAny M A t Q E s) (hQ : ∀ a s, Q a s -> Q' a s) : wpAny M A t Q' E s := wpAny_mono h hQ fun _ _ x => x
section
variable {X : Cx}
noncomputable def x9j (i : Nat) : TE := fun σ H Q => ∃ v, σ[i]? = some (some v) /\ Q v H
noncomputable def tC (v : V) : TE := fun _ H Q => Q v H
theorem z72 {i : Nat} {x : Str} {pos : Pos} (hN : X.N[i]? = some x) (hv : Vis X.env.scope x) (hd : (x == ("__debug__" : Str)) = false := by decide) (hcd : (x == ("__classdict__" : Str)) = false := by decide) : PE X (.Name x pos) (x9j i) := by
  intro pins s σ H Q I h
  obtain ⟨v, e, h⟩ := h
  obtain ⟨m, hn, hl⟩ := I.loc
  obtain ⟨u, r, l⟩ := hl i x v hN e hv
  have fin : EP X pins σ Q u s := ⟨v, H, I, r, h⟩
  rcases l with ⟨hk, hm⟩ | ⟨hk, c, hc, hcell⟩
  · exact wpAny_Name (wpAny_loadName_local I.ok.kind hk hn hm fin) hd
  · rcases hk with hk | hk
    · exact wpAny_Name (wpAny_loadName_cell I.ok.kind hk hc hcell fin) hd
    · exact wpAny_Name (wpAny_loadName_free I.ok.kind hk hc hcell fin hcd) hd
theorem z1i {i j pos} : PE X (.Constant (.int i) j pos) (tC (.int i)) := fun _ _ _ H _ I h => wpAny_Constant_int ⟨.int i, H, I.tok _, ⟨_, rfl⟩, h⟩
theorem z9j {b j pos} : PE X (.Constant (.bool b) j pos) (tC (.bl b)) := fun _ _ _ H _ I h => Constant_bool ⟨.bl b, H, I, rfl, h⟩
theorem z5m {j pos} : PE X (.Constant .none j pos) (tC .non) := fun _ _ _ H _ I h => Constant_none ⟨.non, H, I, rfl, h⟩
theorem y7l {x j pos} : PE X (.Constant (.str x) j pos) (tC (.str x)) := fun _ _ _ H _ I h => Calls.Constant_str ⟨.str x, H, I.tok _, ⟨_, rfl⟩, h⟩
noncomputable def Gl (X : Cx) (x : Str) : Prop := X.env.kindOf x = some .globalImplicit
theorem z34 {E : Value -> Shared -> Prop} {pins : List (Addr × Obj)} {s : Shared} {σ : St} {H : Hp} {x : Str} {u : Value} {pos : Pos} {Q : Value -> Shared -> Prop} (I : Inv X pins σ H s) (hg : Gl X x) (hm : X.mg x = some u) (h : Q u s)
    (hd : (x == ("__debug__" : Str)) = false := by decide) : wpAny (model X.prog X.w) X.A (eval (.Name x pos) X.env) Q E s :=
  Calls.Name_function_global I.ok.kind hg (Calls.loadGlobal_global (by rw [I.ok.glob]; exact I.mod.glob.keeps I.bk) hm h) hd
theorem y0m {E : Value -> Shared -> Prop} {pins : List (Addr × Obj)} {s : Shared} {σ : St} {H : Hp} {x : Str} {u : Value} {pos : Pos} {Q : Value -> Shared -> Prop} (I : Inv X pins σ H s) (hg : Gl X x) (hm : X.mg x = none) (hv : bootBuiltins x = some u) (h : Q u s)
    (hn : x ≠ "__name__" := by decide) (hd : (x == ("__debug__" : Str)) = false := by decide) : wpAny (model X.prog X.w) X.A (eval (.Name x pos) X.env) Q E s := by
  obtain ⟨mb, h1, h2⟩ := I.mod.blt
  exact Calls.Name_function_global I.ok.kind hg (Calls.loadGlobal_builtin (by rw [I.ok.glob]; exact I.mod.glob.keeps I.bk) hm (by rw [I.ok.blt]; exact h1.keeps I.bk) ((h2 x hn).trans hv) h) hd
theorem z4q {x : Str} {v : V} {u : Value} {pos : Pos} (hg : Gl X x) (hm : X.mg x = none) (hv : bootBuiltins x = some u) (r : x3r v u) (hn : x ≠ "__name__" := by decide) (hd : (x == ("__debug__" : Str)) = false := by decide) : PE X (.Name x pos) (tC v) :=
  fun _ _ _ H _ I h => y0m I hg hm hv ⟨v, H, I, r, h⟩ hn hd
variable {a b : Expr} {ta tb : TE} {pos : Pos}
variable {tA tB' : TT} {x2b : List Expr}
noncomputable def j0s (t u : TT) : TT := fun σ H Q => t σ H fun c H1 => if c = true then u σ H1 Q else Q false H1
noncomputable def tOr (t u : TT) : TT := fun σ H Q => t σ H fun c H1 => if c = true then Q true H1 else u σ H1 Q
noncomputable def j0z (t : TT) : TT := fun σ H Q => t σ H fun c H1 => Q (!c) H1
theorem z4j (ha : PT X a tA) : PW X (.BoolOp .And [a] pos) tA := by
  intro wh pins s σ H Q I h
  refine isTrue_and (thn (ha pins s σ H Q I h) fun c s1 e => ?_)
  cases c with
  | true => exact isTrue_and_nil e
  | false => exact e
theorem z59 (ha : PT X a tA) : PW X (.BoolOp .Or [a] pos) tA := by
  intro wh pins s σ H Q I h
  refine isTrue_or (thn (ha pins s σ H Q I h) fun c s1 e => ?_)
  cases c with
  | false => exact isTrue_or_nil e
  | true => exact e
theorem z7d (ha : PT X a tA) (hb : PW X (.BoolOp .And (b :: x2b) pos) tB') : PW X (.BoolOp .And (a :: b :: x2b) pos) (j0s tA tB') := by
  intro wh pins s σ H Q I h
  refine isTrue_and (thn (ha pins s σ H _ I h) fun c s1 hh0 => ?_)
  obtain ⟨H1, I1, q1⟩ := hh0
  cases c with
  | true => exact hb wh pins s1 σ H1 Q I1 q1
  | false => exact ⟨H1, I1, q1⟩
theorem z9g (ha : PT X a tA) (hb : PW X (.BoolOp .Or (b :: x2b) pos) tB') : PW X (.BoolOp .Or (a :: b :: x2b) pos) (tOr tA tB') := by
  intro wh pins s σ H Q I h
  refine isTrue_or (thn (ha pins s σ H _ I h) fun c s1 hh0 => ?_)
  obtain ⟨H1, I1, q1⟩ := hh0
  cases c with
  | true => exact ⟨H1, I1, q1⟩
  | false => exact hb wh pins s1 σ H1 Q I1 q1
theorem z7y (ha : PT X a tA) : PT X (.UnaryOp .Not a pos) (j0z tA) := by
  intro pins s σ H Q I h
  exact isTrue_not (ha pins s σ H (fun c H1 => Q (!c) H1) I h)
noncomputable def z9y (ta tb : TE) : TE := fun σ H Q => ta σ H fun x H1 => ∃ c, x = .bl c /\ if c = true then tb σ H1 Q else Q (.bl false) H1
noncomputable def z99 (ta : TE) : TE := fun σ H Q => ta σ H fun x H1 => ∃ c, x = .bl c /\ Q (.bl (!c)) H1
theorem z6p {op} {t : TE} (h : PE X a t) : PE X (.BoolOp op [a] pos) t := fun pins s σ H Q I hw => BoolOp_one (h pins s σ H Q I hw)
theorem z78 (ha : PE X a ta) (hb : PE X (.BoolOp .And (b :: x2b) pos) tb) : PE X (.BoolOp .And (a :: b :: x2b) pos) (z9y ta tb) := by
  intro pins s σ H Q I h
  refine BoolOp_and (thn (ha pins s σ H _ I h) fun v s1 hh0 => ?_)
  obtain ⟨x, H1, I1, r1, q1⟩ := hh0
  obtain ⟨c, rfl, q1⟩ := q1
  cases r1
  refine wpAny_truthy_bool ?_
  cases c with
  | true => exact hb pins s1 σ H1 Q I1 q1
  | false => exact ⟨.bl false, H1, I1, rfl, q1⟩
theorem z6l (ha : PE X a ta) : PE X (.UnaryOp .Not a pos) (z99 ta) := by
  intro pins s σ H Q I h
  refine UnaryOp_ (thn (ha pins s σ H _ I h) fun v s1 hh0 => ?_)
  obtain ⟨x, H1, I1, r1, q1⟩ := hh0
  obtain ⟨c, rfl, q1⟩ := q1
  cases r1
  exact not_of (wpAny_truthy_bool ⟨.bl (!c), H1, I1, rfl, q1⟩)
noncomputable def tIf (t : TT) (ta tb : TE) : TE := fun σ H Q => t σ H fun c H1 => if c = true then ta σ H1 Q else tb σ H1 Q
theorem y94 {c : Expr} (hc : PT X c tA) (ha : PE X a ta) (hb : PE X b tb) : PE X (.IfExp c a b pos) (tIf tA ta tb) := by
  intro pins s σ H Q I h
  refine wpAny_IfExp (thn (hc pins s σ H _ I h) fun d s1 hh0 => ?_)
  obtain ⟨H1, I1, q1⟩ := hh0
  cases d with
  | true => exact ha pins s1 σ H1 Q I1 q1
  | false => exact hb pins s1 σ H1 Q I1 q1
end
noncomputable def SqL (K : PySem.W.Frag) (H : Hp) (a : Addr) (xs : List V) : Prop :=
  Rd H a (.lst xs) \/
    ∃ (o : Obj) (its : Array Value) (n : Nat), K.lookup a = some o /\ o.cls = .type "list" /\ o.dict = none /\ o.data = .seq its n /\ its.size <= sizeLine /\ x2p xs its.toList
noncomputable def SqT (K : PySem.W.Frag) (H : Hp) (a : Addr) (xs : List V) : Prop :=
  Rd H a (.tup xs) \/
    ∃ (o : Obj) (its : Array Value) (n : Nat), K.lookup a = some o /\ o.cls = .type "tuple" /\ o.data = .seq its n /\ its.size <= sizeLine /\ x2p xs its.toList
noncomputable def j17 : Value -> Option V
  | .none => some .non
  | .bool b => some (.bl b)
  | .int i _ => some (.int i)
  | .str x _ => some (.str x)
  | .bytes b _ => some (.byt b)
  | .float b _ => some (.flt b)
  | .ref a => some (.ref a)
  | .type n => some (.ty n)
  | _ => none
theorem x3r.abs {x : V} {u : Value} (r : x3r x u) : j17 u = some x := by
  cases x with
  | non => cases r; rfl
  | bl _ => cases r; rfl
  | int _ => obtain ⟨t, rfl⟩ := r; rfl
  | str _ => obtain ⟨t, rfl⟩ := r; rfl
  | byt _ => obtain ⟨t, rfl⟩ := r; rfl
  | flt _ => obtain ⟨t, rfl⟩ := r; rfl
  | ref _ => cases r; rfl
  | ty _ => cases r; rfl
theorem x3r.inj {x y : V} {u : Value} (r : x3r x u) (q : x3r y u) : x = y := Option.some.inj (r.abs.symm.trans q.abs)
theorem x2p.inj : ∀ {xs ys : List V} {us : List Value}, x2p xs us -> x2p ys us -> xs = ys
  | _, _, _, .nil, .nil => rfl
  | _, _, _, .cons r t, .cons r' t' => by rw [r.inj r', x2p.inj t t']
section
variable {X : Cx} {pins : List (Addr × Obj)} {σ : St} {H : Hp} {s : Shared} {a : Addr} {xs ys : List V}
theorem SqL.of {K : PySem.W.Frag} (h : H a = some (.lst xs)) : SqL K H a xs := .inl (.inl h)
theorem SqT.of {K : PySem.W.Frag} (h : H a = some (.tup xs)) : SqT K H a xs := .inl (.inl h)
theorem Inv.list (I : Inv X pins σ H s) (h : SqL X.K H a xs) : ∃ its : List Value, x2p xs its /\ PlainL s.heap a its.toArray /\ xs.length <= sizeLine := by
  rcases h with h | ⟨o, its, n, hk, hc, hd, hs, hz, r⟩
  · obtain ⟨z, its, n, r, e⟩ := h.ok I.hok
    exact ⟨its, r, ⟨_, n, e, rfl, rfl, rfl⟩, z⟩
  · refine ⟨its.toList, r, ⟨o, n, I.kIn a o hk, hc, hd, by simpa using hs⟩, ?_⟩
    have e := r.length
    simp only [Array.length_toList] at e
    omega
theorem Inv.tuple (I : Inv X pins σ H s) (h : SqT X.K H a xs) : ∃ its : List Value, x2p xs its /\ IsTup s.heap a its.toArray /\ xs.length <= sizeLine := by
  rcases h with h | ⟨o, its, n, hk, hc, hs, hz, r⟩
  · obtain ⟨z, its, r, p⟩ := h.ok I.hok
    exact ⟨its, r, p.tup, z⟩
  · refine ⟨its.toList, r, ⟨o, I.kIn a o hk, hc, n, by simpa using hs⟩, ?_⟩
    have e := r.length
    simp only [Array.length_toList] at e
    omega
theorem Inv.list_inj (I : Inv X pins σ H s) (h : SqL X.K H a xs) (h' : SqL X.K H a ys) : xs = ys := by
  obtain ⟨its, r, ⟨o, n, e, _, _, d⟩, _⟩ := I.list h
  obtain ⟨its', r', ⟨o', n', e', _, _, d'⟩, _⟩ := I.list h'
  rw [e] at e'; cases e'
  rw [d] at d'
  injection d' with d1 _
  have : its = its' := by simpa using congrArg Array.toList d1
  subst this
  exact r.inj r'
theorem Inv.tuple_inj (I : Inv X pins σ H s) (h : SqT X.K H a xs) (h' : SqT X.K H a ys) : xs = ys := by
  obtain ⟨its, r, ⟨o, e, _, n, d⟩, _⟩ := I.tuple h
  obtain ⟨its', r', ⟨o', e', _, n', d'⟩, _⟩ := I.tuple h'
  rw [e] at e'; cases e'
  rw [d] at d'
  injection d' with d1 _
  have : its = its' := by simpa using congrArg Array.toList d1
  subst this
  exact r.inj r'
end
noncomputable abbrev Cx.wish (X : Cx) (E : Value -> Shared -> Prop) : Cx := { X with xe := E }
noncomputable abbrev Cx.nox (X : Cx) : Cx := X.wish fun _ _ => False
theorem Cx.Ok.wish {X : Cx} (ok : X.Ok) (E : Value -> Shared -> Prop) : (X.wish E).Ok :=
  ⟨ok.mod, ok.kind, ok.glob, ok.blt, ok.above, ok.inj, ok.has, ok.cab, ok.hd, ok.frames, ok.stk, ok.exf, ok.bs, ok.bsz, ok.noex, ok.exfs, ok.funs, ok.frf⟩
theorem Cx.Ok.unwish {X : Cx} {E : Value -> Shared -> Prop} (ok : (X.wish E).Ok) : X.Ok :=
  ⟨ok.mod, ok.kind, ok.glob, ok.blt, ok.above, ok.inj, ok.has, ok.cab, ok.hd, ok.frames, ok.stk, ok.exf, ok.bs, ok.bsz, ok.noex, ok.exfs, ok.funs, ok.frf⟩
section
variable {X : Cx} {pins : List (Addr × Obj)} {σ : St} {H : Hp} {s : Shared} {E : Value -> Shared -> Prop}
theorem Inv.wish (I : Inv X pins σ H s) (E : Value -> Shared -> Prop) : Inv (X.wish E) pins σ H s := ⟨I.ok.wish E, I.os, I.bare, I.base, I.loc, I.cell, I.free, I.freeC, I.pin, I.hok, I.len⟩
theorem Inv.unwish (I : Inv (X.wish E) pins σ H s) : Inv X pins σ H s := ⟨I.ok.unwish, I.os, I.bare, I.base, I.loc, I.cell, I.free, I.freeC, I.pin, I.hok, I.len⟩
theorem SP.unwish {D : Ends} {f : Flow} {s' : Shared} (h : SP (X.wish E) pins D f s') : SP X pins D f s' := by
  cases f with
  | next => obtain ⟨σ', H', I, q⟩ := h; exact ⟨σ', H', I.unwish, q⟩
  | brk => obtain ⟨σ', H', I, q⟩ := h; exact ⟨σ', H', I.unwish, q⟩
  | cont => obtain ⟨σ', H', I, q⟩ := h; exact ⟨σ', H', I.unwish, q⟩
  | ret u => obtain ⟨v, σ', H', I, r, q⟩ := h; exact ⟨v, σ', H', I.unwish, r, q⟩
theorem PSs.nox {st : List Stmt} {t : TS} (h : PSs X.nox st t) : PSs X st t := fun pins s σ H D I hw =>
  wpAny_mono (h pins s σ H D (I.wish _) hw) (fun _ _ q => q.unwish) fun _ _ z => False.elim z
end
section
variable {X : Cx} {st : Stmt} {x2b : List Stmt} {t u : TS} {e : Expr} {te : TE} {pos : Pos}
noncomputable def z9n : TS := fun D σ H => D.nx σ H
noncomputable def j0x (t u : TS) : TS := fun D σ H => t { D with nx := u D } σ H
theorem z32 : PSs X [] z9n := fun _ _ σ H _ I h => wpAny_execs_nil ⟨σ, H, I, h⟩
theorem z0a (h1 : PS X st t) (h2 : PSs X x2b u) : PSs X (st :: x2b) (j0x t u) := by
  intro pins s σ H D I h
  refine wpAny_execs_cons (thn (h1 pins s σ H { D with nx := u D } I h) fun f s1 q => ?_)
  cases f with
  | next =>
    obtain ⟨σ', H', I', q⟩ := q
    exact h2 pins s1 σ' H' D I' q
  | ret v => exact q
  | brk => exact q
  | cont => exact q
theorem z2q (h1 : PS X st t) : PSs X [st] t := by
  intro pins s σ H D I h
  refine wpAny_execs_cons (thn (h1 pins s σ H D I h) fun f s1 q => ?_)
  cases f with
  | next => exact wpAny_execs_nil q
  | ret v => exact q
  | brk => exact q
  | cont => exact q
theorem Inv.quiet {pins : List (Addr × Obj)} {σ : St} {H : Hp} {s : Shared} (I : Inv X pins σ H s) : interactive X.env = false := by simp [interactive, I.ok.kind]
noncomputable def j02 (te : TE) : TS := fun D σ H => te σ H fun _ H1 => D.nx σ H1
theorem z2x (he : PE X e te) (hs : swapsWith e none pos.line X.env = pure false := by rfl) : PS X (.Expr e pos) (j02 te) := by
  intro pins s σ H D I h
  exact wpAny_Expr_any (thn (he pins s σ H _ I h) fun v s1 ⟨x, H1, I1, r1, q1⟩ => ⟨σ, H1, I1, q1⟩) I.quiet hs
noncomputable def j1d (te : TE) : TS := fun D σ H => te σ H D.rt
theorem z71 (he : PE X e te) : PS X (.Return (some e) pos) (j1d te) := by
  intro pins s σ H D I h
  exact wpAny_Return_some (thn (he pins s σ H _ I h) fun v s1 ⟨x, H1, I1, r1, q1⟩ => ⟨x, σ, H1, I1, r1, q1⟩)
noncomputable def j1e (c : TT) (t u : TS) : TS := fun D σ H => c σ H fun b H1 => if b = true then t D σ H1 else u D σ H1
theorem z9m {c : Expr} {a b : List Stmt} {tc : TT} (hc : PT X c tc) (ha : PSs X a t) (hb : PSs X b u) : PS X (.If c a b pos) (j1e tc t u) := by
  intro pins s σ H D I h
  refine wpAny_If (thn (hc pins s σ H _ I h) fun d s1 hh0 => ?_)
  obtain ⟨H1, I1, q1⟩ := hh0
  cases d with
  | true => exact ha pins s1 σ H1 D I1 q1
  | false => exact hb pins s1 σ H1 D I1 q1
noncomputable def z8c : TS := fun _ _ _ => False
theorem z0v : PS X st z8c := fun _ _ _ _ _ _ h => h.elim
end
noncomputable abbrev TG := V -> St -> Hp -> (St -> Hp -> Prop) -> Prop
noncomputable abbrev TGs := List V -> St -> Hp -> (St -> Hp -> Prop) -> Prop
noncomputable def PG (X : Cx) (target : Expr) (t : TG) : Prop :=
  ∀ (pins : List (Addr × Obj)) (s : Shared) (σ : St) (H : Hp) (v : V) (u : Value) (Q : St -> Hp -> Prop), Inv X pins σ H s -> x3r v u -> t v σ H Q ->
    wpAny (model X.prog X.w) X.A (assign target X.env u) (fun _ s' => ∃ σ' H', Inv X pins σ' H' s' /\ Q σ' H') X.xe s
noncomputable def PGs (X : Cx) (ts : List Expr) (t : TGs) : Prop :=
  ∀ (pins : List (Addr × Obj)) (s : Shared) (σ : St) (H : Hp) (vs : List V) (us : List Value) (Q : St -> Hp -> Prop), Inv X pins σ H s -> x2p vs us -> t vs σ H Q ->
    wpAny (model X.prog X.w) X.A (assignInOrder ((assignEach ts X.env).map (·.2)) us) (fun _ s' => ∃ σ' H', Inv X pins σ' H' s' /\ Q σ' H') X.xe s
noncomputable abbrev z96 := V -> V -> V -> Hp -> (Hp -> Prop) -> Prop
noncomputable def j0o (X : Cx) (t : z96) : Prop :=
  ∀ (pins : List (Addr × Obj)) (s : Shared) (σ : St) (H : Hp) (o i v : V) (ov iv u : Value) (Q : Hp -> Prop), Inv X pins σ H s -> x3r o ov -> x3r i iv -> x3r v u -> t o i v H Q ->
    wpAny (model X.prog X.w) X.A (setItem ov iv u) (fun _ s' => ∃ H', Inv X pins σ H' s' /\ Q H') X.xe s
section
variable {X : Cx} {pos : Pos}
noncomputable def z3o (i : Nat) : TG := fun v σ H Q => Q (σ.set i (some v)) H
theorem z3j {i : Nat} {x : Str} (hN : X.N.Nodup) (hi : X.N[i]? = some x) (hx : Loc X.env.scope x) (hf : X.fn x = true \/ X.env.scope.names.lookup x = some .local := by first | exact .inl rfl | exact .inr rfl | assumption) : PG X (.Name x pos) (z3o i) := by
  intro pins s σ H v u Q I r h
  exact wpAny_assign_Name (y4w I hN hi hx r (fun s' I' => ⟨_, H, I', h⟩) hf)
noncomputable def j1l : TGs := fun vs σ H Q => vs = [] /\ Q σ H
noncomputable def z9v (t : TG) (u : TGs) : TGs := fun vs σ H Q => ∃ v r, vs = v :: r /\ t v σ H fun σ' H' => u r σ' H' Q
theorem z3i : PGs X [] j1l := by
  intro pins s σ H vs us Q I r h
  obtain ⟨e, h⟩ := h
  subst e
  cases r
  exact assignInOrder_nil ⟨σ, H, I, h⟩
theorem z16 {e : Expr} {es : List Expr} {t : TG} {u : TGs} (h1 : PG X e t) (h2 : PGs X es u)
    (hs : (assignEach (e :: es) X.env).map (·.2) = assign e X.env :: (assignEach es X.env).map (·.2) := by rfl) : PGs X (e :: es) (z9v t u) := by
  intro pins s σ H vs us Q I r h
  obtain ⟨v, vr, e1, h⟩ := h
  subst e1
  cases r with
  | cons r rr =>
    rw [hs]
    refine assignInOrder_cons (thn (h1 pins s σ H _ _ _ I r h) fun _ s1 hh0 => ?_)
    obtain ⟨σ1, H1, I1, q1⟩ := hh0
    exact h2 pins s1 σ1 H1 _ _ Q I1 rr q1
noncomputable def j13 (K : PySem.W.Frag) (n : Nat) (t : TGs) : TG := fun v σ H Q => ∃ a xs, v = .ref a /\ SqT K H a xs /\ xs.length = n /\ t xs σ H Q
theorem z69 {es : List Expr} {k : Nat} {t : TGs} {n : Nat} (hc : X.calm = true) (h : PGs X es t)
    (hn : (assignEach es X.env).length = n := by rfl) (hst : (assignEach es X.env).findIdx? (·.1) = none := by rfl) : PG X (.Tuple es k pos) (j13 X.K n t) := by
  intro pins s σ H v u Q I r hw
  obtain ⟨a, xs, e1, hq, hl, hw⟩ := hw
  subst e1
  cases r
  obtain ⟨its, rv, ht, hz⟩ := I.tuple hq
  refine assign_Tuple_tuple (I.ok.hd hc) ht (by simp [hn, <- hl, rv.length]) hst fun h' hx => ?_
  have I1 : Inv X pins σ H { s with heap := h' } := I.kept (t' := s.toks) fun b o e => hx b o (Nat.ne_of_lt (Heap.lt_size e)) e
  exact h pins _ σ H xs _ Q I1 (by simpa using rv) hw
noncomputable def j1h (to ti : TE) (t : z96) : TG := fun v σ H Q => to σ H fun o H1 => ti σ H1 fun i H2 => t o i v H2 fun H3 => Q σ H3
theorem z1s {o i : Expr} {to ti : TE} {t : z96} (ho : PE X o to) (hi : PE X i ti) (hs : j0o X t)
    (ha : ∀ v, assign (.Subscript o i pos) X.env v = (do
      let ov <- holding [v] (eval o X.env)
      let iv <- holding [v, ov] (eval i X.env)
      standAt pos
      holding [v, ov, iv] (setItem ov iv v)
      release [v, ov, iv] []) := by intro _; rfl) : PG X (.Subscript o i pos) (j1h to ti t) := by
  intro pins s σ H v u Q I r h
  rw [ha]
  refine wpAny_bind (wpAny_holding (thn (ho pins s σ H _ I h) fun ov s1 hh0 => ?_))
  obtain ⟨x, H1, I1, r1, q1⟩ := hh0
  refine wpAny_bind (wpAny_holding (thn (hi pins s1 σ H1 _ I1 q1) fun iv s2 hh0 => ?_))
  obtain ⟨y, H2, I2, r2, q2⟩ := hh0
  refine wpAny_bind (wpAny_standAt (wpAny_bind (wpAny_holding (thn (hs pins s2 σ H2 x y v ov iv u _ I2 r1 r2 r q2) fun _ s3 hh0 => ?_))))
  obtain ⟨H3, I3, q3⟩ := hh0
  exact wpAny_release ⟨σ, H3, I3, q3⟩
noncomputable def j0b (te : TE) (g : TG) : TS := fun D σ H => te σ H fun x H1 => g x σ H1 D.nx
theorem z1p {tg e : Expr} {te : TE} {g : TG} (he : PE X e te) (hg : PG X tg g) (hs : swapsWithSole [tg] e pos.line X.env = pure false := by rfl) (hw : swappedStores [tg] e X.env = pure none := by rfl)
    (h1 : (assignEach [tg] X.env).map (·.2) = [assign tg X.env] := by rfl) : PS X (.Assign [tg] e pos) (j0b te g) := by
  intro pins s σ H D I h
  refine wpAny_Assign_stores (thn (he pins s σ H _ I h) fun v s1 ⟨x, H1, I1, r1, q1⟩ => ?_) hs hw
  rw [h1]
  exact thn (hg pins s1 σ H1 x v _ I1 r1 q1) fun _ s2 q => q
theorem z60 {i : Nat} {x : Str} {e : Expr} {te : TE} {pos' : Pos} (hN : X.N.Nodup) (hi : X.N[i]? = some x) (hx : Loc X.env.scope x) (he : PE X e te) (hs : swapsWith e (some (.Name x pos')) pos.line X.env = pure false := by rfl) (hf : X.fn x = true \/ X.env.scope.names.lookup x = some .local := by first | exact .inl rfl | exact .inr rfl | assumption) :
    PS X (.Assign [.Name x pos'] e pos) (j0b te (z3o i)) := by
  intro pins s σ H D I h
  refine wpAny_Assign_Name (thn (he pins s σ H _ I h) fun v s1 ⟨y, H1, I1, r1, q1⟩ => ?_) hs
  exact y4w I1 hN hi hx r1 (fun s2 I2 => ⟨_, H1, I2, q1⟩) hf
end
section
variable {X : Cx} {pos : Pos}
noncomputable def z8e (c : TT) (tb : TS) : TS := fun D σ H => ∃ W : Nat -> St -> Hp -> Prop, (∃ m, W m σ H) /\ ∀ m σ H, W m σ H ->
  c σ H fun b H1 => if b = true then ∃ N : St -> Hp -> Prop, (∀ σ' H', N σ' H' -> ∃ m', m' < m /\ W m' σ' H') /\ tb { D with nx := N, ct := N, bk := D.nx } σ H1 else D.nx σ H1
theorem y9c {c : Expr} {body : List Stmt} {tc : TT} {tb : TS} (hp : PassesOwn (model X.prog X.w) X.A X.env X.xe) (hc : PT X c tc) (hb : PSs X body tb) : PS X (.While c body [] pos) (z8e tc tb) := by
  intro pins s σ H D I h
  obtain ⟨W, ⟨m0, w0⟩, turn⟩ := h
  refine wpAny_While (codeAny_whileLoop (fun n s' => ∃ σ' H', Inv X pins σ' H' s' /\ W n σ' H') ?_ m0 ⟨σ, H, I, w0⟩)
  rintro n s1 ⟨σ1, H1, I1, w1⟩
  refine wpAny_passesOwn hp (thn (hc pins s1 σ1 H1 _ I1 (turn n σ1 H1 w1)) fun b s2 hh0 => ?_)
  obtain ⟨H2, I2, q2⟩ := hh0
  cases b with
  | true =>
    obtain ⟨N, hN, q2⟩ := q2
    rw [if_pos rfl]
    refine wpAny_passesOwn hp (thn (hb pins s2 σ1 H2 _ I2 q2) fun f s3 q3 => ?_)
    cases f with
    | next =>
      obtain ⟨σ3, H3, I3, n3⟩ := q3
      obtain ⟨m', hm, w3⟩ := hN σ3 H3 n3
      exact ⟨m', hm, σ3, H3, I3, w3⟩
    | cont =>
      obtain ⟨σ3, H3, I3, n3⟩ := q3
      obtain ⟨m', hm, w3⟩ := hN σ3 H3 n3
      exact ⟨m', hm, σ3, H3, I3, w3⟩
    | brk => exact q3
    | ret v => exact q3
  | false =>
    rw [if_neg Bool.false_ne_true]
    exact wpAny_execs_nil ⟨σ1, H2, I2, q2⟩
end
structure It where
  go : Nat -> Hp -> Prop
  yld : Nat -> Hp -> V -> Hp -> Prop
  stop : Nat -> Hp -> Prop
noncomputable def y6u (X : Cx) (pins : List (Addr × Obj)) (H : Hp) (b : Addr) : Prop :=
  H b = none /\ b ≠ X.env.locals /\ b ∉ X.fs /\ (b ∈ X.ex \/ X.s₀.heap.objs.size <= b) /\ (∀ x c, X.env.cells.lookup x = some c -> c ≠ b) /\ ∀ p ∈ X.pn ++ pins, p.1 ≠ b
theorem Inv.fpOk {X : Cx} {pins : List (Addr × Obj)} {σ : St} {H H' : Hp} {s : Shared} {b : Addr} (I : Inv X pins σ H s) (hb : s.heap.objs.size <= b) (hn : H' b = none) : y6u X pins H' b := by
  refine ⟨hn, Nat.ne_of_gt (Nat.lt_of_lt_of_le I.lt hb), I.nofs hb, .inr (Nat.le_trans I.sz hb), fun x c e z => ?_, fun p hp z => ?_⟩
  · obtain ⟨v, q⟩ := I.cell x c e
    exact absurd (Nat.lt_of_lt_of_le q.lt (by rw [z]; exact hb)) (Nat.lt_irrefl _)
  · exact absurd (Nat.lt_of_lt_of_le (Heap.lt_size (I.pin p hp).1) (by rw [z]; exact hb)) (Nat.lt_irrefl _)
structure Turn (P : Program) (w : World) (K : PySem.W.Frag) (tg : Expr) (J : It) (fp : List Addr) (it : Addr) (tn : Nat -> Heap -> Prop) : Prop where
  mem : it ∈ fp
  obj : ∀ i h, tn i h -> ∀ b ∈ fp, ∃ o, h.get? b = some o /\ ∀ v, o.data ≠ .cell v
  keep : ∀ i h h', tn i h -> (∀ b ∈ fp, ∀ o, h.get? b = some o -> h'.get? b = some o) -> tn i h'
  item : ∀ (X : Cx), X.prog = P -> X.w = w -> X.K = K -> X.calm = true -> ∀ (i : Nat) (pins : List (Addr × Obj)) (s : Shared) (σ : St) (H : Hp) (E : Value -> Shared -> Prop), Inv X pins σ H s -> (∀ b ∈ fp, y6u X pins H b) -> tn i s.heap -> J.go i H ->
    wpAny (model P w) X.A (pyNext (.ref it)) (fun r s1 => ∃ u, r = some u /\
      wpAny (model P w) X.A (letOwnedTupleGo tg (.ref it) u) (fun _ s2 => ∃ x H', Inv X pins σ H' s2 /\ x3r x u /\ J.yld i H x H' /\ tn (i + 1) s2.heap /\ ∀ b ∈ fp, H' b = none) E s1) E s
  done : ∀ (X : Cx), X.prog = P -> X.w = w -> X.K = K -> X.calm = true -> ∀ (i : Nat) (pins : List (Addr × Obj)) (s : Shared) (σ : St) (H : Hp) (E : Value -> Shared -> Prop), Inv X pins σ H s -> (∀ b ∈ fp, y6u X pins H b) -> tn i s.heap -> J.stop i H ->
    wpAny (model P w) X.A (pyNext (.ref it)) (fun r s1 => r = none /\ Inv X pins σ H s1) E s
  self : ∀ (A : Around) (i : Nat) (s : Shared) (Q : Value -> Shared -> Prop) (E : Value -> Shared -> Prop), tn i s.heap -> Q (.ref it) s -> wpAny (model P w) A (pyIter (.ref it)) Q E s
noncomputable abbrev TI := St -> Hp -> (It -> Hp -> Prop) -> Prop
noncomputable def PIE (X : Cx) (pins : List (Addr × Obj)) (σ : St) (tg : Expr) (R : It -> Hp -> Prop) (itv : Value) (s2 : Shared) : Prop :=
  ∃ (it : Addr) (fp : List Addr) (tn : Nat -> Heap -> Prop) (J : It) (H' : Hp), itv = .ref it /\ Inv X pins σ H' s2 /\ Turn X.prog X.w X.K tg J fp it tn /\ tn 0 s2.heap /\ (∀ b ∈ fp, y6u X pins H' b) /\ R J H'
noncomputable def PI (X : Cx) (tg iter : Expr) (wi : TI) : Prop :=
  ∀ (pins : List (Addr × Obj)) (s : Shared) (σ : St) (H : Hp) (R : It -> Hp -> Prop), Inv X pins σ H s -> wi σ H R ->
    wpAny (model X.prog X.w) X.A (eval iter X.env) (fun v s1 => wpAny (model X.prog X.w) X.A (pyIter v) (PIE X pins σ tg R) X.xe s1) X.xe s
theorem z4t {M : Model} {A : Around} {E : Value -> Shared -> Prop} {s : Shared} {tg : Expr} {it : Addr} {u : Value} {o : Obj} {n : String} {vs : Array Value} {Q : Unit -> Shared -> Prop} (ho : s.heap.get? it = some o) (hc : o.cls = .type n) (hd : o.data = .fields vs)
    (hn : ["enumerate", "zip", "dict_itemiterator", "dict_reverseitemiterator", "odict_iterator", "itertools.zip_longest", "itertools.pairwise"].contains n = false) (hQ : Q () s) : wpAny M A (letOwnedTupleGo tg (.ref it) u) Q E s := by
  unfold letOwnedTupleGo
  cases tg <;> first
    | exact wpAny_pure hQ
    | (cases u <;> first
        | exact wpAny_pure hQ
        | (refine wpAny_bind (wpAny_load ho ?_)
           rw [hc, hd]
           show wpAny M A (if (["enumerate", "zip", "dict_itemiterator", "dict_reverseitemiterator", "odict_iterator", "itertools.zip_longest", "itertools.pairwise"].contains n && vs[0]? == some (rawInt _)) = true then _ else _) Q E s
           rw [if_neg (by intro h; rw [hn, Bool.false_and] at h; cases h)]
           exact wpAny_pure hQ))
noncomputable def Itl (K : PySem.W.Frag) (a : Addr) : It :=
  ⟨fun i H => ∃ xs x, SqL K H a xs /\ xs[i]? = some x, fun i H x H' => H' = H /\ ∀ xs, SqL K H a xs -> xs[i]? = some x, fun i H => ∃ xs, SqL K H a xs /\ xs.length <= i⟩
noncomputable def Itt (K : PySem.W.Frag) (a : Addr) : It :=
  ⟨fun i H => ∃ xs x, SqT K H a xs /\ xs[i]? = some x, fun i H x H' => H' = H /\ ∀ xs, SqT K H a xs -> xs[i]? = some x, fun i H => ∃ xs, SqT K H a xs /\ xs.length <= i⟩
noncomputable def Itr (lo : Int) (n : Nat) : It := ⟨fun i _ => i < n, fun i H x H' => H' = H /\ x = .int (lo + i), fun i _ => n <= i⟩
theorem y6r {P : Program} {w : World} {K : PySem.W.Frag} {tg : Expr} (a it : Addr) : Turn P w K tg (Itl K a) [it] it (fun i h => h.IsListIter it a i) where
  mem := by simp
  obj := fun i h st b hb => by
    have e : b = it := by simpa using hb
    subst e
    obtain ⟨o, e, c, d⟩ := st
    exact ⟨o, e, fun v z => by rw [d] at z; cases z⟩
  keep := fun i h h' st k => st.at fun o e => k it (by simp) o e
  item := by
    intro X hP hw hK hc i pins s σ H E I hf st hg
    subst hP hw hK
    obtain ⟨xs, x, hq, hx⟩ := hg
    obtain ⟨its, rv, p, hz⟩ := I.list hq
    obtain ⟨u, hu, ru⟩ := rv.get hx
    obtain ⟨f0, f1, f2, f3, f4, f5⟩ := hf it (by simp)
    refine wpAny_pyNext_list_item st p.isList (x := u) (by simpa using hu) fun h' st' sb => ?_
    have I1 : Inv X pins σ H { s with heap := h' } := I.turned (t' := s.toks) (fun b o hb e => (sb.2 b hb).trans e) f0 f1 f3 f4 f5
    obtain ⟨o, e, c, d⟩ := id st'
    exact ⟨u, rfl, z4t (s := { s with heap := h' }) e c d (by decide) ⟨x, H, I1, ru, ⟨rfl, fun ys hy => by rw [I.list_inj hy hq]; exact hx⟩, st', fun b hb => (hf b hb).1⟩⟩
  done := by
    intro X hP hw hK hc i pins s σ H E I hf st hg
    subst hP hw hK
    obtain ⟨xs, hq, hx⟩ := hg
    obtain ⟨its, rv, p, hz⟩ := I.list hq
    obtain ⟨f0, f1, f2, f3, f4, f5⟩ := hf it (by simp)
    have hl := rv.length
    exact wpAny_pyNext_list_end (I.ok.hd hc) st p.isList (by simp; omega) fun h' eb => ⟨rfl, I.turned (t' := s.toks) (fun b o hb e => eb b o hb e) f0 f1 f3 f4 f5⟩
  self := fun _ _ _ _ _ st h => wpAny_pyIter_listiter st h
theorem y6e {P : Program} {w : World} {K : PySem.W.Frag} {tg : Expr} (a it : Addr) : Turn P w K tg (Itt K a) [it] it (fun i h => h.IsTupleIter it a i) where
  mem := by simp
  obj := fun i h st b hb => by
    have e : b = it := by simpa using hb
    subst e
    obtain ⟨o, e, c, d⟩ := st
    exact ⟨o, e, fun v z => by rw [d] at z; cases z⟩
  keep := fun i h h' st k => st.at fun o e => k it (by simp) o e
  item := by
    intro X hP hw hK hc i pins s σ H E I hf st hg
    subst hP hw hK
    obtain ⟨xs, x, hq, hx⟩ := hg
    obtain ⟨its, rv, p, hz⟩ := I.tuple hq
    obtain ⟨u, hu, ru⟩ := rv.get hx
    obtain ⟨f0, f1, f2, f3, f4, f5⟩ := hf it (by simp)
    refine wpAny_pyNext_tuple_item st (show s.heap.IsTuple a its.toArray from p) (x := u) (by simpa using hu) fun h' st' sb => ?_
    have I1 : Inv X pins σ H { s with heap := h' } := I.turned (t' := s.toks) (fun b o hb e => (sb.2 b hb).trans e) f0 f1 f3 f4 f5
    obtain ⟨o, e, c, d⟩ := id st'
    exact ⟨u, rfl, z4t (s := { s with heap := h' }) e c d (by decide) ⟨x, H, I1, ru, ⟨rfl, fun ys hy => by rw [I.tuple_inj hy hq]; exact hx⟩, st', fun b hb => (hf b hb).1⟩⟩
  done := by
    intro X hP hw hK hc i pins s σ H E I hf st hg
    subst hP hw hK
    obtain ⟨xs, hq, hx⟩ := hg
    obtain ⟨its, rv, p, hz⟩ := I.tuple hq
    obtain ⟨f0, f1, f2, f3, f4, f5⟩ := hf it (by simp)
    have hl := rv.length
    exact wpAny_pyNext_tuple_end (I.ok.hd hc) st (show s.heap.IsTuple a its.toArray from p) (by simp; omega) fun h' eb => ⟨rfl, I.turned (t' := s.toks) (fun b o hb e => eb b o hb e) f0 f1 f3 f4 f5⟩
  self := fun _ _ _ _ _ st h => wpAny_pyIter_tupleiter st h
theorem y6j {P : Program} {w : World} {K : PySem.W.Frag} {tg : Expr} (it : Addr) (lo : Int) (n : Nat) : Turn P w K tg (Itr lo n) [it] it (fun i h => IsRangeIter h it (lo + (i : Nat) * 1) ((n : Int) - (i : Nat)) 1) where
  mem := by simp
  obj := fun i h st b hb => by
    have e : b = it := by simpa using hb
    subst e
    exact ⟨_, st, fun v z => by
      have z' : Data.fields _ = Data.cell v := z
      cases z'⟩
  keep := fun i h h' st k => k it (by simp) _ st
  item := by
    intro X hP hw hK hc i pins s σ H E I hf st hg
    subst hP hw hK
    obtain ⟨f0, f1, f2, f3, f4, f5⟩ := hf it (by simp)
    have W := Walks.range (prog := X.prog) (w := X.w) (I.ok.hd hc) it lo 1 n
    refine W.item i s _ _ hg st fun v h' tk hv st' kk => ?_
    obtain ⟨t, rfl⟩ := hv
    have I1 : Inv X pins σ H { s with heap := h', toks := tk } := I.turned (fun b o hb e => kk b o (by simpa using hb) e) f0 f1 f3 f4 f5
    refine ⟨_, rfl, z4t (s := { s with heap := h', toks := tk }) (n := "range_iterator") st' rfl rfl (by decide) ⟨.int (lo + i), H, I1, ⟨t, ?_⟩, ⟨rfl, rfl⟩, st', fun b hb => (hf b hb).1⟩⟩
    rw [Int.mul_one]
  done := by
    intro X hP hw hK hc i pins s σ H E I hf st hg
    subst hP hw hK
    obtain ⟨f0, f1, f2, f3, f4, f5⟩ := hf it (by simp)
    exact wpAny_pyNext_range_end (I.ok.hd hc) st (by have : n <= i := hg; omega) fun h' eb => ⟨rfl, I.turned (t' := s.toks) (fun b o hb e => eb b o hb e) f0 f1 f3 f4 f5⟩
  self := fun _ _ _ _ _ st h => wpAny_pyIter_rangeiter st h
section
variable {X : Cx} {tg : Expr}
theorem y9l {pins : List (Addr × Obj)} {σ : St} {H : Hp} {s : Shared} {R : It -> Hp -> Prop} {E : Value -> Shared -> Prop} {lo hi : Int} {t u v : Tok} {tk : Nat} (I : Inv X pins σ H s) (h1 : -(2 ^ 62) <= lo) (h2 : lo < 2 ^ 62) (h3 : -(2 ^ 62) <= hi) (h4 : hi < 2 ^ 62)
    (q : R (Itr lo (hi - lo).toNat) H) : wpAny (model X.prog X.w) X.A (pyIter (.ref s.heap.objs.size)) (PIE X pins σ tg R) E { s with heap := s.heap.push { cls := .type "range", data := .fields #[.int lo t, .int hi u, .int 1 v] }, toks := tk } := by
  refine wpAny_pyIter_range (IsRange.new ..) (small_one h1 h2 h3 h4) ?_
  have I1 : Inv X pins σ H { s with heap := s.heap.push { cls := .type "range", data := .fields #[.int lo t, .int hi u, .int 1 v] }, toks := tk } := I.kept fun b o e => Heap.get?_push_of_some _ e
  refine ⟨(s.heap.push { cls := .type "range", data := .fields #[.int lo t, .int hi u, .int 1 v] }).objs.size, [(s.heap.push { cls := .type "range", data := .fields #[.int lo t, .int hi u, .int 1 v] }).objs.size], _, _, H, rfl,
    I1.kept (t' := tk) fun b o e => Heap.get?_push_of_some _ e, y6j _ lo (hi - lo).toNat, ?_, fun b hb => ?_, q⟩
  · have e1 : lo + ((0 : Nat) : Int) * 1 = lo := by simp
    have e2 : (((hi - lo).toNat : Nat) : Int) - ((0 : Nat) : Int) = Builtin.Range.rangeSize lo hi 1 := by rw [rangeSize_one]; split <;> omega
    show IsRangeIter _ _ (lo + ((0 : Nat) : Int) * 1) ((((hi - lo).toNat : Nat) : Int) - ((0 : Nat) : Int)) 1
    rw [e1, e2]
    exact Heap.get?_push_size _ rfl
  · have e : b = (s.heap.push { cls := .type "range", data := .fields #[.int lo t, .int hi u, .int 1 v] }).objs.size := by simpa using hb
    subst e
    exact I1.fpOk (Nat.le_refl _) (I1.hok.fresh (Nat.le_refl _))
noncomputable def z9u (ta : TA) : TI := fun σ H R => ta σ H fun vs H1 => ∃ j : Int, vs = [.int j] /\ -(2 ^ 62) <= j /\ j < 2 ^ 62 /\ R (Itr 0 j.toNat) H1
theorem y7q {a : Expr} {ta : TA} {p pos : Pos} (hg : Gl X "range") (hm : X.mg "range" = none) (ha : PA X [a] ta) (hs : starEach [a] X.env = [(false, eval a X.env)] := by rfl) : PI X tg (.Call (.Name "range" p) [a] [] pos) (z9u ta) := by
  intro pins s σ H R I h
  refine Call_ (y0m I hg hm boot_range (PyProof.Rows.callWith_type1 (thn (ha pos pins s σ H _ I h) fun us s1 ⟨vs, H1, I1, r1, q1⟩ => ?_) hs rfl))
  obtain ⟨j, e, q1, q2, q⟩ := q1
  subst e
  cases r1 with
  | cons r rr =>
    cases rr
    obtain ⟨t, rfl⟩ := r
    exact call_range_1 (y9l I1 (by omega) (by omega) q1 q2 (by simpa using q))
noncomputable def j0w (wi : TI) (g : TG) (tb : TS) : TS := fun D σ H => wi σ H fun J H1 => ∃ W : Nat -> Nat -> St -> Hp -> Prop, (∃ m, W 0 m σ H1) /\ ∀ i m σ H, W i m σ H ->
  (J.stop i H /\ D.nx σ H) \/ (J.go i H /\ ∃ N : St -> Hp -> Prop, (∀ σ' H', N σ' H' -> ∃ m', m' < m /\ W (i + 1) m' σ' H') /\ ∀ x H', J.yld i H x H' -> g x σ H' fun σ2 H2 => tb { D with nx := N, ct := N, bk := D.nx } σ2 H2)
noncomputable def x8o (fp : List Addr) (h : Heap) : List (Addr × Obj) := fp.filterMap fun b => (h.get? b).map fun o => (b, o)
theorem x5x {fp : List Addr} {h : Heap} {b : Addr} {o : Obj} (hb : b ∈ fp) (e : h.get? b = some o) : (b, o) ∈ x8o fp h := List.mem_filterMap.mpr ⟨b, hb, by rw [e]; rfl⟩
theorem y3c {fp : List Addr} {h : Heap} {p : Addr × Obj} (hp : p ∈ x8o fp h) : p.1 ∈ fp /\ h.get? p.1 = some p.2 := by
  obtain ⟨b, hb, e⟩ := List.mem_filterMap.mp hp
  cases q : h.get? b with
  | none => rw [q] at e; cases e
  | some o =>
    rw [q] at e
    have e' : (b, o) = p := Option.some.inj e
    subst e'
    exact ⟨hb, q⟩
theorem Inv.pinned {pins : List (Addr × Obj)} {σ : St} {H : Hp} {s : Shared} {fp : List Addr} (I : Inv X pins σ H s) (hf : ∀ b ∈ fp, y6u X pins H b) (ho : ∀ b ∈ fp, ∃ o, s.heap.get? b = some o /\ ∀ v, o.data ≠ .cell v) : Inv X (pins ++ x8o fp s.heap) σ H s :=
  I.pins_of fun p hp => (List.mem_append.mp hp).elim (fun z => I.pin p (List.mem_append_right _ z)) fun z => by
    obtain ⟨hb, e⟩ := y3c z
    obtain ⟨f0, f1, f2, _⟩ := hf p.1 hb
    obtain ⟨o, e', d⟩ := ho p.1 hb
    rw [e] at e'; cases e'
    exact ⟨e, f0, f1, f2, d⟩
theorem Inv.unpinned {pins pl : List (Addr × Obj)} {σ : St} {H : Hp} {s : Shared} (I : Inv X (pins ++ pl) σ H s) : Inv X pins σ H s := I.pins_of fun p hp => I.pin p (List.mem_append_right _ (List.mem_append_left _ hp))
theorem z7e {iter : Expr} {body : List Stmt} {wi : TI} {g : TG} {tb : TS} {pos : Pos} (hp : PassesOwn (model X.prog X.w) X.A X.env X.xe) (hc : X.calm = true) (hi : PI X tg iter wi) (hg : PG X tg g) (hb : PSs X body tb)
    (hs : ∀ x, foldedSetIterable iter X.env x = pure x := by intro _; rfl) : PS X (.For tg iter body [] pos) (j0w wi g tb) := by
  intro pins s σ H D I h
  refine wpAny_For (thn (hi pins s σ H _ I h) fun v s1 h1 => thn h1 fun itv s2 h2 => ?_) hs
  obtain ⟨it, fp, tn, J, H2, e, I2, T, st2, f2, W, ⟨m0, w0⟩, turn⟩ := h2
  subst e
  -- what stays true of the iterator's objects through the loop
  have stat : ∀ {H' : Hp}, (∀ b ∈ fp, H' b = none) -> ∀ b ∈ fp, y6u X pins H' b := fun hn b hb => ⟨hn b hb, (f2 b hb).2⟩
  refine codeAny_forLoop_any (fun n s' => ∃ i σ' H', Inv X pins σ' H' s' /\ tn i s'.heap /\ (∀ b ∈ fp, H' b = none) /\ W i n σ' H') ?_ m0 ⟨0, σ, H2, I2, st2, fun b hb => (f2 b hb).1, w0⟩
  rintro n s3 ⟨i, σ3, H3, I3, st3, fr3, w3⟩
  rcases turn i n σ3 H3 w3 with ⟨stop, qn⟩ | ⟨go, N, hN, step⟩
  · refine wpAny_passesOwn hp (thn (T.done X rfl rfl rfl hc i pins s3 σ3 H3 X.xe I3 (stat fr3) st3 stop) fun r s4 ⟨hr, I4⟩ => ?_)
    subst hr
    exact wpAny_execs_nil ⟨σ3, H3, I4, qn⟩
  · refine wpAny_passesOwn hp (thn (T.item X rfl rfl rfl hc i pins s3 σ3 H3 X.xe I3 (stat fr3) st3 go) fun r s4 ⟨u, hr, h4⟩ => ?_)
    subst hr
    refine wpAny_passesOwn hp (thn h4 fun _ s5 hh0 => ?_)
    obtain ⟨x, H5, I5, r5, y5, st5, fr5⟩ := hh0
    have I5' := I5.pinned (stat fr5) (T.obj _ _ st5)
    refine wpAny_passesOwn hp (thn (hg _ s5 σ3 H5 x u _ I5' r5 (step x H5 y5)) fun _ s6 hh0 => ?_)
    obtain ⟨σ6, H6, I6, q6⟩ := hh0
    refine wpAny_passesOwn hp (thn (hb _ s6 σ6 H6 _ I6 q6) fun f s7 q7 => ?_)
    have again : ∀ {σ7 : St} {H7 : Hp}, Inv X (pins ++ x8o fp s5.heap) σ7 H7 s7 -> N σ7 H7 -> ∃ m, m < n /\ ∃ i σ' H', Inv X pins σ' H' s7 /\ tn i s7.heap /\ (∀ b ∈ fp, H' b = none) /\ W i m σ' H' := fun {σ7 H7} I7 n7 => by
      obtain ⟨m', hm, w7⟩ := hN σ7 H7 n7
      refine ⟨m', hm, i + 1, σ7, H7, I7.unpinned, T.keep _ _ _ st5 fun b hb o e => (I7.pin (b, o) (List.mem_append_right _ (List.mem_append_right _ (x5x hb e)))).1, fun b hb => ?_, w7⟩
      obtain ⟨o, e, d⟩ := T.obj _ _ st5 b hb
      exact (I7.pin (b, o) (List.mem_append_right _ (List.mem_append_right _ (x5x hb e)))).2.1
    cases f with
    | next => obtain ⟨σ7, H7, I7, n7⟩ := q7; exact again I7 n7
    | cont => obtain ⟨σ7, H7, I7, n7⟩ := q7; exact again I7 n7
    | brk => obtain ⟨σ7, H7, I7, q7⟩ := q7; exact ⟨σ7, H7, I7.unpinned, q7⟩
    | ret v => obtain ⟨x7, σ7, H7, I7, r7, q7⟩ := q7; exact ⟨x7, σ7, H7, I7.unpinned, r7, q7⟩
end
noncomputable abbrev R2 := V -> V -> Hp -> VK -> Prop
noncomputable def OpR (X : Cx) (f : Value -> Value -> Sem Value) (r : R2) : Prop :=
  ∀ (pins : List (Addr × Obj)) (s : Shared) (σ : St) (H : Hp) (x y : V) (v u : Value) (Q : VK), Inv X pins σ H s -> x3r x v -> x3r y u -> r x y H Q ->
    wpAny (model X.prog X.w) X.A (f v u) (EP X pins σ Q) X.xe s
noncomputable def UnR (X : Cx) (f : Value -> Sem Value) (r : V -> Hp -> VK -> Prop) : Prop :=
  ∀ (pins : List (Addr × Obj)) (s : Shared) (σ : St) (H : Hp) (x : V) (v : Value) (Q : VK), Inv X pins σ H s -> x3r x v -> r x H Q ->
    wpAny (model X.prog X.w) X.A (f v) (EP X pins σ Q) X.xe s
noncomputable def y0c (X : Cx) (f : Value) (r : List V -> Hp -> VK -> Prop) : Prop :=
  ∀ (pins : List (Addr × Obj)) (s : Shared) (σ : St) (H : Hp) (xs : List V) (us : List Value) (Q : VK), Inv X pins σ H s -> x2p xs us -> r xs H Q ->
    wpAny (model X.prog X.w) X.A (call f us) (EP X pins σ Q) X.xe s
noncomputable def j0t (X : Cx) (r : V -> Hp -> (Bool -> Hp -> Prop) -> Prop) : Prop :=
  ∀ (pins : List (Addr × Obj)) (s : Shared) (σ : St) (H : Hp) (x : V) (v : Value) (Q : Bool -> Hp -> Prop), Inv X pins σ H s -> x3r x v -> r x H Q ->
    wpAny (model X.prog X.w) X.A (truthy v) (TP X pins σ Q) X.xe s
noncomputable def tOp (r : R2) (ta tb : TE) : TE := fun σ H Q => ta σ H fun x H1 => tb σ H1 fun y H2 => r x y H2 Q
noncomputable def tUn (r : V -> Hp -> VK -> Prop) (ta : TE) : TE := fun σ H Q => ta σ H fun x H1 => r x H1 Q
noncomputable def rI (C : Int -> Int -> Prop) (g : Int -> Int -> V) : R2 := fun x y H Q => ∃ i j, x = .int i /\ y = .int j /\ C i j /\ Q (g i j) H
noncomputable def rI0 (g : Int -> Int -> V) : R2 := fun x y H Q => ∃ i j, x = .int i /\ y = .int j /\ Q (g i j) H
noncomputable def rU (g : Int -> V) : V -> Hp -> VK -> Prop := fun x H Q => ∃ i, x = .int i /\ Q (g i) H
section
variable {X : Cx} {a b c : Expr} {ta tb tc : TE} {pos : Pos}
theorem z9r (ha : PE X a ta) (hb : PE X b tb) {pins : List (Addr × Obj)} {s : Shared} {σ : St} {H : Hp} {R : V -> V -> Hp -> Prop} (I : Inv X pins σ H s)
    (h : ta σ H fun x H1 => tb σ H1 fun y H2 => R x y H2) {Q : Value -> Shared -> Prop} {f : Value -> Value -> Sem Value}
    (hf : ∀ v u s2 x y H2, Inv X pins σ H2 s2 -> x3r x v -> x3r y u -> R x y H2 -> wpAny (model X.prog X.w) X.A (f v u) Q X.xe s2) :
    wpAny (model X.prog X.w) X.A (eval a X.env) (fun v s₁ => wpAny (model X.prog X.w) X.A (eval b X.env) (fun u s₂ => wpAny (model X.prog X.w) X.A (f v u) Q X.xe s₂) X.xe s₁) X.xe s := by
  refine thn (ha pins s σ H _ I h) fun v s1 hh0 => ?_
  obtain ⟨x, H1, I1, r1, q1⟩ := hh0
  refine thn (hb pins s1 σ H1 _ I1 q1) fun u s2 hh0 => ?_
  obtain ⟨y, H2, I2, r2, q2⟩ := hh0
  exact hf v u s2 x y H2 I2 r1 r2 q2
theorem y21 {op : Operator} {r : R2} (ho : OpR X (binaryOp op) r) (ha : PE X a ta) (hb : PE X b tb) : PE X (.BinOp a op b pos) (tOp r ta tb) := by
  intro pins s σ H Q I h
  exact wpAny_BinOp (z9r ha hb I h fun v u s2 x y H2 I2 rx ry q => ho pins s2 σ H2 x y v u Q I2 rx ry q)
theorem z95 {op : UnaryOp} {r : V -> Hp -> VK -> Prop} (ho : UnR X (unaryOp op) r) (ha : PE X a ta) : PE X (.UnaryOp op a pos) (tUn r ta) := by
  intro pins s σ H Q I h
  exact UnaryOp_ (thn (ha pins s σ H _ I h) fun v s1 ⟨x, H1, I1, r1, q1⟩ => ho pins s1 σ H1 x v Q I1 r1 q1)
theorem opI {f : Value -> Value -> Sem Value} {C : Int -> Int -> Prop} {g : Int -> Int -> Int}
    (rule : ∀ (i j : Int) (t u : Tok) (s : Shared) (Q : Value -> Shared -> Prop) (E : Value -> Shared -> Prop), C i j -> Q (.int (g i j) s.toks) { s with toks := s.toks + 1 } -> wpAny (model X.prog X.w) X.A (f (.int i t) (.int j u)) Q E s) :
    OpR X f (rI C fun i j => .int (g i j)) := by
  intro pins s σ H x y v u Q I rx ry h
  obtain ⟨i, j, rfl, rfl, hc, q⟩ := h
  obtain ⟨t, rfl⟩ := rx
  obtain ⟨t', rfl⟩ := ry
  exact rule i j t t' s _ _ hc ⟨.int (g i j), H, I.tok _, ⟨_, rfl⟩, q⟩
theorem j0k {f : Value -> Value -> Sem Value} {g : Int -> Int -> Int}
    (rule : ∀ (i j : Int) (t u : Tok) (s : Shared) (Q : Value -> Shared -> Prop) (E : Value -> Shared -> Prop), Q (.int (g i j) s.toks) { s with toks := s.toks + 1 } -> wpAny (model X.prog X.w) X.A (f (.int i t) (.int j u)) Q E s) :
    OpR X f (rI0 fun i j => .int (g i j)) := by
  intro pins s σ H x y v u Q I rx ry h
  obtain ⟨i, j, rfl, rfl, q⟩ := h
  obtain ⟨t, rfl⟩ := rx
  obtain ⟨t', rfl⟩ := ry
  exact rule i j t t' s _ _ ⟨.int (g i j), H, I.tok _, ⟨_, rfl⟩, q⟩
theorem z8w {f : Value -> Value -> Sem Value} {g : Int -> Int -> Bool}
    (rule : ∀ (i j : Int) (t u : Tok) (s : Shared) (Q : Value -> Shared -> Prop) (E : Value -> Shared -> Prop), Q (.bool (g i j)) s -> wpAny (model X.prog X.w) X.A (f (.int i t) (.int j u)) Q E s) :
    OpR X f (rI0 fun i j => .bl (g i j)) := by
  intro pins s σ H x y v u Q I rx ry h
  obtain ⟨i, j, rfl, rfl, q⟩ := h
  obtain ⟨t, rfl⟩ := rx
  obtain ⟨t', rfl⟩ := ry
  exact rule i j t t' s _ _ ⟨.bl (g i j), H, I, rfl, q⟩
noncomputable def j1b (i j : Int) : Prop := 0 < j /\ j < 1073741824
noncomputable def j05 (i j : Int) : Prop := (-(2 ^ 64) < i /\ i < 2 ^ 64) \/ (-(2 ^ 64) < j /\ j < 2 ^ 64)
theorem j05.ok {i j : Int} (h : j05 i j) : IntMulOk i j := by
  rcases h with ⟨h1, h2⟩ | ⟨h1, h2⟩
  · exact .of_left (intBits_le_64 h1 h2)
  · exact .of_right (intBits_le_64 h1 h2)
theorem z6r : OpR X (binaryOp .Add) (rI0 fun i j => .int (i + j)) := j0k fun _ _ _ _ _ _ _ q => add_int q
theorem z7k : OpR X (binaryOp .Sub) (rI0 fun i j => .int (i - j)) := j0k fun _ _ _ _ _ _ _ q => sub_int q
theorem z8b : OpR X (binaryOp .Mult) (rI j05 fun i j => .int (i * j)) := opI fun _ _ _ _ _ _ _ hc q => mul_int q hc.ok
theorem z2s : OpR X (binaryOp .FloorDiv) (rI j1b fun i j => .int (i / j)) := opI fun i j _ _ _ _ _ hc q => by
  have h1 : (0 : Int) < j := hc.1
  have h2 : j < 1073741824 := hc.2
  exact floordiv_int (by omega) (by rw [Int.fdiv_eq_ediv_of_nonneg i (by omega)]; exact q) (.inl (PyProof.noPylong_small (by omega)))
theorem z7p : OpR X (binaryOp .Mod) (rI (fun _ j => 0 < j) fun i j => .int (i % j)) := opI fun i j _ _ _ _ _ hc q => by
  have h1 : (0 : Int) < j := hc
  exact mod_int' (by omega) (by rw [Int.fmod_eq_emod_of_nonneg i (by omega)]; exact q)
theorem unI {f : Value -> Sem Value} {g : Int -> Int}
    (rule : ∀ (i : Int) (t : Tok) (s : Shared) (Q : Value -> Shared -> Prop) (E : Value -> Shared -> Prop), Q (.int (g i) s.toks) { s with toks := s.toks + 1 } -> wpAny (model X.prog X.w) X.A (f (.int i t)) Q E s) :
    UnR X f (rU fun i => .int (g i)) := by
  intro pins s σ H x v Q I rx h
  obtain ⟨i, rfl, q⟩ := h
  obtain ⟨t, rfl⟩ := rx
  exact rule i t s _ _ ⟨.int (g i), H, I.tok _, ⟨_, rfl⟩, q⟩
theorem z86 : UnR X (unaryOp .USub) (rU fun i => .int (-i)) := unI fun _ _ _ _ _ q => neg_int q
end
section
variable {X : Cx} {a b c : Expr} {ta tb tc : TE} {pos : Pos}
theorem z56 : OpR X (compareOp .Lt) (rI0 fun i j => .bl (decide (i < j))) := z8w fun _ _ _ _ _ _ _ q => lt_int q
theorem z9h : OpR X (compareOp .LtE) (rI0 fun i j => .bl (decide (i <= j))) := z8w fun _ _ _ _ _ _ _ q => le_int q
theorem z9f : OpR X (compareOp .Gt) (rI0 fun i j => .bl (decide (j < i))) := z8w fun _ _ _ _ _ _ _ q => gt_int q
theorem z9s : OpR X (compareOp .GtE) (rI0 fun i j => .bl (decide (j <= i))) := z8w fun _ _ _ _ _ _ _ q => ge_int q
theorem OpR.or {f : Value -> Value -> Sem Value} {r r' : R2} (h : OpR X f r) (h' : OpR X f r') : OpR X f (fun x y H Q => r x y H Q \/ r' x y H Q) := by
  intro pins s σ H x y v u Q I rx ry q
  rcases q with q | q
  · exact h pins s σ H x y v u Q I rx ry q
  · exact h' pins s σ H x y v u Q I rx ry q
theorem y16 (b : Expr) {op : CmpOp} (h : op ≠ .In := by decide) (h2 : op ≠ .NotIn := by decide) : behindInMarks op b = false := by
  have e1 : (op == CmpOp.In) = false := by cases op <;> first | rfl | exact absurd rfl h
  have e2 : (op == CmpOp.NotIn) = false := by cases op <;> first | rfl | exact absurd rfl h2
  cases b <;> simp [behindInMarks, e1, e2]
theorem z3c {op : CmpOp} {r : R2} (ho : OpR X (compareOp op) r) (ha : PE X a ta) (hb : PE X b tb) (hm : behindInMarks op b = false) : PE X (.Compare a [op] [b] pos) (tOp r ta tb) := by
  intro pins s σ H Q I h
  exact wpAny_Compare1 (z9r ha hb I h fun v u s2 x y H2 I2 rx ry q => ho pins s2 σ H2 x y v u Q I2 rx ry q) hm
noncomputable def z6n (t : TE) : TT := fun σ H Q => t σ H fun x H' => ∃ k, x = .bl k /\ Q k H'
theorem z3k {op : CmpOp} {r : R2} (ho : OpR X (compareOp op) r) (ha : PE X a ta) (hb : PE X b tb) (hm : behindInMarks op b = false) : PT X (.Compare a [op] [b] pos) (z6n (tOp r ta tb)) := by
  intro pins s σ H Q I h
  refine wpAny_isTrue_Compare1 (thn (ha pins s σ H _ I h) fun v s1 ⟨x, H1, I1, r1, q1⟩ => thn (hb pins s1 σ H1 _ I1 q1) fun u s2 ⟨y, H2, I2, r2, q2⟩ =>
    thn (ho pins s2 σ H2 x y v u _ I2 r1 r2 q2) fun c s3 ⟨z, H3, I3, r3, k, e, q3⟩ => ?_) hm
  subst e
  cases r3
  exact wpAny_truthy_bool ⟨H3, I3, q3⟩
noncomputable def z7m (r r' : R2) (ta tb tc : TE) : TE := fun σ H Q => ta σ H fun x H1 => tb σ H1 fun y H2 => r x y H2 fun z H3 => ∃ k, z = .bl k /\
  (if k = true then tc σ H3 fun w' H4 => r' y w' H4 Q else Q (.bl false) H3)
theorem z18 {op op' : CmpOp} {r r' : R2} (ho : OpR X (compareOp op) r) (ho' : OpR X (compareOp op') r') (ha : PE X a ta) (hb : PE X b tb) (hc : PE X c tc)
    (hm : lastMarks [op, op'] [b, c] = false := by with_unfolding_all rfl) : PE X (.Compare a [op, op'] [b, c] pos) (z7m r r' ta tb tc) := by
  intro pins s σ H Q I h
  refine Compare_chain (thn (ha pins s σ H _ I h) fun v s1 ⟨x, H1, I1, r1, q1⟩ => chain_link (thn (hb pins s1 σ H1 _ I1 q1) fun u s2 ⟨y, H2, I2, r2, q2⟩ =>
    thn (ho pins s2 σ H2 x y v u _ I2 r1 r2 q2) fun d s3 ⟨z, H3, I3, r3, k, e, q3⟩ => ?_)) hm
  subst e
  cases r3
  refine wpAny_truthy_bool ?_
  cases k with
  | false => exact ite_ff ⟨.bl false, H3, I3, rfl, q3⟩
  | true => exact ite_tt (chain_last (thn (hc pins s3 σ H3 _ I3 q3) fun w' s4 ⟨z', H4, I4, r4, q4⟩ => ho' pins s4 σ H4 y z' u w' Q I4 r2 r4 q4))
noncomputable def j0l (K : PySem.W.Frag) (x : V) (H : Hp) (k : Bool) : Prop :=
  match x with
  | .non => k = false
  | .bl b => k = b
  | .int i => k = (i != 0)
  | .str y => y.length <= sizeLine /\ k = ((y.length : Int) != 0)
  | .byt y => y.size <= sizeLine /\ k = ((y.size : Int) != 0)
  | .ref p => (∃ xs, SqL K H p xs /\ k = !xs.isEmpty) \/ (∃ xs, SqT K H p xs /\ k = !xs.isEmpty) \/ ∃ kvs, H p = some (.dK kvs) /\ k = !kvs.isEmpty
  | _ => False
theorem y6k {κ : Type} {kvs : List (κ × V)} {vs : List (κ × Value)} (r : KV kvs vs) : (!vs.isEmpty) = !kvs.isEmpty := by
  cases r <;> rfl
theorem y0y {xs : List V} {its : List Value} (r : x2p xs its) : (!its.toArray.isEmpty) = !xs.isEmpty := by
  cases r <;> simp
theorem y10 : (sizeLine : Nat) < 2 ^ 63 := by rw [sizeLine_eq]; decide
theorem z55 : j0t X (fun x H Q => ∃ k, j0l X.K x H k /\ Q k H) := by
  intro pins s σ H x v Q I rx h
  obtain ⟨k, e, q⟩ := h
  have hl := y10
  have hs : sizeLine = 16777216 := sizeLine_eq
  cases x with
  | non =>
    cases rx
    have e' : k = false := e
    subst e'
    exact truthy_none ⟨H, I, q⟩
  | bl b =>
    cases rx
    have e' : k = b := e
    subst e'
    exact wpAny_truthy_bool ⟨H, I, q⟩
  | int i =>
    obtain ⟨t, rfl⟩ := rx
    have e' : k = (i != 0) := e
    subst e'
    exact PySem.P.truthy_int ⟨H, I, q⟩
  | str y =>
    obtain ⟨t, rfl⟩ := rx
    obtain ⟨hy, e'⟩ : y.length <= sizeLine /\ k = ((y.length : Int) != 0) := e
    subst e'
    exact PySem.P.truthy_str (by omega) ⟨H, I.tok _, q⟩
  | byt y =>
    obtain ⟨t, rfl⟩ := rx
    obtain ⟨hy, e'⟩ : y.size <= sizeLine /\ k = ((y.size : Int) != 0) := e
    subst e'
    exact PySem.W.truthy_bytes (by omega) ⟨H, I.tok _, q⟩
  | ref p =>
    cases rx
    have e' : (∃ xs, SqL X.K H p xs /\ k = !xs.isEmpty) \/ (∃ xs, SqT X.K H p xs /\ k = !xs.isEmpty) \/ ∃ kvs, H p = some (.dK kvs) /\ k = !kvs.isEmpty := e
    rcases e' with ⟨xs, hx, e'⟩ | ⟨xs, hx, e'⟩ | ⟨kvs, hx, e'⟩
    · subst e'
      obtain ⟨its, r, pl, hz⟩ := I.list hx
      have hlen := r.length
      exact wpAny_truthy_list pl.isList (by simp only [List.size_toArray]; omega) ⟨H, I.tok _, by rw [y0y r]; exact q⟩
    · subst e'
      obtain ⟨its, r, pl, hz⟩ := I.tuple hx
      have hlen := r.length
      exact truthy_tuple pl (by simp only [List.size_toArray]; omega) ⟨H, I.tok _, by rw [y0y r]; exact q⟩
    · subst e'
      obtain ⟨hz, hS, vs, r, m⟩ : kvs.length <= sizeLine /\ (p == sysModules) = false /\ ∃ vs, KV kvs vs /\ s.heap.DictOf (x2v X.prog X.w) p vs := I.hok p _ hx
      have hlen : kvs.length = vs.length := Paired.length r
      exact wpAny_truthy_dict hS m (by omega) ⟨H, I.tok _, by rw [y6k r]; exact q⟩
  | _ => exact (show False from e).elim
theorem y9s (ha : PE X a ta) (he : ∀ whole, isTrue a X.env whole = (do let v <- whole; standAt a.pos; holding [v] (truthy v))) :
    PT X a (fun σ H Q => ta σ H fun x H' => ∃ k, j0l X.K x H' k /\ Q k H') := by
  intro pins s σ H Q I h
  exact isTrue_plain (thn (ha pins s σ H _ I h) fun v s1 ⟨x, H1, I1, r1, q1⟩ => z55 pins s1 σ H1 x v Q I1 r1 q1) (he _)
theorem y4g {x : V} {us : List Value} (r : x2p [x] us) : ∃ u, us = [u] /\ x3r x u := by
  cases r with
  | cons r1 r2 => cases r2; exact ⟨_, rfl, r1⟩
theorem z5k {x y : V} {us : List Value} (r : x2p [x, y] us) : ∃ u w', us = [u, w'] /\ x3r x u /\ x3r y w' := by
  cases r with
  | cons r1 r2 =>
    cases r2 with
    | cons r3 r4 => cases r4; exact ⟨_, _, rfl, r1, r3⟩
theorem y8h (hc : X.calm = true) : y0c X (.builtin "max") (fun xs H Q => ∃ i j, xs = [.int i, .int j] /\ Q (.int (if j > i then j else i)) H) := by
  intro pins s σ H xs us Q I r h
  obtain ⟨i, j, rfl, q⟩ := h
  obtain ⟨u, w', rfl, ⟨t, rfl⟩, ⟨t', rfl⟩⟩ := z5k r
  refine max_two_ints (I.ok.hd hc) fun h' tk k => ⟨_, H, I.kept k, ?_, q⟩
  by_cases hj : j > i
  · rw [if_pos hj, if_pos hj]; exact ⟨_, rfl⟩
  · rw [if_neg hj, if_neg hj]; exact ⟨_, rfl⟩
end
structure ObjM (h : Heap) (x dx C : Addr) (mA : Str -> Option Value) : Prop where
  obj : h.get? x = some (PySem.W.instObj C dx)
  ns : h.Ns1 dx mA
  ne : dx ≠ x
theorem y7g {h : Heap} {dx : Addr} {mA : Str -> Option Value} (n : h.Ns1 dx mA) : ∃ od, h.get? dx = some od /\ ∀ name, PySem.W.lookIn name od = some (mA name) := by
  obtain ⟨o, es, ep, ho, hd, hk, _, hm⟩ := n
  refine ⟨o, ho, fun name => ?_⟩
  have e := hm name
  unfold nsFind findBy at e
  rw [<- Array.find?_toList] at e
  unfold PySem.W.lookIn
  rw [hd]
  dsimp only
  split
  · rename_i y q
    rw [q] at e
    exact congrArg some e
  · rename_i q
    rw [q] at e
    have a : es.toList.any (·.refKey) = false := by
      rw [List.any_eq_false]
      intro y hy
      obtain ⟨z, t, hkey⟩ := hk y (Array.mem_toList_iff.mp hy)
      simp [DictEntry.refKey, hkey]
    have a' : ¬ es.toList.any (·.refKey) = true := by rw [a]; exact Bool.false_ne_true
    rw [if_neg a']
    exact congrArg some e
theorem ObjM.look {h : Heap} {x dx C : Addr} {mA : Str -> Option Value} (I : ObjM h x dx C mA) : ∃ od, PySem.W.InstAt h x (PySem.W.instObj C dx) C (some od) /\ ∀ name, PySem.W.lookIn name od = some (mA name) :=
  let ⟨od, ho, hl⟩ := y7g I.ns
  ⟨od, ⟨I.obj, rfl, rfl, ho⟩, hl⟩
section
variable {prog : Program} {w : World} {A : Around} {E : Value -> Shared -> Prop} {s : Shared} {K : PySem.W.Frag} {x dx C f : Addr} {mA : Str -> Option Value} {name : Str} {v : Value}
end
section
variable {P : Program} {w : World} {H H' : Hp} {h h' : Heap} {a C dx : Addr} {fs fs' : List (Str × V)}
theorem z4p (hok : HOk P w H h) (e : H a = some (.ins C dx fs)) : ∃ mA, ObjM h a dx C mA /\ (∀ f, z39 (fs.lookup f) (mA f)) /\ PySem.Within mA (fs.map (·.1)) /\ fs.length <= 1000 /\ H dx = some (.own a) := by
  obtain ⟨d, z, ne, ob, mA, n, r, q⟩ := (show x2y P w H h a (.ins C dx fs) from hok a _ e)
  exact ⟨mA, ⟨ob, n, ne⟩, r, q, z, d⟩
end
structure Cls (K : PySem.W.Frag) (C : Addr) : Prop where
  pg : PySem.W.plainGet K C Str.empty = true
  hd : PySem.W.hasDictIn K C = true
  po : PySem.W.plainOver K C = true
  sa : PySem.W.findIn K (.ref C) "__setattr__" = some (some (.builtin "object.__setattr__"))
theorem Cls.get {K : PySem.W.Frag} {C : Addr} (c : Cls K C) (f : Str) : PySem.W.plainGet K C f = true := c.pg
section
variable {X : Cx} {pins : List (Addr × Obj)} {σ : St} {H : Hp} {s : Shared} {a C dx : Addr} {fs : List (Str × V)} {f : Str} {v : V} {A : Around} {E : Value -> Shared -> Prop}
end
section
variable {X : Cx} {pins : List (Addr × Obj)} {σ : St} {H : Hp} {s : Shared} {A : Around} {E : Value -> Shared -> Prop} {Q : Value -> Shared -> Prop} {c : Value} {b : Bool}
inductive TyOf (K : PySem.W.Frag) (H : Hp) : V -> Value -> Prop where
  | non : TyOf K H .non (.type "NoneType")
  | bl (x : Bool) : TyOf K H (.bl x) (.type "bool")
  | int (i : Int) : TyOf K H (.int i) (.type "int")
  | str (x : Str) : TyOf K H (.str x) (.type "str")
  | flt (x : UInt64) : TyOf K H (.flt x) (.type "float")
  | lst {a : Addr} {xs : List V} (e : H a = some (.lst xs)) : TyOf K H (.ref a) (.type "list")
  | frz {a : Addr} {o : Obj} {xs : List V} (e : H a = some (.frz o (.lst xs))) : TyOf K H (.ref a) (.type "list")
  | tup {a : Addr} {xs : List V} (e : H a = some (.tup xs)) : TyOf K H (.ref a) (.type "tuple")
  | dK {a : Addr} {kvs : List (Key × V)} (e : H a = some (.dK kvs)) : TyOf K H (.ref a) (.type "dict")
  | dT {a : Addr} {kvs : List (List Key × V)} (e : H a = some (.dT kvs)) : TyOf K H (.ref a) (.type "dict")
  | ins {a C dx : Addr} {fs : List (Str × V)} (e : H a = some (.ins C dx fs)) (cl : Cls K C) (ha : PySem.W.findIn K (.ref C) "__class__" = some (some (.builtin "object.__class__")))
      (hn : PySem.W.specialIn K (.builtin "object.__class__") "__get__" = some (some (.builtin "getset_descriptor.__get__"))) (htk : PySem.W.takesIn K (.builtin "object.__class__") = some true)
      (hm : PySem.W.mroIn K C (.type "object") = some true) : TyOf K H (.ref a) (.ref C)
theorem x3p {x : V} {u t : Value} (I : Inv X pins σ H s) (rx : x3r x u) (ty : TyOf X.K H x t) (e : PySem.W.kitOne X.K t c = some b) (h : ∀ tk, Q (.bool b) { s with toks := tk }) :
    wpAny (model X.prog X.w) A (call (.builtin "isinstance") [u, c]) Q E s := by
  cases ty with
  | non => cases (show u = Value.none from rx); exact PySem.W.kia_one PySem.W.kitx_none I.kIn True.intro e (fun z => nomatch z) h
  | bl y => cases (show u = Value.bool y from rx); exact PySem.W.kia_one PySem.W.kitx_bool I.kIn True.intro e (fun z => nomatch z) h
  | int i => obtain ⟨t, q⟩ := (show ∃ t, u = Value.int i t from rx); cases q; exact PySem.W.kia_one PySem.W.kitx_int I.kIn True.intro e (fun z => nomatch z) h
  | str y => obtain ⟨t, q⟩ := (show ∃ t, u = Value.str y t from rx); cases q; exact PySem.W.kia_one PySem.W.kitx_str I.kIn True.intro e (fun z => nomatch z) h
  | flt y => obtain ⟨t, q⟩ := (show ∃ t, u = Value.float y t from rx); cases q; exact PySem.W.kia_one PySem.W.kitx_float I.kIn True.intro e (fun z => nomatch z) h
  | @lst a xs ea =>
    cases (show u = Value.ref a from rx)
    obtain ⟨_, _, n, _, h1⟩ := (show x2y X.prog X.w H s.heap a (.lst xs) from I.hok a _ ea)
    exact PySem.W.kia_one PySem.W.kitx_list I.kIn ⟨_, h1, rfl⟩ e (fun z => nomatch z) h
  | @frz a ob xs ea =>
    cases (show u = Value.ref a from rx)
    obtain ⟨_, _, _, n, _, h1⟩ := (show x2y X.prog X.w H s.heap a (.frz ob (.lst xs)) from I.hok a _ ea)
    exact PySem.W.kia_one PySem.W.kitx_list I.kIn ⟨_, h1, rfl⟩ e (fun z => nomatch z) h
  | @tup a xs ea =>
    cases (show u = Value.ref a from rx)
    obtain ⟨_, _, _, p⟩ := (show x2y X.prog X.w H s.heap a (.tup xs) from I.hok a _ ea)
    obtain ⟨o, h1, h2, _⟩ := p
    exact PySem.W.kia_one PySem.W.kitx_tuple I.kIn ⟨o, h1, h2⟩ e (fun z => nomatch z) h
  | @dK a kvs ea =>
    cases (show u = Value.ref a from rx)
    obtain ⟨_, _, vs, _, p⟩ := (show x2y X.prog X.w H s.heap a (.dK kvs) from I.hok a _ ea)
    obtain ⟨o, es, ep, h1, h2, _⟩ := p
    exact PySem.W.kia_one PySem.W.kitx_dict I.kIn ⟨o, h1, h2.1⟩ e (fun z => nomatch z) h
  | @dT a kvs ea =>
    cases (show u = Value.ref a from rx)
    obtain ⟨_, _, xs, _, o, es, ep, h1, h2, _⟩ := (show x2y X.prog X.w H s.heap a (.dT kvs) from I.hok a _ ea)
    exact PySem.W.kia_one PySem.W.kitx_dict I.kIn ⟨o, h1, h2.1⟩ e (fun z => nomatch z) h
  | @ins a C dx fs ea cl ha hn htk hm =>
    cases (show u = Value.ref a from rx)
    obtain ⟨mA, O, _⟩ := z4p I.hok ea
    obtain ⟨od, J, _⟩ := O.look
    exact PySem.W.kia_one (PySem.W.kitx_own (cl.get _) cl.hd ha hn htk hm) I.kIn J e (fun z => nomatch z) h
end
structure Room (k : Nat) (A : Around) : Prop where
  hd : A.handled = none
  dp : A.depth + 3 * k + 5 < recursionLimit
  un : A.units + 16 * k + 200 < cLine
theorem Room.mono {j k : Nat} {A : Around} (r : Room k A) (h : j <= k) : Room j A := ⟨r.hd, by have := r.dp; omega, by have := r.un; omega⟩
theorem Room.deeper {k : Nat} {A : Around} (r : Room (k + 1) A) (env : Env) : Room k (A.deeper env) :=
  ⟨r.hd, by have := r.dp; show A.depth + 1 + 3 * k + 5 < _; omega, by have := r.un; show A.units + 3 + 16 * k + 200 < _; omega⟩
theorem Room.depth {k : Nat} {A : Around} (r : Room k A) : A.depth < recursionLimit := by have := r.dp; omega
theorem Room.units {k : Nat} {A : Around} (r : Room k A) : A.units + 64 < cLine := by have := r.un; omega
noncomputable def j0p : TA := fun _ H Q => Q [] H
noncomputable def z5w (ta : TE) (tr : TA) : TA := fun σ H Q => ta σ H fun x H1 => tr σ H1 fun xs H2 => Q (x :: xs) H2
section
variable {X : Cx} {e : Expr} {es : List Expr} {te : TE} {t : TA} {pos : Pos}
theorem y0o : PA X [] j0p := fun _ _ _ _ H Q I h => Calls.spliced_nil ⟨[], H, I, .nil, h⟩
theorem x6o (ha : PE X e te) (hr : PA X es t) (hs : starEach (e :: es) X.env = (false, eval e X.env) :: starEach es X.env := by rfl) : PA X (e :: es) (z5w te t) := by
  intro pos pins s σ H Q I h
  rw [hs]
  show wpAny _ _ (spliced ((false, eval e X.env) :: backTo pos (starEach es X.env))) _ _ s
  refine Calls.spliced_cons (thn (ha pins s σ H _ I h) fun u s1 hh0 => ?_)
  obtain ⟨x, H1, I1, r1, q1⟩ := hh0
  exact thn (hr pos pins s1 σ H1 _ I1 q1) fun us s2 ⟨xs, H2, I2, r2, q2⟩ => ⟨x :: xs, H2, I2, .cons r1 r2, q2⟩
noncomputable def j12 (t : TA) : TE := fun σ H Q => t σ H fun xs H1 => xs.length <= sizeLine /\ ∀ p, H1 p = none -> Q (.ref p) (upd H1 p (.tup xs))
noncomputable def j19 (t : TA) : TE := fun σ H Q => t σ H fun xs H1 => xs.length <= sizeLine /\ ∀ p, H1 p = none -> Q (.ref p) (upd H1 p (.lst xs))
theorem z84 {x1} (h : PA X es t) : PE X (.Tuple es x1 pos) (j12 t) := by
  intro pins s σ H Q I hq
  refine wpAny_Tuple_spliced (thn (h pos pins s σ H _ I hq) fun us s1 ⟨xs, H1, I1, r, z, q⟩ => ⟨by rw [<- r.length]; exact z, ?_⟩)
  have hf : H1 s1.heap.objs.size = none := I1.hok.fresh (Nat.le_refl _)
  refine ⟨.ref s1.heap.objs.size, upd H1 s1.heap.objs.size (.tup xs), I1.laid (t' := s1.toks) (fun b u e => Heap.get?_push_of_some _ e) (Nat.le_refl _) ?_, rfl, q _ hf⟩
  exact ⟨z, us, r, ⟨_, Heap.get?_push_size _ rfl, rfl, ⟨_, rfl⟩, rfl⟩⟩
theorem z61 (h : PA X es t) : PE X (.List es pos) (j19 t) := by
  intro pins s σ H Q I hq
  refine wpAny_List_spliced (thn (h pos pins s σ H _ I hq) fun us s1 ⟨xs, H1, I1, r, z, q⟩ => ⟨by rw [<- r.length]; exact z, ?_⟩)
  have hf : H1 s1.heap.objs.size = none := I1.hok.fresh (Nat.le_refl _)
  refine ⟨.ref s1.heap.objs.size, upd H1 s1.heap.objs.size (.lst xs), I1.laid (t' := s1.toks) (fun b u e => Heap.get?_push_of_some _ e) (Nat.le_refl _) ?_, rfl, q _ hf⟩
  exact ⟨z, us, 0, r, Heap.get?_push_size _ rfl⟩
end
noncomputable abbrev Sp := List V -> Hp -> VK -> XK -> Prop
noncomputable abbrev CXT := List Env -> Hp -> Shared -> XK -> Value -> Shared -> Prop
structure Env0 (P : Program) (w : World) (K : PySem.W.Frag) (mg : Str -> Option Value) (base : Heap) (A : Around) (outer : List Env) (s : Shared) (H : Hp) : Prop where
  frames : A.frames = some outer
  mod : Mod K mg base
  bs : ∀ b o, base.get? b = some o -> s.heap.get? b = some o /\ H b = none
  bsz : base.objs.size <= s.heap.objs.size
  funs : s.heap.FunFrames base outer
  frf : ∀ b ∈ frs outer, H b = none
  hok : HOk P w H s.heap
  bare : AllBare s.gens
noncomputable def CE (outer : List Env) (P : Program) (w : World) (H : Hp) (s : Shared) (Q : VK) (u : Value) (s' : Shared) : Prop :=
  ∃ v H', s'.os = s.os /\ AllBare s'.gens /\ Un (frs outer) [] H H' s.heap s'.heap /\ HOk P w H' s'.heap /\ x3r v u /\ Q v H'
noncomputable def CR (CX : CXT) (outer : List Env) (P : Program) (w : World) (H : Hp) (s : Shared) (Q : VK) (E : XK) (r : Result) (s' : Shared) : Prop :=
  match r with
  | .ok (.ret u) => CE outer P w H s Q u s'
  | .ok _ => False
  | .error e => CX outer H s E e s'
structure FnOk (P : Program) (w : World) (K : PySem.W.Frag) (mg : Str -> Option Value) (base : Heap) (CX : CXT) (k : Nat) (f : Addr) (fd : FuncData) (ps : List Str) (sp : Sp) : Prop where
  len : ∀ vs H Q E, sp vs H Q E -> vs.length = ps.length
  run : ∀ (A : Around) (outer : List Env) (s : Shared) (H : Hp) (args : Args) (us : List Value) (vs : List V) (Q : VK) (E : XK), Room k A -> Env0 P w K mg base A outer s H -> BindsTo s fd args (ps.zip us) -> x2p vs us -> sp vs H Q E ->
    codeAny (model P w) A (.call (.ref f) args) (CR CX outer P w H s Q E) s
section
variable {X : Cx} {pins : List (Addr × Obj)} {σ : St} {H : Hp} {s s' : Shared}
theorem Inv.env0 (I : Inv X pins σ H s) : Env0 X.prog X.w X.K X.mg X.base X.A X.stack s H :=
  ⟨I.ok.frames, I.ok.mod, I.bs, Nat.le_trans I.ok.bsz I.sz, I.stack, I.stkFree, I.hok, I.bare⟩
theorem Inv.after {Q : VK} {u : Value} (I : Inv X pins σ H s) (h : CE X.stack X.prog X.w H s Q u s') : EP X pins σ Q u s' := by
  obtain ⟨v, H', os, bare, un, hok, r, q⟩ := h
  obtain ⟨hh, g, d, t, os'⟩ := s'
  obtain rfl : os' = s.os := os
  exact ⟨v, H', I.call (h' := hh) (g' := g) (d' := d) (t' := t) (ch := []) un hok bare (fun b z => absurd z (by simp)), r, q⟩
end
noncomputable def j06 (sp : Sp) (dvs : List V) (E : XK) (t : TA) : TE := fun σ H Q => t σ H fun vs H1 => sp (vs ++ dvs) H1 Q E
noncomputable def y2d (K : PySem.W.Frag) (fd : FuncData) (ps : List Str) (ds : List Value) : Prop :=
  ∀ (s : Shared) (us : List Value), K.In s.heap -> (us ++ ds).length = ps.length -> BindsTo s fd ⟨us, []⟩ (ps.zip (us ++ ds))
theorem y2d.all {K : PySem.W.Frag} {fd : FuncData} {ps : List Str} (h : ∀ us : List Value, us.length = ps.length -> bindArgs fd ⟨us, []⟩ = pure (ps.zip us)) : y2d K fd ps [] := fun s us _ hl => by
  rw [List.append_nil] at hl ⊢
  exact .of_eq (h us hl)
noncomputable def y5d (CX : CXT) (X : Cx) (E : XK) : Prop := ∀ (pins : List (Addr × Obj)) (σ : St) (H : Hp) (s : Shared) (e : Value) (s' : Shared), Inv X pins σ H s -> CX X.stack H s E e s' -> X.xe e s'
section
variable {X : Cx} {CX : CXT} {k : Nat} {f C : Addr} {fd : FuncData} {ps : List Str} {sp : Sp} {dvs : List V} {ds : List Value} {E : XK} {x m : Str} {p pos apos : Pos} {e o : Expr} {es : List Expr} {ta : TE} {t : TA}
theorem z6s {pins : List (Addr × Obj)} {σ : St} {H : Hp} {s : Shared} {Q : VK} {us : List Value} {vs : List V} (F : FnOk X.prog X.w X.K X.mg X.base CX k f fd ps sp) (hr : Room k X.A) (hb : y2d X.K fd ps ds) (hd : x2p dvs ds) (hx : y5d CX X E)
    (I : Inv X pins σ H s) (r : x2p vs us) (h : sp (vs ++ dvs) H Q E) : wpAny (model X.prog X.w) X.A (call (.ref f) us) (EP X pins σ Q) X.xe s := by
  have r2 : x2p (vs ++ dvs) (us ++ ds) := r.append hd
  have hl : (us ++ ds).length = ps.length := by rw [<- r2.length]; exact F.len _ _ _ _ h
  refine wpAny_call (codeAny_mono (F.run X.A X.stack s H ⟨us, []⟩ (us ++ ds) (vs ++ dvs) Q E hr I.env0 (hb s us I.kIn hl) r2 h) fun r s' hq => ?_)
  cases r with
  | error e => exact hx pins σ H s e s' I hq
  | ok fl =>
    cases fl with
    | ret u => exact I.after hq
    | next => exact False.elim hq
    | brk => exact False.elim hq
    | cont => exact False.elim hq
theorem z3z (F : FnOk X.prog X.w X.K X.mg X.base CX k f fd ps sp) (hr : Room k X.A) (hg : Gl X x) (hm : X.mg x = some (.ref f)) (hk : PySem.W.keepIn X.K (.ref f) = true) (hb : y2d X.K fd ps ds) (hd : x2p dvs ds) (hx : y5d CX X E)
    (ha : PA X (e :: es) t) (hdb : (x == ("__debug__" : Str)) = false := by decide) (he : starEach (e :: es) X.env = (false, eval e X.env) :: starEach es X.env := by rfl) (hpl : (backTo pos (starEach es X.env)).any (·.1) = false := by rfl) :
    PE X (.Call (.Name x p) (e :: es) [] pos) (j06 sp dvs E t) := by
  intro pins s σ H Q I h
  refine wpAny_Call_Name_kw (z34 I hg hm ?_ hdb)
  refine PySem.W.callWith_K (h₀ := X.base) I.ok.mod.kin hk (thn (ha pos pins s σ H _ I h) fun us s1 ⟨vs, H1, I1, r, q⟩ => ⟨I1.kIn, ?_⟩) he hpl
  exact z6s F hr hb hd hx I1 r q
end
structure FnScope (N P : List Str) (sc : Scope) : Prop where
  kind : sc.kind = .function
  co : sc.isCoroutine = false
  gen : sc.isGenerator = false
  nd : N.Nodup
  pre : N.take P.length = P
  par : ∀ x ∈ P, sc.names.lookup x = some .local \/ sc.names.lookup x = some .cell
  nofree : ∀ y ∈ sc.names, y.2 ≠ .free
theorem y2r {kindOf : Str -> Option NameKind} {x : Str} : ∀ {binds : List (Str × Value)} {m : Str -> Option Value}, (∀ v, (x, v) ∉ binds) -> bindL kindOf binds m x = m x
  | [], _, _ => rfl
  | (n, v) :: r, m, h => by
    unfold bindL
    rw [y2r fun w hw => h w (List.mem_cons_of_mem _ hw)]
    split
    · have : x ≠ n := by rintro rfl; exact h v List.mem_cons_self
      simp [this]
    · rfl
theorem y2u {kindOf : Str -> Option NameKind} {x : Str} : ∀ {binds : List (Str × Value)} {m : Str -> Option Value}, (∀ v, (x, v) ∉ binds) -> bindC kindOf binds m x = m x
  | [], _, _ => rfl
  | (n, v) :: r, m, h => by
    unfold bindC
    rw [y2u fun w hw => h w (List.mem_cons_of_mem _ hw)]
    split
    · rfl
    · have : x ≠ n := by rintro rfl; exact h v List.mem_cons_self
      simp [this]
theorem y3h {kindOf : Str -> Option NameKind} {x : Str} {v : Value} : ∀ {P : List Str} {vs : List Value} {i : Nat} {m : Str -> Option Value}, P.Nodup -> P[i]? = some x -> vs[i]? = some v -> kindOf x = some .local ->
    bindL kindOf (P.zip vs) m x = some v
  | [], _, _, _, _, h, _, _ => by simp at h
  | _ :: _, [], _, _, _, _, h, _ => by simp at h
  | p :: P, w :: vs, 0, m, nd, h1, h2, hk => by
    simp at h1 h2; subst h1; subst h2
    show bindL kindOf ((p, w) :: P.zip vs) m p = _
    unfold bindL
    rw [y2r fun v hv => (List.nodup_cons.mp nd).1 (List.of_mem_zip hv).1, if_pos hk]
    simp
  | p :: P, w :: vs, i + 1, m, nd, h1, h2, hk => by
    show bindL kindOf ((p, w) :: P.zip vs) m x = _
    unfold bindL
    exact y3h (i := i) (List.nodup_cons.mp nd).2 (by simpa using h1) (by simpa using h2) hk
theorem y3i {kindOf : Str -> Option NameKind} {x : Str} {v : Value} : ∀ {P : List Str} {vs : List Value} {i : Nat} {m : Str -> Option Value}, P.Nodup -> P[i]? = some x -> vs[i]? = some v -> kindOf x ≠ some .local ->
    bindC kindOf (P.zip vs) m x = some v
  | [], _, _, _, _, h, _, _ => by simp at h
  | _ :: _, [], _, _, _, _, h, _ => by simp at h
  | p :: P, w :: vs, 0, m, nd, h1, h2, hk => by
    simp at h1 h2; subst h1; subst h2
    show bindC kindOf ((p, w) :: P.zip vs) m p = _
    unfold bindC
    rw [y2u fun v hv => (List.nodup_cons.mp nd).1 (List.of_mem_zip hv).1, if_neg hk]
    simp
  | p :: P, w :: vs, i + 1, m, nd, h1, h2, hk => by
    show bindC kindOf ((p, w) :: P.zip vs) m x = _
    unfold bindC
    exact y3i (i := i) (List.nodup_cons.mp nd).2 (by simpa using h1) (by simpa using h2) hk
noncomputable def y03 (N : List Str) (vs : List V) : St := vs.map some ++ List.replicate (N.length - vs.length) none
noncomputable def y74 (CX : CXT) (P : Program) (w : World) (K : PySem.W.Frag) (mg : Str -> Option Value) (base : Heap) (N : List Str) (qual : Str) (scope : Scope) (f : Addr) (cd : Value) (A : Around) (outer : List Env) (s : Shared) (H : Hp) (E : XK) : Cx where
  prog := P
  w := w
  K := K
  mg := mg
  base := base
  A := A.deeper (envOfC qual scope s.heap.objs.size f cd)
  N := N
  s₀ := s
  H₀ := H
  env := envOfC qual scope s.heap.objs.size f cd
  outer := outer
  stack := envOfC qual scope s.heap.objs.size f cd :: outer
  ex := []
  calm := true
  fn := fun _ => true
  pn := []
  xe := fun e s' => wpAny (model P w) (A.deeper (envOfC qual scope s.heap.objs.size f cd)) (leaving (envOfC qual scope s.heap.objs.size f cd) e) (fun _ s'' => CX outer H s E e s'') (fun e' s'' => CX outer H s E e' s'') s'
theorem y5a {sc : Scope} {n : Nat} {x : Str} (h : sc.names.lookup x = some .cell) : ∃ c, (cellsFrom n sc.names []).lookup x = some c := by
  have q := PySem.W.cellsFrom_some sc.names n [] (.inl h)
  exact Option.isSome_iff_exists.mp q
theorem y8e {CX : CXT} {P : Program} {w : World} {K : PySem.W.Frag} {mg : Str -> Option Value} {base : Heap} {N ps : List Str} {qual : Str} {scope : Scope} {f : Addr} {cd : Value} {A : Around} {outer : List Env} {s s1 : Shared} {H : Hp} {E : XK} {us : List Value} {vs : List V}
    (S : FnScope N ps scope) (hd : A.handled = none) (e0 : Env0 P w K mg base A outer s H) (hl : vs.length = ps.length) (r : x2p vs us)
    (x : InCallC s s.heap.objs.size (bindL (envOfC qual scope s.heap.objs.size f cd).kindOf (ps.zip us) fun _ => none) (cellsFrom (s.heap.objs.size + 1) scope.names []) (bindC (envOfC qual scope s.heap.objs.size f cd).kindOf (ps.zip us) fun _ => none) s1) :
    Inv (y74 CX P w K mg base N qual scope f cd A outer s H E) [] (y03 N vs) H s1 := by
  have hpl : ps.length <= N.length := by have := congrArg List.length S.pre; rw [List.length_take] at this; omega
  obtain ⟨h1, tk, rfl, hk⟩ := x.done
  have noA : ∀ b : Addr, b ∉ (y74 CX P w K mg base N qual scope f cd A outer s H E).ex := fun b z => absurd (show b ∈ ([] : List Addr) from z) (by simp)
  refine ⟨⟨e0.mod, S.kind, rfl, rfl, Nat.le_refl _, fun y z c h1 h2 => ?_, fun y hy => ?_, fun y c _ h => ?_, fun _ => hd, Around.frames_deeper e0.frames, .inr ⟨rfl, rfl⟩, fun b z => absurd z (noA b), e0.bs, e0.bsz, fun b _ _ => noA b, fun b z => absurd z (noA b), e0.funs, e0.frf⟩,
    rfl, e0.bare, Un.kept hk, ⟨_, x.toInCall.ns, fun i y v h1 h2 h3 => ?_⟩, fun y c h => ⟨_, x.cell y c h⟩, e0.hok.fresh (Nat.le_refl _), fun y c h => ?_, fun p hp => absurd (show p ∈ ([] : List (Addr × Obj)) from hp) (by simp), e0.hok.kept hk, ?_⟩
  · exact name_of_addr x.apart (PySem.mem_of_lookup h1) (PySem.mem_of_lookup h2)
  · have hy : scope.names.lookup y = some .cell \/ scope.names.lookup y = some .free := hy
    rcases hy with hy | hy
    · exact y5a hy
    · exact absurd rfl (S.nofree _ (PySem.mem_of_lookup hy))
  · exact Nat.le_of_lt (x.above y c (PySem.mem_of_lookup h))
  · have hi : i < vs.length := by
      unfold y03 at h2
      by_cases hi : i < vs.length
      · exact hi
      · rw [List.getElem?_append_right (by simpa using hi)] at h2
        rw [List.getElem?_replicate] at h2
        split at h2 <;> cases h2
    have ha : vs[i]? = some v := by
      unfold y03 at h2
      rw [List.getElem?_append_left (by simpa using hi), List.getElem?_map] at h2
      cases e : vs[i]? with
      | none => rw [e] at h2; cases h2
      | some a => rw [e] at h2; cases h2; rfl
    obtain ⟨u, hu, rv⟩ := r.get ha
    have hp : ps[i]? = some y := by
      rw [<- S.pre, List.getElem?_take_of_lt (by omega)]; exact h1
    have ndP : ps.Nodup := by rw [<- S.pre]; exact S.nd.sublist (List.take_sublist _ _)
    refine ⟨u, rv, ?_⟩
    rcases S.par y (List.mem_of_getElem? hp) with k | k
    · exact .inl ⟨k, y3h ndP hp hu k⟩
    · obtain ⟨c, e⟩ := y5a (n := s.heap.objs.size + 1) k
      refine .inr ⟨.inl k, c, e, ?_⟩
      have q := x.cell y c e
      rw [y3i ndP hp hu (by show scope.names.lookup y ≠ _; rw [k]; decide)] at q
      exact q
  · exact e0.hok.fresh (Nat.le_of_lt (x.above y c (PySem.mem_of_lookup h)))
  · unfold y03
    show _ = N.length
    rw [List.length_append, List.length_map, List.length_replicate]
    omega
theorem z94 {CX : CXT} {P : Program} {w : World} {K : PySem.W.Frag} {mg : Str -> Option Value} {base : Heap} {k : Nat} {f : Addr} {name qual : Str} {params : Arguments} {body : List Stmt} {scope : Scope} {dV kV doc pm cdv ct oc : Value} {an od : Option Addr}
    {osl : Array (Option Value)} {N ps : List Str} {sp : Sp} (lk : K.lookup f = some ⟨oc, od, .func (PySem.W.fnOf name qual params body scope dV kV doc pm an cdv ct), osl⟩) (hcd : PySem.W.codeIn K cdv qual = true) (S : FnScope N ps scope)
    (len : ∀ vs H Q E, sp vs H Q E -> vs.length = ps.length)
    (hbody : ∀ (A : Around) (outer : List Env) (s : Shared) (H : Hp) (vs : List V) (Q : VK) (E : XK), Room k (A.deeper (envOfC qual scope s.heap.objs.size f cdv)) -> sp vs H Q E ->
      ∃ t, PSs (y74 CX P w K mg base N qual scope f cdv A outer s H E) body t /\ t { nx := fun _ H' => Q .non H', rt := Q } (y03 N vs) H) :
    FnOk P w K mg base CX (k + 1) f (PySem.W.fnOf name qual params body scope dV kV doc pm an cdv ct) ps sp := by
  refine ⟨len, fun A outer s H args us vs Q E hr e0 hb r hsp => ?_⟩
  have hl := len _ _ _ _ hsp
  have KX : K.In s.heap := e0.mod.kin.keeps fun b o e => (e0.bs b o e).1
  have lim : s.heap.NoLimit := e0.mod.nolimit.keeps fun b o e => (e0.bs b o e).1
  have hkind : ∀ y ∈ ps.zip us, scope.names.lookup y.1 = some .local \/ (scope.names.lookup y.1 = some .cell /\ ((cellsFrom (s.heap.objs.size + 1) scope.names []).lookup y.1).isSome = true) := fun ⟨n, v⟩ hy => by
    rcases S.par n (List.of_mem_zip hy).1 with q | q
    · exact .inl q
    · exact .inr ⟨q, PySem.W.cellsFrom_some _ _ _ (.inl q)⟩
  refine codeAny_call_function hr.depth (KX _ _ lk) rfl S.co S.gen rfl (PySem.W.codeRec_of KX hcd) (hb _ _ _ _ ?_)
  refine wpAny_newFunctionEnv_cells S.kind hkind fun env he s1 x => ?_
  subst he
  refine ⟨lim.keeps x.toInCall.keep, codeAny_func ?_⟩
  obtain ⟨t, ht, hq⟩ := hbody A outer s H vs Q E (hr.deeper _) hsp
  have I : Inv (y74 CX P w K mg base N qual scope f cdv A outer s H E) [] (y03 N vs) H s1 := y8e S hr.hd e0 hl r x
  refine wpAny_mono (ht [] s1 (y03 N vs) H _ I hq) (fun fl s' hs => ?_) fun e s' hs => hs
  have fin : ∀ {σ' : St} {H' : Hp} {v : V} {u : Value}, Inv (y74 CX P w K mg base N qual scope f cdv A outer s H E) [] σ' H' s' -> x3r v u -> Q v H' -> CE outer P w H s Q u s' :=
    fun {σ' H' v u} J rv q => ⟨v, H', J.os, J.bare, J.base, J.hok, rv, q⟩
  cases fl with
  | ret u =>
    obtain ⟨v, σ', H', J, rv, q⟩ := hs
    exact fin J rv q
  | next =>
    obtain ⟨σ', H', J, q⟩ := hs
    exact fin (v := V.non) (u := Value.none) J rfl q
  | brk =>
    obtain ⟨_, _, _, q⟩ := hs
    exact False.elim q
  | cont =>
    obtain ⟨_, _, _, q⟩ := hs
    exact False.elim q
section
variable {X : Cx} {x : Str} {p pos : Pos} {e : Expr} {es : List Expr} {t : TA} {id T : String} {r : List V -> Hp -> VK -> Prop}
noncomputable def tCB (r : List V -> Hp -> VK -> Prop) (t : TA) : TE := fun σ H Q => t σ H fun vs H1 => r vs H1 Q
theorem x5u (hc : y0c X (.builtin id) r) (hg : Gl X x) (hm : X.mg x = none) (hv : bootBuiltins x = some (.builtin id)) (ha : PA X (e :: es) t) (hn : x ≠ "__name__" := by decide) (hdb : (x == ("__debug__" : Str)) = false := by decide)
    (he : starEach (e :: es) X.env = (false, eval e X.env) :: starEach es X.env := by rfl) (hpl : (backTo pos (starEach es X.env)).any (·.1) = false := by rfl) : PE X (.Call (.Name x p) (e :: es) [] pos) (tCB r t) := by
  intro pins s σ H Q I h
  refine wpAny_Call_Name_kw (y0m I hg hm hv ?_ hn hdb)
  exact PyProof.Rows.callWith_builtin1 (thn (ha pos pins s σ H _ I h) fun us s1 ⟨vs, H1, I1, r1, q1⟩ => hc pins s1 σ H1 vs us Q I1 r1 q1) he hpl
theorem x6y (hc : y0c X (.type T) r) (hg : Gl X x) (hm : X.mg x = none) (hv : bootBuiltins x = some (.type T)) (ha : PA X (e :: es) t) (hn : x ≠ "__name__" := by decide) (hdb : (x == ("__debug__" : Str)) = false := by decide)
    (he : starEach (e :: es) X.env = (false, eval e X.env) :: starEach es X.env := by rfl) (hpl : (backTo pos (starEach es X.env)).any (·.1) = false := by rfl) : PE X (.Call (.Name x p) (e :: es) [] pos) (tCB r t) := by
  intro pins s σ H Q I h
  refine wpAny_Call_Name_kw (y0m I hg hm hv ?_ hn hdb)
  exact PyProof.Rows.callWith_type1 (thn (ha pos pins s σ H _ I h) fun us s1 ⟨vs, H1, I1, r1, q1⟩ => hc pins s1 σ H1 vs us Q I1 r1 q1) he hpl
end
end L2
namespace HT
open PySem PyProof.Rows
section
open PySem.SeqAt
open PySem.AutoSeq1 (wpAny_loadPart')
open PySem.MeetsSeq PySem.MeetsSeq2 PySem.MeetsSeq3
end
section
variable {prog : Program} {w : World} {A : Around} {E : Value -> Shared -> Prop} {s : Shared}
theorem z90 {t b : Addr} {vs ws : List Value} {Q : Value -> Shared -> Prop} (ht : IsTup s.heap t vs.toArray) (hb : IsTup s.heap b ws.toArray) (hv : vs ≠ [])
    (h1 : ws = [] -> Q (.ref t) s) (h2 : ws ≠ [] -> Q (.ref s.heap.objs.size) { s with heap := s.heap.push { cls := .type "tuple", data := .seq (vs ++ ws).toArray } })
    (hsz : vs.length + ws.length <= sizeLine) : wpAny (model prog w) A (binaryOp .Add (.ref t) (.ref b)) Q E s := by
  obtain ⟨⟨cls, dd, data, sl⟩, ho, hc, n, hd⟩ := id ht
  obtain ⟨⟨cls2, dd2, data2, sl2⟩, ho2, hc2, n2, hd2⟩ := id hb
  simp only at hc hd hc2 hd2
  subst hc hd hc2 hd2
  have e : vs.toArray ++ ws.toArray = (vs ++ ws).toArray := by simp
  by_cases hw : ws = []
  · exact concat_meets ⟨_, ho, rfl⟩ ⟨_, ho2, rfl⟩ noFill_tuple_add seq_tuple_add PySem.F.slot_tuple_add PySem.F.entry_tuple_add (PySem.F.args_tuple_add_2 _ _)
      (tuple_addW1 t b vs.toArray ws.toArray n n2 dd dd2 sl sl2 (by simpa using hv) (by simp [hw])) ⟨ho, ho2, h1 hw⟩
  · refine concat_meets ⟨_, ho, rfl⟩ ⟨_, ho2, rfl⟩ noFill_tuple_add seq_tuple_add PySem.F.slot_tuple_add PySem.F.entry_tuple_add (PySem.F.args_tuple_add_2 _ _)
      (tuple_addW2 t b vs.toArray ws.toArray n n2 dd dd2 sl sl2 (by simpa using hv) (by simpa using hw) (by rw [List.size_toArray, List.size_toArray]; exact hsz)) ⟨ho, ho2, ?_⟩
    rw [e]
    exact h2 hw
noncomputable def sIx (n d : Nat) : Option Int -> Nat
  | none => d
  | some v => if v < 0 then (v + (n : Int)).toNat else min v.toNat n
theorem z8h (n d : Nat) (hd : d <= n) (o : Option Int) : sIx n d o <= n := by
  cases o with
  | none => exact hd
  | some v =>
    show (if v < 0 then (v + (n : Int)).toNat else min v.toNat n) <= n
    by_cases hv : v < 0
    · rw [if_pos hv]; omega
    · rw [if_neg hv]; exact Nat.min_le_right _ _
theorem y8r (v : Int) (n d : Nat) : (if v < 0 then max (v + (n : Int)) 0 else min v (n : Int)) = ((sIx n d (some v) : Nat) : Int) := by
  show (if v < 0 then max (v + (n : Int)) 0 else min v (n : Int)) = (((if v < 0 then (v + (n : Int)).toNat else min v.toNat n) : Nat) : Int)
  by_cases hv : v < 0
  · simp only [if_pos hv]; omega
  · simp only [if_neg hv]; omega
theorem y63 (lo hi : Option Int) (n : Nat) : Builtin.Slice.sliceAdjust lo hi 1 (n : Int) = (((sIx n 0 lo : Nat) : Int), ((sIx n n hi : Nat) : Int)) := by
  have h1 : ¬ ((1 : Int) < 0) := by omega
  unfold Builtin.Slice.sliceAdjust
  simp only [h1, if_false]
  refine Prod.ext ?_ ?_
  · cases lo with
    | none => rfl
    | some v => exact y8r v n 0
  · cases hi with
    | none => rfl
    | some v => exact y8r v n n
theorem y65 (i j : Nat) : Builtin.Slice.slicePlaces (i : Int) (j : Int) 1 = j - i := by
  unfold Builtin.Slice.slicePlaces
  have h1 : (1 : Int) > 0 := by omega
  simp only [h1, if_true, Int.ediv_one]
  split <;> omega
theorem y0p {v : Value} {o : Option Int} {Q : Option Int -> Shared -> Prop} (p : IsPart v o) (h : Q o s) : wpAny (model prog w) A (Builtin.Slice.slicePartIndex v) Q E s := by
  cases p with
  | none => exact slicePart_none h
  | int i t => exact slicePart_int h
theorem x90 {sl : Addr} {vl vu : Value} {lo hi : Option Int} {n : Nat} {Q : Int × Int × Nat -> Shared -> Prop} (hs : s.heap.IsSliceOf sl vl vu .none) (pl : IsPart vl lo) (pu : IsPart vu hi)
    (h : Q (((sIx n 0 lo : Nat) : Int), 1, sIx n n hi - sIx n 0 lo) s) : wpAny (model prog w) A (Builtin.Slice.sliceApplied (.ref sl) (pure (n : Int))) Q E s := by
  obtain ⟨os, hos, hcs, hds⟩ := id hs
  unfold Builtin.Slice.sliceApplied Builtin.Slice.sliceFields
  refine wpAny_bind (wpAny_bind (wpAny_field hos hds (x := vl) rfl (wpAny_bind (wpAny_field hos hds (x := vu) rfl (wpAny_bind (wpAny_field hos hds (x := .none) rfl (wpAny_pure ?_)))))))
  refine wpAny_bind (slicePart_none ?_)
  show wpAny _ _ (if ((1 : Int) == 0) = true then _ else _) _ _ s
  rw [if_neg (by decide)]
  refine wpAny_bind (y0p pl (wpAny_bind (y0p pu (wpAny_bind (wpAny_pure ?_)))))
  show wpAny _ _ (match Builtin.Slice.sliceAdjust lo hi 1 (n : Int) with | (lo, hi) => pure (lo, (1 : Int), Builtin.Slice.slicePlaces lo hi 1)) _ _ s
  rw [y63 lo hi n]
  show wpAny _ _ (pure (((sIx n 0 lo : Nat) : Int), (1 : Int), Builtin.Slice.slicePlaces ((sIx n 0 lo : Nat) : Int) ((sIx n n hi : Nat) : Int) 1)) _ _ s
  rw [y65]
  exact wpAny_pure h
theorem y9d (xs : Array Value) (i k : Nat) : ((List.range k).filterMap fun (m : Nat) => xs[((i : Int) + (m : Int) * 1).toNat]?).toArray = ((xs.toList.drop i).take k).toArray := by
  have e : (fun (m : Nat) => xs[((i : Int) + (m : Int) * 1).toNat]?) = fun m => xs[i + m]? := by
    funext m
    have : ((i : Int) + (m : Int) * 1).toNat = i + m := by omega
    rw [this]
  rw [e]
  have := pick_run xs i k
  rw [List.filterMap_map] at this
  have e2 : ((fun x => xs[x]?) ∘ fun x => i + x) = fun m => xs[i + m]? := rfl
  rw [e2] at this
  rw [this]
theorem y60 {t sl : Addr} {items : Array Value} {vl vu : Value} {lo hi : Option Int} {Q : Value -> Shared -> Prop} (ht : IsTup s.heap t items) (hs : s.heap.IsSliceOf sl vl vu .none) (pl : IsPart vl lo) (pu : IsPart vu hi)
    (hw : ¬ (sIx items.size 0 lo = 0 /\ sIx items.size items.size hi = items.size))
    (h : Q (.ref s.heap.objs.size) { s with heap := s.heap.push { cls := .type "tuple", data := .seq ((items.toList.drop (sIx items.size 0 lo)).take (sIx items.size items.size hi - sIx items.size 0 lo)).toArray } })
    (hsz : items.size <= sizeLine) : wpAny (model prog w) A (getItem (.ref t) (.ref sl)) Q E s := by
  have htake : sizeOk (.seq ((items.toList.drop (sIx items.size 0 lo)).take (sIx items.size items.size hi - sIx items.size 0 lo)).toArray) := by
    show ((items.toList.drop (sIx items.size 0 lo)).take (sIx items.size items.size hi - sIx items.size 0 lo)).toArray.size <= sizeLine
    rw [List.size_toArray, List.length_take, List.length_drop, Array.length_toList]
    omega
  have hj : sIx items.size items.size hi <= items.size := z8h _ _ (Nat.le_refl _) hi
  obtain ⟨os, hos, hcs, hds⟩ := id hs
  have hTs : s.TypeIs (.ref sl) "slice" := ⟨os, hos, hcs⟩
  unfold getItem
  try with_reducible refine wpAny_holding ?_
  first | refine wpAny_bind (wpAny_pure ?_) | skip
  refine wpAny_bind (wpAny_sequenceKey ht.typeIs (by decide) ?_)
  refine wpAny_bind (wpAny_callSpecial?_slot (name := Str.ofString "__getitem__") ht.typeIs PyProof.Rows.slot_tuple_getitem
    (wpAny_call_entry PyProof.Rows.slot_tuple_getitem ht.typeIs entry_tuple_getitem ?_ (args_tuple_getitem _ _)))
  show wpAny _ _ (Builtin.Tuple.tupleItemsOf (.ref t) >>= _) _ _ s
  refine wpAny_bind (tupleItemsOf_ ht ?_)
  refine wpAny_bind (wpAny_typeOf hTs ?_)
  rw [if_pos (by decide)]
  refine wpAny_bind (x90 hs pl pu ?_)
  have hno : ¬ ((((sIx items.size 0 lo : Nat) : Int) == 0 && (1 : Int) == 1 && (sIx items.size items.size hi - sIx items.size 0 lo) == items.size) = true) := by
    intro q
    rw [Bool.and_eq_true, Bool.and_eq_true] at q
    have q1 : ((sIx items.size 0 lo : Nat) : Int) = 0 := eq_of_beq q.1.1
    have q2 : sIx items.size items.size hi - sIx items.size 0 lo = items.size := eq_of_beq q.2
    exact hw ⟨by omega, by omega⟩
  show wpAny _ _ (if (((sIx items.size 0 lo : Nat) : Int) == 0 && (1 : Int) == 1 && (sIx items.size items.size hi - sIx items.size 0 lo) == items.size) = true then _ else _) _ _ s
  rw [if_neg hno, y9d]
  first
    | exact wpAny_bind (m := Builtin.Tuple.tupleExact _) (wpAny_newObj_type (wpAny_pure ⟨_, rfl, wpAny_pure h⟩) htake)
    | exact wpAny_bind (m := Builtin.Tuple.tupleExact _) (wpAny_newObj_type (wpAny_bind (wpAny_pure (wpAny_pure ⟨_, rfl, wpAny_pure h⟩))) htake)
    | exact wpAny_bind (wpAny_bind (m := Builtin.Tuple.tupleExact _) (wpAny_newObj_type (wpAny_pure (wpAny_pure ⟨_, rfl, wpAny_pure h⟩)) htake))
    | exact wpAny_bind (wpAny_bind (m := Builtin.Tuple.tupleExact _) (wpAny_newObj_type (wpAny_pure ⟨_, rfl, wpAny_pure h⟩) htake))
end
end HT
namespace L2
open PySem PySem.Spec PyProof.Rows
noncomputable abbrev TO := St -> Hp -> (Option Int -> Hp -> Prop) -> Prop
noncomputable def PO (X : Cx) (e : Option Expr) (t : TO) : Prop :=
  ∀ (pins : List (Addr × Obj)) (s : Shared) (σ : St) (H : Hp) (Q : Option Int -> Hp -> Prop), Inv X pins σ H s -> t σ H Q ->
    wpAny (model X.prog X.w) X.A (evalPart e X.env) (fun u s' => ∃ o H', Inv X pins σ H' s' /\ IsPart u o /\ Q o H') X.xe s
noncomputable def z26 : TO := fun _ H Q => Q none H
noncomputable def z9w (t : TE) : TO := fun σ H Q => t σ H fun x H1 => ∃ i, x = .int i /\ Q (some i) H1
section
variable {X : Cx} {e : Expr} {te : TE} {lo hi : Option Expr} {tl th : TO} {pos p2 : Pos}
theorem z2d : PO X none z26 := by
  intro pins s σ H Q I h
  rw [evalPart_none]
  exact wpAny_pure ⟨none, H, I, .none, h⟩
theorem z2o (h : PE X e te) : PO X (some e) (z9w te) := by
  intro pins s σ H Q I hw
  rw [evalPart_some]
  refine thn (h pins s σ H _ I hw) fun u s1 hh0 => ?_
  obtain ⟨x, H1, I1, r1, q1⟩ := hh0
  obtain ⟨i, rfl, q⟩ := q1
  obtain ⟨t, rfl⟩ := r1
  exact ⟨some i, H1, I1, .int i t, q⟩
noncomputable def SlR (X : Cx) (r : V -> Option Int -> Option Int -> Hp -> VK -> Prop) : Prop :=
  ∀ (pins : List (Addr × Obj)) (s : Shared) (σ : St) (H : Hp) (x : V) (v vl vu : Value) (lo hi : Option Int) (sl : Addr) (Q : VK), Inv X pins σ H s -> x3r x v -> s.heap.IsSliceOf sl vl vu .none -> IsPart vl lo -> IsPart vu hi -> r x lo hi H Q ->
    ∃ T id, typeLookup (.type T) "__getitem__" = pure (some (.builtin id)) /\ s.TypeIs v T /\ wpAny (model X.prog X.w) X.A (getItem v (.ref sl)) (EP X pins σ Q) X.xe s
theorem SlR.or {r r' : V -> Option Int -> Option Int -> Hp -> VK -> Prop} (h : SlR X r) (h' : SlR X r') : SlR X (fun x lo hi H Q => r x lo hi H Q \/ r' x lo hi H Q) := by
  intro pins s σ H x v vl vu lo hi sl Q I rx hs pl pu q
  rcases q with q | q
  · exact h pins s σ H x v vl vu lo hi sl Q I rx hs pl pu q
  · exact h' pins s σ H x v vl vu lo hi sl Q I rx hs pl pu q
noncomputable def tSl (r : V -> Option Int -> Option Int -> Hp -> VK -> Prop) (te : TE) (tl th : TO) : TE := fun σ H Q => te σ H fun x H1 => tl σ H1 fun l H2 => th σ H2 fun u H3 => r x l u H3 Q
theorem z1e {r : V -> Option Int -> Option Int -> Hp -> VK -> Prop} (hr : SlR X r) (he : PE X e te) (hl : PO X lo tl) (hu : PO X hi th) : PE X (.Subscript e (.Slice lo hi none p2) pos) (tSl r te tl th) := by
  intro pins s σ H Q I h
  refine Subscript_ (thn (he pins s σ H _ I h) fun v s1 hh0 => ?_)
  obtain ⟨x, H1, I1, r1, q1⟩ := hh0
  refine wpAny_Slice (thn (hl pins s1 σ H1 _ I1 q1) fun vl s2 ⟨l, H2, I2, pl, q2⟩ => thn (hu pins s2 σ H2 _ I2 q2) fun vu s3 hh0 => ?_)
  obtain ⟨u, H3, I3, pu, q3⟩ := hh0
  rw [evalPart_none]
  refine wpAny_pure ?_
  have I4 : Inv X pins σ H3 { s3 with heap := s3.heap.push { cls := .type "slice", data := .fields #[vl, vu, .none] } } := I3.kept (t' := s3.toks) fun b ob q => Heap.get?_push_of_some _ q
  obtain ⟨T, id, hT, ht, hg⟩ := hr pins { s3 with heap := s3.heap.push { cls := .type "slice", data := .fields #[vl, vu, .none] } } σ H3 x v vl vu l u s3.heap.objs.size Q I4 r1 (Heap.IsSliceOf.new ..) pl pu q3
  show wpAny (model X.prog X.w) X.A (subscriptTail e (.Slice lo hi none p2) v (.ref s3.heap.objs.size)) (EP X pins σ Q) X.xe { s3 with heap := s3.heap.push { cls := .type "slice", data := .fields #[vl, vu, .none] } }
  exact tail_any (ops := [.ref s3.heap.objs.size, v]) ht hT hg (by with_unfolding_all rfl)
noncomputable def z1m (xs : List V) (lo hi : Option Int) : List V := (xs.drop (HT.sIx xs.length 0 lo)).take (HT.sIx xs.length xs.length hi - HT.sIx xs.length 0 lo)
theorem x9m (xs : List V) (lo hi : Option Int) : (z1m xs lo hi).length <= xs.length := by
  unfold z1m
  rw [List.length_take, List.length_drop]
  omega
noncomputable def j0v (K : PySem.W.Frag) : V -> Option Int -> Option Int -> Hp -> VK -> Prop := fun x lo hi H Q => ∃ a xs, x = .ref a /\ SqT K H a xs /\
  ¬ (HT.sIx xs.length 0 lo = 0 /\ HT.sIx xs.length xs.length hi = xs.length) /\ ∀ p, H p = none -> Q (.ref p) (upd H p (.tup (z1m xs lo hi)))
theorem z7z : SlR X (j0v X.K) := by
  intro pins s σ H x v vl vu lo hi sl Q I rx hs pl pu h
  obtain ⟨a, xs, rfl, hx, hw, q⟩ := h
  cases rx
  obtain ⟨its, r, ht, hz⟩ := I.tuple hx
  have hlen : its.toArray.size = xs.length := by rw [List.size_toArray]; exact r.length.symm
  refine ⟨"tuple", _, PyProof.Rows.slot_tuple_getitem.lookup, ht.typeIs, ?_⟩
  refine HT.y60 ht hs pl pu (by rw [hlen]; exact hw) ?_ (by rw [hlen]; exact hz)
  rw [hlen]
  refine ⟨.ref s.heap.objs.size, _, I.laid (t' := s.toks) (o := .tup (z1m xs lo hi)) (fun b ob q => Heap.get?_push_of_some _ q) (Nat.le_refl _) ?_, rfl, q _ (I.hok.fresh (Nat.le_refl _))⟩
  exact ⟨Nat.le_trans (x9m xs lo hi) hz, _, (r.drop (HT.sIx xs.length 0 lo)).take (HT.sIx xs.length xs.length hi - HT.sIx xs.length 0 lo), x4u.new _ _⟩
noncomputable def j09 (K : PySem.W.Frag) : R2 := fun x y H Q => ∃ a b xs ys, x = .ref a /\ y = .ref b /\ SqT K H a xs /\ SqT K H b ys /\ xs ≠ [] /\ xs.length + ys.length <= sizeLine /\
  (ys = [] -> Q (.ref a) H) /\ (ys ≠ [] -> ∀ p, H p = none -> Q (.ref p) (upd H p (.tup (xs ++ ys))))
theorem x2p.nil_iff {xs : List V} {us : List Value} (r : x2p xs us) : us = [] ↔ xs = [] := by
  cases r with
  | nil => simp
  | cons _ _ => simp
theorem z36 : OpR X (binaryOp .Add) (j09 X.K) := by
  intro pins s σ H x y v u Q I rx ry h
  obtain ⟨a, b, xs, ys, rfl, rfl, ha, hb, hx, hz, q1, q2⟩ := h
  cases rx
  cases ry
  obtain ⟨its, r1, p1, _⟩ := I.tuple ha
  obtain ⟨its2, r2, p2, _⟩ := I.tuple hb
  refine HT.z90 p1 p2 (fun z => hx (r1.nil_iff.mp z)) (fun z => ⟨.ref a, H, I, rfl, q1 (r2.nil_iff.mp z)⟩) (fun z => ?_) (by rw [<- r1.length, <- r2.length]; exact hz)
  refine ⟨.ref s.heap.objs.size, _, I.laid (t' := s.toks) (o := .tup (xs ++ ys)) (fun b ob q => Heap.get?_push_of_some _ q) (Nat.le_refl _) ?_, rfl, q2 (fun w => z (r2.nil_iff.mpr w)) _ (I.hok.fresh (Nat.le_refl _))⟩
  exact ⟨by rw [List.length_append]; exact hz, _, r1.append r2, x4u.new _ _⟩
end
noncomputable def ixN (n : Nat) (i : Int) : Option Nat := if 0 <= i then (if i < n then some i.toNat else none) else if -(n : Int) <= i then some (i + n).toNat else none
noncomputable def atI {α : Type} (xs : List α) (i : Int) : Option α := (ixN xs.length i).bind fun j => xs[j]?
theorem y49 {n : Nat} {i : Int} {j : Nat} (h : ixN n i = some j) : seqIndex? i n = some j /\ j < n /\ -(n : Int) <= i /\ i < n := by
  unfold ixN at h
  by_cases h0 : 0 <= i
  · rw [if_pos h0] at h
    by_cases h1 : i < n
    · rw [if_pos h1] at h
      have e : i.toNat = j := Option.some.inj h
      exact ⟨by rw [seqIndex_of h0 h1, e], by omega, by omega, h1⟩
    · rw [if_neg h1] at h; cases h
  · rw [if_neg h0] at h
    by_cases h1 : -(n : Int) <= i
    · rw [if_pos h1] at h
      have e : (i + n).toNat = j := Option.some.inj h
      exact ⟨by rw [seqIndex_neg (by omega) h1, e], by omega, h1, by omega⟩
    · rw [if_neg h1] at h; cases h
theorem y4j {α : Type} {xs : List α} {i : Int} {v : α} (h : atI xs i = some v) : ∃ j, seqIndex? i xs.length = some j /\ xs[j]? = some v /\ j < xs.length /\ -(xs.length : Int) <= i /\ i < xs.length := by
  unfold atI at h
  cases e : ixN xs.length i with
  | none => rw [e] at h; cases h
  | some j =>
    rw [e] at h
    obtain ⟨h1, h2, h3, h4⟩ := y49 e
    exact ⟨j, h1, h, h2, h3, h4⟩
theorem z40 {α : Type} {xs : List α} {j : Nat} {v : α} (h : xs[j]? = some v) : atI xs (j : Int) = some v := by
  have hj : j < xs.length := (List.getElem?_eq_some_iff.mp h).1
  have e : ixN xs.length (j : Int) = some j := by
    unfold ixN
    rw [if_pos (by omega), if_pos (by omega)]; simp
  unfold atI; rw [e]; exact h
noncomputable def x45 (b : Expr) : Prop := ∀ o i, subscripted b false o i = operate [o, i] (getItem o i)
noncomputable def IxR (X : Cx) (r : R2) : Prop :=
  ∀ (value slice : Expr) (pins : List (Addr × Obj)) (s : Shared) (σ : St) (H : Hp) (x y : V) (v u : Value) (Q : VK), Inv X pins σ H s -> x3r x v -> x3r y u -> r x y H Q ->
    subscripted slice false v u = operate [v, u] (getItem v u) -> wpAny (model X.prog X.w) X.A (subscriptTail value slice v u) (EP X pins σ Q) X.xe s
noncomputable def MtR (X : Cx) (id : String) (r : V -> List V -> Hp -> VK -> Prop) : Prop :=
  ∀ (pins : List (Addr × Obj)) (s : Shared) (σ : St) (H : Hp) (x : V) (xs : List V) (v : Value) (us : List Value) (Q : VK), Inv X pins σ H s -> x3r x v -> x2p xs us -> r x xs H Q ->
    wpAny (model X.prog X.w) X.A (call (.builtin id) (v :: us)) (EP X pins σ Q) X.xe s
section
variable {X : Cx} {a b : Expr} {ta tb : TE} {pos : Pos}
theorem IxR.or {r r' : R2} (h : IxR X r) (h' : IxR X r') : IxR X (fun x y H Q => r x y H Q \/ r' x y H Q) := by
  intro value slice pins s σ H x y v u Q I rx ry q hs
  rcases q with q | q
  · exact h value slice pins s σ H x y v u Q I rx ry q hs
  · exact h' value slice pins s σ H x y v u Q I rx ry q hs
theorem y82 {r : R2} (hr : IxR X r) (ha : PE X a ta) (hb : PE X b tb) (hs : x45 b) : PE X (.Subscript a b pos) (tOp r ta tb) := by
  intro pins s σ H Q I h
  exact Subscript_ (z9r ha hb I h fun v u s2 x y H2 I2 rx ry q => hr a b pins s2 σ H2 x y v u Q I2 rx ry q (hs _ _))
noncomputable def j0f (K : PySem.W.Frag) : R2 := fun x y H Q => ∃ p xs i v, x = .ref p /\ y = .int i /\ SqL K H p xs /\ atI xs i = some v /\ Q v H
noncomputable def j0j (K : PySem.W.Frag) : R2 := fun x y H Q => ∃ p xs i v, x = .ref p /\ y = .int i /\ SqT K H p xs /\ atI xs i = some v /\ Q v H
noncomputable def j0i : R2 := fun x y H Q => ∃ z i c, x = .str z /\ y = .int i /\ z.length <= sizeLine /\ atI z.cps.toList i = some c /\ Q (.str ⟨#[c]⟩) H
theorem z3g : IxR X (j0f X.K) := by
  intro value slice pins s σ H x y v u Q I rx ry h hs
  obtain ⟨p, xs, i, z, rfl, rfl, hq, he, q⟩ := h
  cases rx
  obtain ⟨t, rfl⟩ := ry
  obtain ⟨its, r, pl, hz⟩ := I.list hq
  obtain ⟨j, h1, h2, h3, h4, h5⟩ := y4j he
  obtain ⟨w, ew, rw'⟩ := r.get h2
  have hl := r.length
  have hn := y10
  have fin : EP X pins σ Q w s := ⟨z, H, I, rw', q⟩
  by_cases h0 : 0 <= i
  · have hj : i.toNat = j := by
      rw [seqIndex_of h0 h5] at h1
      exact Option.some.inj h1
    exact item_listR pl.isList h0 (by omega) (by rw [hj]; simpa using ew) fin hs
  · have hj : (i + (its.toArray.size : Int)).toNat = j := by
      rw [seqIndex_neg (by omega) h4] at h1
      rw [List.size_toArray, <- hl]
      exact Option.some.inj h1
    exact subscriptTail_builtinR (x := w) pl.isList.typeIs slot_list_getitem.lookup
      (wpAny_getItem_list_neg (Q := fun r s' => r = w /\ EP X pins σ Q r s') pl.isList (by omega) (by rw [List.size_toArray] <;> omega) (by omega) (by rw [hj]; simpa using ew) ⟨rfl, fin⟩) hs
theorem z7q : IxR X (j0j X.K) := by
  intro value slice pins s σ H x y v u Q I rx ry h hs
  obtain ⟨p, xs, i, z, rfl, rfl, hq, he, q⟩ := h
  cases rx
  obtain ⟨t, rfl⟩ := ry
  obtain ⟨its, r, pl, hz⟩ := I.tuple hq
  obtain ⟨j, h1, h2, h3, h4, h5⟩ := y4j he
  obtain ⟨w, ew, rw'⟩ := r.get h2
  have hl := r.length
  have hn := y10
  have fin : EP X pins σ Q w s := ⟨z, H, I, rw', q⟩
  exact subscriptTail_builtinR (x := w) pl.typeIs slot_tuple_getitem.lookup
    (getItem_tuple (j := j) (Q := fun r s' => r = w /\ EP X pins σ Q r s') pl (by omega) (by omega) (by rw [List.size_toArray, <- hl]; exact h1) (by simpa using ew) ⟨rfl, fin⟩) hs
theorem z76 : IxR X j0i := by
  intro value slice pins s σ H x y v u Q I rx ry h hs
  obtain ⟨z, i, c, rfl, rfl, hz, he, q⟩ := h
  obtain ⟨t, rfl⟩ := rx
  obtain ⟨t', rfl⟩ := ry
  obtain ⟨j, h1, h2, h3, h4, h5⟩ := y4j he
  have hl : z.cps.toList.length = z.length := by simp [Str.length]
  rw [hl] at h1 h4 h5
  have hn := y10
  exact tail_any (typeIs_str s z t) slot_str_getitem.lookup (getItem_str (c := c) (by
    have e1 : decide (i < -(2 ^ 63 : Int)) = false := decide_eq_false (by omega)
    have e2 : decide (i ≥ 2 ^ 63) = false := decide_eq_false (by omega)
    rw [e1, e2, Bool.or_false]) (by rw [h1]; simpa using h2) ⟨.str ⟨#[c]⟩, H, I.tok _, ⟨_, rfl⟩, q⟩) hs
noncomputable def rIx (K : PySem.W.Frag) : R2 := fun x y H Q => j0f K x y H Q \/ j0j K x y H Q \/ j0i x y H Q
theorem y2b : IxR X (rIx X.K) := z3g.or (z7q.or z76)
theorem y61 (its : List Value) (n j : Nat) (u : Value) : Obj.mapSeq (·.setIfInBounds j u) { cls := .type "list", data := .seq its.toArray n } = { cls := .type "list", data := .seq (its.set j u).toArray n } := by
  simp [Obj.mapSeq]
theorem Inv.lst {pins : List (Addr × Obj)} {σ : St} {H : Hp} {s : Shared} {p : Addr} {xs : List V} (I : Inv X pins σ H s) (h : H p = some (.lst xs)) :
    ∃ (its : List Value) (n : Nat), x2p xs its /\ s.heap.get? p = some { cls := .type "list", data := .seq its.toArray n } /\ xs.length <= sizeLine := by
  obtain ⟨z, its, n, r, e⟩ := I.hok p _ h
  exact ⟨its, n, r, e, z⟩
theorem Inv.lstUpd {pins : List (Addr × Obj)} {σ : St} {H : Hp} {s : Shared} {p : Addr} {xs ys : List V} {its its' : List Value} {n n' : Nat} {f : Obj -> Obj} (I : Inv X pins σ H s) (h : H p = some (.lst xs))
    (ho : s.heap.get? p = some { cls := .type "list", data := .seq its.toArray n }) (hf : f { cls := .type "list", data := .seq its.toArray n } = { cls := .type "list", data := .seq its'.toArray n' }) (r : x2p ys its') (hz : ys.length <= sizeLine) (t : Nat) :
    Inv X pins σ (upd H p (.lst ys)) { s with heap := s.heap.update p f, toks := t } := by
  have e : (s.heap.update p f).get? p = some { cls := .type "list", data := .seq its'.toArray n' } := by
    rw [Heap.get?_update_self f ho (by rw [hf] <;> rfl), hf]
  refine I.write (x := p) (e := p) (by rw [h]; trivial) (.inl rfl) (fun b u hb q => (Heap.get?_update_other _ _ (Ne.symm hb)).trans q) ⟨_, e⟩ ?_
  exact ⟨hz, its', n', r, e⟩
noncomputable def j0c : V -> V -> V -> Hp -> (Hp -> Prop) -> Prop := fun o i v H Q => ∃ p xs k j, o = .ref p /\ i = .int k /\ H p = some (.lst xs) /\ ixN xs.length k = some j /\ Q (upd H p (.lst (xs.set j v)))
theorem y4v : j0o X j0c := by
  intro pins s σ H o i v ov iv u Q I ro ri rv h
  obtain ⟨p, xs, k, j, rfl, rfl, hp, hj, q⟩ := h
  cases ro
  obtain ⟨t, rfl⟩ := ri
  obtain ⟨its, n, r, ho, hz⟩ := I.lst hp
  obtain ⟨h1, h2, h3, h4⟩ := y49 hj
  have hl := r.length
  have hn := y10
  have I' : Inv X pins σ (upd H p (.lst (xs.set j v))) { s with heap := s.heap.update p (Obj.mapSeq (·.setIfInBounds j u)) } :=
    I.lstUpd hp ho (y61 its n j u) (r.set rv j) (by rw [List.length_set]; exact hz) s.toks
  by_cases h0 : 0 <= k
  · have hk : k.toNat = j := by
      rw [seqIndex_of h0 h4] at h1
      exact Option.some.inj h1
    exact PySem.W.ki_setAt ho h0 (by omega) (by rw [List.size_toArray, <- hl]; exact h4) (by rw [hk]; exact ⟨_, I', q⟩)
  · have hk : (k + (its.toArray.size : Int)).toNat = j := by
      rw [seqIndex_neg (by omega) h3] at h1
      rw [List.size_toArray, <- hl]
      exact Option.some.inj h1
    exact PySem.W.ki_setBack ho (by omega) (by rw [List.size_toArray, <- hl]; exact h3) (by omega) (by rw [hk]; exact ⟨_, I', q⟩)
theorem y3g (lo hi : Option Int) (n : Nat) : (sliceBounds lo hi none n).1 = ((HT.sIx n 0 lo : Nat) : Int) /\ (sliceBounds lo hi none n).2.1 = ((HT.sIx n n hi : Nat) : Int) /\ (sliceBounds lo hi none n).2.2 = 1 := by
  refine ⟨?_, ?_, rfl⟩
  · cases lo with
    | none => simp [sliceBounds, HT.sIx]
    | some i =>
      simp only [sliceBounds, HT.sIx, Option.getD_none, show (1 : Int) > 0 by decide, if_true]
      by_cases h : i < 0
      · simp only [h, if_true] <;> omega
      · simp only [h, if_false] <;> omega
  · cases hi with
    | none => simp [sliceBounds, HT.sIx]
    | some i =>
      simp only [sliceBounds, HT.sIx, Option.getD_none, show (1 : Int) > 0 by decide, if_true]
      by_cases h : i < 0
      · simp only [h, if_true] <;> omega
      · simp only [h, if_false] <;> omega
theorem y28 (its : List Value) (lo hi : Option Int) : slicePick its.toArray lo hi none = ((its.drop (HT.sIx its.length 0 lo)).take (HT.sIx its.length its.length hi - HT.sIx its.length 0 lo)).toArray := by
  obtain ⟨h1, h2, h3⟩ := y3g lo hi its.toArray.size
  unfold slicePick
  rw [h1, h2, h3]
  simp only [sliceRange_one, pick_run, List.size_toArray] <;> rfl
noncomputable def j14 (K : PySem.W.Frag) : V -> Option Int -> Option Int -> Hp -> VK -> Prop := fun x lo hi H Q => ∃ a xs, x = .ref a /\ SqL K H a xs /\ ∀ p, H p = none -> Q (.ref p) (upd H p (.lst (z1m xs lo hi)))
theorem j04 : SlR X (j14 X.K) := by
  intro pins s σ H x v vl vu lo hi sl Q I rx hs pl pu h
  obtain ⟨a, xs, rfl, hx, q⟩ := h
  cases rx
  obtain ⟨its, r, ht, hz⟩ := I.list hx
  have hlen := r.length
  refine ⟨"list", _, slot_list_getitem.lookup, ht.isList.typeIs, ?_⟩
  refine wpAny_getItem_list_slice ht.isList hs pl pu .none (by simp) ?_ (by rw [List.size_toArray] <;> omega)
  rw [y28, <- hlen]
  refine ⟨.ref s.heap.objs.size, _, I.laid (t' := s.toks) (o := .lst (z1m xs lo hi)) (fun b ob q => Heap.get?_push_of_some _ q) (Nat.le_refl _) ?_, rfl, q _ (I.hok.fresh (Nat.le_refl _))⟩
  exact ⟨Nat.le_trans (x9m xs lo hi) hz, _, 0, (r.drop (HT.sIx xs.length 0 lo)).take (HT.sIx xs.length xs.length hi - HT.sIx xs.length 0 lo), Heap.get?_push_size _ rfl⟩
theorem x5p : y0c X (.builtin "len") (fun xs H Q => ∃ p ys, xs = [.ref p] /\ (SqL X.K H p ys \/ SqT X.K H p ys) /\ Q (.int ys.length) H) := by
  intro pins s σ H xs us Q I r h
  obtain ⟨p, ys, rfl, hq, q⟩ := h
  obtain ⟨u, rfl, rx⟩ := y4g r
  cases rx
  have hn := y10
  rcases hq with hq | hq
  · obtain ⟨its, r', pl, hz⟩ := I.list hq
    have hlen := r'.length
    exact Calls.call_len_list pl.isList (by simp only [List.size_toArray] <;> omega) ⟨.int ys.length, H, I.tok _, ⟨s.toks + 1, by rw [List.size_toArray, hlen]⟩, q⟩
  · obtain ⟨its, r', pl, hz⟩ := I.tuple hq
    have hlen := r'.length
    exact len_tuple pl (by simp only [List.size_toArray] <;> omega) ⟨.int ys.length, H, I.tok _, ⟨s.toks + 1, by rw [List.size_toArray, hlen]⟩, q⟩
theorem y2k : y0c X (.type "list") (fun xs H Q => ∃ p ys, xs = [.ref p] /\ (SqL X.K H p ys \/ SqT X.K H p ys) /\ ∀ l, H l = none -> Q (.ref l) (upd H l (.lst ys))) := by
  intro pins s σ H xs us Q I r h
  obtain ⟨p, ys, rfl, hq, q⟩ := h
  obtain ⟨u, rfl, rx⟩ := y4g r
  cases rx
  have fin : ∀ (its : List Value), x2p ys its -> ys.length <= sizeLine -> ∀ (h' : Heap) (c' : Nat), (∀ b o', s.heap.get? b = some o' -> h'.get? b = some o') ->
      h'.get? s.heap.objs.size = some { cls := .type "list", dict := none, data := .seq its.toArray c', slots := #[] } -> EP X pins σ Q (.ref s.heap.objs.size) { s with heap := h' } := fun its r' hz h' c' kp e =>
    ⟨.ref s.heap.objs.size, _, I.laid (t' := s.toks) kp (Nat.le_refl _) (show x2y X.prog X.w _ h' _ (.lst ys) from ⟨hz, its, c', r', e⟩), rfl, q _ (I.hok.fresh (Nat.le_refl _))⟩
  rcases hq with hq | hq
  · obtain ⟨its, r', pl, hz⟩ := I.list hq
    have hlen := r'.length
    obtain ⟨o, ho, hc, n, hd⟩ := pl.isList
    exact call_list_seq p (.inl rfl) ho hc hd (fun h' c' kp e => fin its r' hz h' c' kp e) (by simp only [List.size_toArray] <;> omega)
  · obtain ⟨its, r', pl, hz⟩ := I.tuple hq
    have hlen := r'.length
    obtain ⟨o, ho, hc, n, hd⟩ := pl
    exact call_list_seq p (.inr rfl) ho hc hd (fun h' c' kp e => fin its r' hz h' c' kp e) (by simp only [List.size_toArray] <;> omega)
theorem y25 : y0c X (.type "tuple") (fun xs H Q => ∃ p ys, xs = [.ref p] /\ ((SqL X.K H p ys /\ ∀ l, H l = none -> Q (.ref l) (upd H l (.tup ys))) \/ (SqT X.K H p ys /\ Q (.ref p) H))) := by
  intro pins s σ H xs us Q I r h
  obtain ⟨p, ys, rfl, h⟩ := h
  obtain ⟨u, rfl, rx⟩ := y4g r
  cases rx
  rcases h with ⟨hq, q⟩ | ⟨hq, q⟩
  · obtain ⟨its, r', pl, hz⟩ := I.list hq
    have hlen := r'.length
    refine call_tuple_list pl.isList (fun h' kp => ?_) (by simp only [List.size_toArray] <;> omega)
    have I1 : Inv X pins σ H { s with heap := h' } := I.kept (t' := s.toks) kp
    have I2 : Inv X pins σ (upd H h'.objs.size (.tup ys)) { s with heap := h'.push { cls := .type "tuple", data := .seq its.toArray } } :=
      I1.laid (t' := s.toks) (fun b o e => Heap.get?_push_of_some _ e) (Nat.le_refl _) (show x2y X.prog X.w _ _ _ (.tup ys) from ⟨hz, its, r', x4u.new _ _⟩)
    exact ⟨.ref h'.objs.size, _, I2, rfl, q _ (I1.hok.fresh (Nat.le_refl _))⟩
  · obtain ⟨its, r', pl, hz⟩ := I.tuple hq
    exact call_tuple_same pl ⟨.ref p, H, I, rfl, q⟩
noncomputable def tyV (K : PySem.W.Frag) (T : String) (x : V) (H : Hp) : Prop := match x with
  | .str _ => T = "str"
  | .int _ => T = "int"
  | .ref p => (T = "list" /\ ∃ xs, SqL K H p xs) \/ (T = "tuple" /\ ((∃ o, K.lookup p = some o /\ o.cls = .type "tuple" /\ o.dict = none) \/ ∃ xs, H p = some (.tup xs))) \/
      (T = "dict" /\ ((∃ kvs, H p = some (.dK kvs)) \/ ∃ kvs, H p = some (.dT kvs))) \/ (T = "set" /\ ∃ S n, H p = some (.set S n))
  | _ => False
theorem z6g {pins : List (Addr × Obj)} {σ : St} {H : Hp} {s : Shared} {T : String} {x : V} {v : Value} (I : Inv X pins σ H s) (r : x3r x v) (ty : tyV X.K T x H) :
    s.TypeIs v T /\ ∀ a, v = .ref a -> ∃ ob, s.heap.get? a = some ob /\ ob.dict = none := by
  cases x with
  | str z =>
    obtain ⟨t, rfl⟩ := r
    cases (show T = "str" from ty)
    exact ⟨typeIs_str s z t, fun _ e => nomatch e⟩
  | int i =>
    obtain ⟨t, rfl⟩ := r
    cases (show T = "int" from ty)
    exact ⟨typeIs_int s i t, fun _ e => nomatch e⟩
  | ref p =>
    cases r
    rcases ty with ⟨rfl, xs, hq⟩ | ⟨rfl, ⟨o, hk, hc, hd⟩ | ⟨xs, hk⟩⟩ | ⟨rfl, hk⟩ | ⟨rfl, S, n, hk⟩
    · obtain ⟨its, _, pl, _⟩ := I.list hq
      refine ⟨pl.isList.typeIs, fun a e => ?_⟩
      cases e
      obtain ⟨o, n, e, c, hd, _⟩ := pl
      exact ⟨o, e, hd⟩
    · refine ⟨⟨o, I.kIn p o hk, hc⟩, fun a e => ?_⟩
      cases e
      exact ⟨o, I.kIn _ o hk, hd⟩
    · obtain ⟨_, its, _, o, e, c, _, hd⟩ := (show x2y X.prog X.w H s.heap p (.tup xs) from I.hok p _ hk)
      refine ⟨⟨o, e, c⟩, fun a e2 => ?_⟩
      cases e2
      exact ⟨o, e, hd⟩
    · have z : ∃ o, s.heap.get? p = some o /\ o.ExactDict := by
        rcases hk with ⟨kvs, hk⟩ | ⟨kvs, hk⟩
        · obtain ⟨_, _, _, _, o, _, _, e, ex, _⟩ := I.hok p _ hk
          exact ⟨o, e, ex⟩
        · obtain ⟨_, _, _, _, o, _, _, e, ex, _⟩ := I.hok p _ hk
          exact ⟨o, e, ex⟩
      obtain ⟨o, e, ex⟩ := z
      refine ⟨⟨o, e, ex.1⟩, fun a e2 => ?_⟩
      cases e2
      exact ⟨o, e, ex.2.1⟩
    · obtain ⟨o, _, _, _, e, ex, _⟩ := I.hok p _ hk
      refine ⟨⟨o, e, ex.1⟩, fun a e2 => ?_⟩
      cases e2
      exact ⟨o, e, ex.2.1⟩
  | _ => exact False.elim ty
noncomputable def tBM (K : PySem.W.Frag) (T : String) (r : V -> List V -> Hp -> VK -> Prop) (to : TE) (t : TA) : TE := fun σ H Q => to σ H fun x H1 => tyV K T x H1 /\ t σ H1 fun xs H2 => r x xs H2 Q
variable {o e : Expr} {es : List Expr} {to : TE} {t : TA} {name : Str} {apos cpos : Pos} {T id : String} {r : V -> List V -> Hp -> VK -> Prop}
theorem z2j (pa : PlainAttrs T) (slot : Slot T name id) (hty : typeOf (.builtin id) = pure (.type "method_descriptor")) (hm : MtR X id r) (ho : PE X o to) (ha : PA X (e :: es) t)
    (hbase : attributeBase o name X.env (eval o X.env) = eval o X.env := by rfl)
    (hfew : ((backTo cpos (starEach (e :: es) X.env)).all (fun x => !x.1) && (backToKw cpos (keywordEach [] X.env)).all (fun x => x.1.isSome)
      && decide ((e :: es).length + ([] : List Keyword).length + (if ([] : List Keyword).isEmpty then 0 else 1) < 30)) = true := by rfl)
    (hline : (apos.endLine == cpos.line) = true := by rfl) (hs : starEach (e :: es) X.env = (false, eval e X.env) :: starEach es X.env := by rfl) (hplain : (backTo cpos (starEach es X.env)).any (·.1) = false := by rfl) :
    PE X (.Call (.Attribute o name apos) (e :: es) [] cpos) (tBM X.K T r to t) := by
  intro pins s σ H Q I h
  refine wpAny_Call_method_late hbase hfew hline rfl (thn (ho pins s σ H _ I h) fun v s1 hh0 => ?_)
  obtain ⟨x, H1, I1, r1, ty, q1⟩ := hh0
  obtain ⟨h1, h2⟩ := z6g I1 r1 ty
  refine ⟨T, id, pa, slot, hty, h1, h2, ?_⟩
  have hA := ha cpos pins s1 σ H1 _ I1 q1
  rw [hs] at hA ⊢
  refine Calls.callWith_builtin (by show (false || (backTo cpos (starEach es X.env)).any (·.1)) = false; rw [hplain] <;> rfl) (Calls.evalArgs_plain ?_)
  exact thn hA fun us s2 ⟨vs, H2, I2, r2, q2⟩ => hm pins s2 σ H2 x vs v us Q I2 r1 r2 q2
end
noncomputable def MtM (X : Cx) (id : String) (r : V -> List V -> Hp -> VK -> Prop) : Prop :=
  ∀ (pins : List (Addr × Obj)) (s : Shared) (σ : St) (H : Hp) (x : V) (xs : List V) (v : Value) (us : List Value) (Q : VK), Inv X pins σ H s -> x3r x v -> x2p xs us -> r x xs H Q ->
    wpAny (model X.prog X.w) X.A (call (.builtin id) (v :: us)) (EP X pins σ Q) X.xe s
theorem x2p.one : ∀ {x : V} {us : List Value}, x2p [x] us -> ∃ u, us = [u] /\ x3r x u
  | _, _, .cons r .nil => ⟨_, rfl, r⟩
theorem x2p.eraseIdx : ∀ {xs : List V} {us : List Value} (i : Nat), x2p xs us -> x2p (xs.eraseIdx i) (us.eraseIdx i)
  | _, _, _, .nil => .nil
  | _, _, 0, .cons _ t => t
  | _, _, i + 1, .cons r t => .cons r (x2p.eraseIdx i t)
theorem x2p.rep {xs : List V} {us : List Value} (h : x2p xs us) : ∀ k : Nat, x2p (List.replicate k xs).flatten (List.replicate k us).flatten
  | 0 => .nil
  | k + 1 => by
    rw [List.replicate_succ, List.replicate_succ, List.flatten_cons, List.flatten_cons]
    exact x2p.append h (x2p.rep h k)
theorem y2c {α : Type} : ∀ (l : List α) (i : Nat), (l.eraseIdx i).length <= l.length
  | [], _ => Nat.le_refl _
  | _ :: _, 0 => Nat.le_succ _
  | _ :: r, i + 1 => Nat.succ_le_succ (y2c r i)
theorem x9e (its : List Value) : ∀ (k : Nat) (acc : List Value),
    List.foldl (fun x1 x2 => x1 ++ x2) acc.toArray (List.replicate k its.toArray) = (acc ++ (List.replicate k its).flatten).toArray
  | 0, acc => by simp
  | k + 1, acc => by
    have e : acc.toArray ++ its.toArray = (acc ++ its).toArray := by simp
    have e2 : (acc ++ its) ++ (List.replicate k its).flatten = acc ++ (List.replicate (k + 1) its).flatten := by
      rw [List.replicate_succ, List.flatten_cons, List.append_assoc]
    rw [<- e2, <- x9e its k (acc ++ its), <- e, List.replicate_succ, List.foldl_cons]
section
variable {X : Cx} {pins : List (Addr × Obj)} {σ : St} {H : Hp} {s : Shared} {l b : Addr} {xs ys zs : List V}
theorem Inv.lset {its its' : List Value} {n : Nat} {f : Array Value -> Array Value} {t' : Nat} (I : Inv X pins σ H s) (hH : H l = some (.lst xs))
    (e : s.heap.get? l = some { cls := .type "list", data := .seq its.toArray n }) (hf : f its.toArray = its'.toArray) (hv : x2p ys its') (hz : ys.length <= sizeLine) :
    Inv X pins σ (upd H l (.lst ys)) { s with heap := s.heap.update l (Obj.mapSeq f), toks := t' } := by
  have q := PySem.IsL.update e f
  rw [hf] at q
  refine I.write (x := l) (e := l) (by rw [hH]; exact trivial) (.inl rfl) (fun b' u hb hu => (Heap.get?_update_other s.heap (Obj.mapSeq f) (Ne.symm hb)).trans hu) ⟨_, q⟩ ?_
  exact ⟨hz, its', _, hv, q⟩
theorem Inv.lnew {its : List Value} {t' : Nat} (I : Inv X pins σ H s) (hv : x2p ys its) (hz : ys.length <= sizeLine) :
    Inv X pins σ (upd H s.heap.objs.size (.lst ys)) { s with heap := s.heap.push { cls := .type "list", data := .seq its.toArray }, toks := t' } :=
  I.laid (fun _ _ q => Heap.get?_push_of_some _ q) (Nat.le_refl _) ⟨hz, its, 0, hv, Heap.get?_push_size _ rfl⟩
theorem Inv.fresh (I : Inv X pins σ H s) : H s.heap.objs.size = none := I.hok.fresh (Nat.le_refl _)
theorem Inv.lstM (I : Inv X pins σ H s) (hH : H l = some (.lst xs)) : xs.length <= sizeLine /\ ∃ (its : List Value) (n : Nat), x2p xs its /\ xs.length = its.length /\ s.heap.get? l = some { cls := .type "list", data := .seq its.toArray n } := by
  obtain ⟨z, its, n, r, e⟩ := I.hok l _ hH
  exact ⟨z, its, n, r, r.length, e⟩
theorem y9h {n : Nat} (h : n <= sizeLine) : Builtin.List.listTooLong n = false := by
  unfold Builtin.List.listTooLong
  exact decide_eq_false (by omega)
end
section
variable {X : Cx}
noncomputable def z2h : V -> List V -> Hp -> VK -> Prop := fun x vs H Q => ∃ l xs y, x = .ref l /\ vs = [y] /\ H l = some (.lst xs) /\ xs.length < sizeLine /\ Q .non (upd H l (.lst (xs ++ [y])))
theorem y79 : MtM X "list.append" z2h := by
  intro pins s σ H x vs v us Q I rx rv h
  obtain ⟨l, xs, y, rfl, rfl, hH, hz, q⟩ := h
  cases rx
  obtain ⟨u, rfl, ru⟩ := rv.one
  obtain ⟨z, its, n, r, hl, e⟩ := I.lstM hH
  refine call_meets F.slot_list_append ⟨_, e, rfl⟩ F.entry_list_append (F.args_list_append_2 _ _) (PySem.list_append l its.toArray n u (by rw [List.size_toArray]; omega)) ⟨e, ?_⟩
  refine ⟨.non, _, I.lset (its' := its ++ [u]) hH e (by simp) (r.append (.cons ru .nil)) ?_, rfl, q⟩
  rw [List.length_append, List.length_singleton]
  omega
noncomputable def z5s : V -> List V -> Hp -> VK -> Prop := fun x vs H Q => ∃ l xs i k y, x = .ref l /\ vs = [.int i] /\ H l = some (.lst xs) /\ -(2 ^ 63) <= i /\ i < 2 ^ 63 /\ seqIndex? i xs.length = some k /\ xs[k]? = some y /\ Q y (upd H l (.lst (xs.eraseIdx k)))
theorem z00 : MtM X "list.pop" z5s := by
  intro pins s σ H x vs v us Q I rx rv h
  obtain ⟨l, xs, i, k, y, rfl, rfl, hH, h1, h2, hk, hy, q⟩ := h
  cases rx
  obtain ⟨u, rfl, ru⟩ := rv.one
  obtain ⟨t, rfl⟩ := ru
  obtain ⟨z, its, n, r, hl, e⟩ := I.lstM hH
  obtain ⟨w, hw, rw'⟩ := r.get hy
  refine call_meets F.slot_list_pop ⟨_, e, rfl⟩ F.entry_list_pop (F.args_list_pop_2 _ _)
    (MeetsSeq.list_pop_at l its.toArray n i t k w (fitsIndex_both h1 h2) (by rw [List.size_toArray, <- hl]; exact hk) (by rw [<- Array.getElem?_toList]; exact hw) (by rw [List.size_toArray]; omega)) ⟨e, ?_⟩
  refine ⟨y, _, I.lset (its' := its.eraseIdx k) hH e ?_ (r.eraseIdx k) ?_, rw', q⟩
  · show its.toArray.eraseIdxIfInBounds k = (its.eraseIdx k).toArray
    rw [List.eraseIdxIfInBounds_toArray]
  · have := y2c xs k
    omega
noncomputable def j1j : R2 := fun x y H Q => ∃ l k xs, x = .ref l /\ y = .int k /\ H l = some (.lst xs) /\ -(2 ^ 63) <= k /\ k < 2 ^ 63 /\ xs.length * k.toNat <= sizeLine /\
  ∀ p, H p = none -> Q (.ref p) (upd H p (.lst (List.replicate k.toNat xs).flatten))
theorem y4b {α : Type} (xs : List α) (k : Nat) : (List.replicate k xs).flatten.length = k * xs.length := by
  induction k with
  | zero => simp
  | succ k ih => rw [List.replicate_succ, List.flatten_cons, List.length_append, ih, Nat.succ_mul, Nat.add_comm]
theorem z6a : OpR X (binaryOp .Mult) j1j := by
  intro pins s σ H x y v u Q I rx ry h
  obtain ⟨l, k, xs, rfl, rfl, hH, h1, h2, hz, q⟩ := h
  cases rx
  obtain ⟨t, rfl⟩ := ry
  obtain ⟨z, its, n, r, hl, e⟩ := I.lstM hH
  have hlen : its.toArray.size * k.toNat <= sizeLine := by rw [List.size_toArray, <- hl]; exact hz
  have hcap : ¬ its.toArray.size * k.toNat > (2 ^ 63 - 1) / 8 := by
    have : (sizeLine : Nat) <= (2 ^ 63 - 1) / 8 := by decide
    omega
  have hfit : ¬ (!Builtin.List.listFitsIndex k) = true := by
    rw [fitsIndex_both h1 h2]
    exact Bool.false_ne_true
  have hlong : ¬ Builtin.List.listTooLong (its.toArray.size * k.toNat) = true := by
    rw [y9h hlen]
    exact Bool.false_ne_true
  have hnew : List.foldl (fun x1 x2 => x1 ++ x2) #[] (List.replicate (if its.toArray.isEmpty = true then 0 else k.toNat) its.toArray) = (List.replicate k.toNat its).flatten.toArray := by
    have f0 : ∀ m : Nat, List.foldl (fun x1 x2 => x1 ++ x2) #[] (List.replicate m its.toArray) = (List.replicate m its).flatten.toArray := fun m => by
      have := x9e its m []
      rw [List.nil_append] at this
      exact this
    rw [f0]
    cases its with
    | nil => simp
    | cons a r' => rw [if_neg (by simp)]
  refine wpAny_binaryOp_repeat_ref (T := "list") (U := "int") (by decide) ⟨_, e, rfl⟩ (fun s' => typeIs_int s' k t) noFill_list_mul F.fills_int_mul F.slot_int_rmul repeat_list F.slot_int_index.lookup
    (call_meets F.slot_int_rmul (typeIs_int s k t) F.entry_int_rmul (F.args_int_rmul_2 _ _) (int___rmul___int_list k t l its.toArray n)
      ⟨e, rfl, ⟨_, e, rfl⟩, call_meets F.slot_list_mul ⟨_, e, rfl⟩ F.entry_list_mul (F.args_list_mul_2 _ _) (AutoListH.list___mul___list_int_3 l its.toArray n k t hfit hcap hlong) ⟨e, ?_⟩⟩)
  rw [hnew]
  exact ⟨.ref _, _, I.lnew (t' := s.toks) (r.rep k.toNat) (by rw [y4b, Nat.mul_comm]; exact hz), rfl, q _ I.fresh⟩
end
end L2
namespace Att
open PySem PySem.W PySem.Calls PyProof.Rows
theorem x9i {P : Params} {h : Heap} : ∀ (ns : List Int) (vs : List Value), WellAll P h vs (ns.map WData.int) -> IntsAre vs ns := by
  intro ns
  induction ns with
  | nil =>
    intro vs w
    rw [List.map_nil] at w
    cases w
    exact .nil
  | cons n ns ih =>
    intro vs w
    rw [List.map_cons] at w
    cases w with
    | cons a b =>
      cases a
      exact .cons _ _ (ih _ b)
theorem y7u {l : OpenLaw} {n : Nat} (hn : l.most = some n) {P : Params} {h : Heap} {args : List WData} {vals : List Value}
    (hpre : l.row.toRowW.claim.pre args = true) (hwl : WellAll P h vals args) :
    ∃ a vs ns, vals = [Value.ref a] /\ args = [WData.list (ns.map WData.int)] /\ h.get? a = some { cls := .type "list", data := .seq vs.toArray } /\ IntsAre vs ns /\ ns.length <= n := by
  have hsh : WShape.hasAll [] args [.list .int] = true := (pre_splitW hpre).1
  have hc : l.pre.holds [] { args := args } = true := (pre_splitW hpre).2
  obtain ⟨d, r, rfl, h1, h2⟩ := hasAllW_cons hsh
  obtain rfl := hasAllW_nil h2
  obtain ⟨xs, rfl, h3⟩ := hasW_list h1
  obtain ⟨ns, rfl⟩ := items_int h3
  have hlen : ns.length <= n := by
    unfold OpenLaw.pre at hc
    have h4 : (WTm.not (.lt (.lit (.int (n : Int))) (.len (.arg 0)))).holds [] { args := [.list (ns.map .int)] } = true := by
      have h4 := (holds_andW hc).1
      rw [hn] at h4
      exact h4
    have h5 := condW_of h4 (w_not (w_lt w_lit (w_len_list (w_arg rfl))))
    rw [List.length_map] at h5
    refine Nat.le_of_not_lt fun q => ?_
    have q' : (n : Int) < ((ns.length : Nat) : Int) := by omega
    first
      | (rw [decide_eq_true q'] at h5; exact absurd h5 (by decide))
      | (simp at h5; omega)
  cases hwl with
  | cons w1 w2 =>
    cases w2
    cases w1 with
    | list ho hall => exact ⟨_, _, ns, rfl, rfl, ho, x9i ns _ hall, hlen⟩
theorem y7a (l : OpenLaw) (args : List WData) : l.row.toRowW.claim.post args (.bool true) args = true :=
  postW_of (r := l.row.toRowW) (X := (true == true))
    (show WShape.has [] (.bool true) .bool = true by first | rfl | decide | simp [WShape.has, WShape.arms, WShape.armsAll])
    (show (WTm.eq .res (.lit (.bool true))).value [] { args := args, res := some (.bool true), after := args } = some (.bool (true == true)) from w_eq_bool (w_res rfl) w_lit) rfl
theorem z3m {l : OpenLaw} {n : Nat} {q : Program} {loose : List Str} {XP : (Str -> Option Value) -> Heap -> Prop} {YP : World -> Heap -> Prop} {d : DefRec}
    (hn : l.most = some n) (hdf : d.params.defaults = [])
    (call : ∀ (w : World) (s₀ s₁ : Shared) (mg mb : Str -> Option Value) (fa : Addr) (o : Obj) (pm cd doc : Value) (a : Addr) (vs : List Value) (ns : List Int),
      Ground q loose [] XP w s₀ mg mb s₁.heap -> YP w s₁.heap ->
      s₁.heap.get? fa = some o -> o.data = .func (docDef d.name d.params d.body d.scope pm cd doc) -> s₁.heap.CodeRec cd d.name -> mg d.name = some (.ref fa) ->
      s₁.heap.get? a = some { cls := .type "list", data := .seq vs.toArray } -> IntsAre vs ns -> ns.length <= n -> s₁.gens = #[] ->
      codeAny (model l.prog w) callerA (.call (.ref fa) ⟨[.ref a], []⟩) (fun r s' => r = .ok (.ret (.bool true)) /\ OldK s₁.heap s'.heap /\ s'.os = s₁.os /\ AllBare s'.gens) s₁) :
    WalkO q loose XP YP l.row.toRowW d [] (fun f vs => PySem.call f vs) := by
  intro w s₀ s₁ mg mb G Y fa o pm cd doc dV kV ho hd hcd hD hmg hg args vals as hpre hlay hrd hwl hlo
  obtain rfl : dV = .none := Dflts.none hD hdf
  obtain rfl : kV = .none := Dflts.noKw hD
  obtain ⟨a, vs, ns, rfl, rfl, hobj, hints, hlen⟩ := y7u hn hpre hwl
  refine enter_call (codeAny_mono (call w s₀ s₁ mg mb fa o pm cd doc a vs ns G Y ho (fd_plain hd) hcd hmg hobj hints hlen hg) fun r s' hq => ?_)
  obtain ⟨rfl, h2, h3, h4⟩ := hq
  exact ⟨.inl ⟨.bool true, .bool true, [], rfl, fun _ => rfl, .bool true, y7a l _, fun _ => ⟨List.Pairwise.nil, fun _ hm => (nomatch hm)⟩⟩, h2, h3, h4⟩
section
variable {prog : Program} {w : World} {A : Around} {E : Value -> Shared -> Prop} {s : Shared} {K : Frag}
end
end Att
namespace L2
open PySem PySem.Spec PyProof.Rows
theorem y2s : ∀ {vs : List Value} {ns : List Int}, IntsAre vs ns -> x2p (ns.map V.int) vs
  | _, _, .nil => .nil
  | _, _, .cons n t h => .cons ⟨t, rfl⟩ (y2s h)
noncomputable def z9b (H : Hp) : Prop := ∀ b, H b = none \/ ∃ o xs, H b = some (.frz o (.lst xs))
theorem y9e {P : Program} {w : World} {K : PySem.W.Frag} {mg mb : Str -> Option Value} {CX : CXT} {k : Nat} {fa a : Addr} {fd : FuncData} {x : Str} {sp : Sp} {s₁ : Shared} {vs : List Value} {ns : List Int}
    (KX : K.In s₁.heap) (hns : s₁.heap.Ns mainGlobals mg) (hb : s₁.heap.Ns builtinsNs mb) (hbb : ∀ x : Str, x ≠ "__name__" -> mb x = bootBuiltins x) (hlim : s₁.heap.NoLimit) (hg : s₁.gens = #[])
    (ha : s₁.heap.get? a = some { cls := .type "list", data := .seq vs.toArray }) (hi : IntsAre vs ns) (hl : ns.length <= sizeLine) (hr : Room k callerA)
    (F : ∀ base : Heap, K.In base -> base.Ns mainGlobals mg -> FnOk P w K mg base CX k fa fd [x] sp) (hbind : ∀ (s : Shared) (u : Value), BindsTo s fd ⟨[u], []⟩ [(x, u)])
    (hsp : ∀ H : Hp, z9b H -> SqL K H a (ns.map V.int) -> sp [.ref a] H (fun v _ => v = .bl true) fun _ _ _ => False)
    (hCX : ∀ H e s', CX [] H s₁ (fun _ _ _ => False) e s' -> False) :
    codeAny (model P w) callerA (.call (.ref fa) ⟨[.ref a], []⟩) (fun r s' => r = .ok (.ret (.bool true)) /\ OldK s₁.heap s'.heap /\ s'.os = s₁.os /\ AllBare s'.gens) s₁ := by
  have rv := y2s hi
  have lenV := hi.length
  -- from an abstract heap in which nothing but the script may be tracked
  have core : ∀ H : Hp, z9b H -> SqL K H a (ns.map V.int) -> HOk P w H s₁.heap -> (∀ b, H b ≠ none -> b = a) -> (H a ≠ none -> K.lookup a = none) ->
      codeAny (model P w) callerA (.call (.ref fa) ⟨[.ref a], []⟩) (fun r s' => r = .ok (.ret (.bool true)) /\ OldK s₁.heap s'.heap /\ s'.os = s₁.os /\ AllBare s'.gens) s₁ := by
    intro H hO hS hok hA hK
    have base_of : ∀ {b : Addr} {o : Obj}, s₁.heap.get? b = some o -> H b = none -> (z0k s₁.heap H).get? b = some o := fun e n => z1h e n
    have noA : ∀ {b : Addr} {o : Obj} {es : Array DictEntry} {ep : Nat}, s₁.heap.get? b = some o -> o.data = .dict es ep -> H b = none := fun {b o es ep} e d => by
      cases q : H b with
      | none => rfl
      | some u =>
        have e' : b = a := hA b (by rw [q]; simp)
        subst e'
        rw [ha] at e; cases e
        have d' : Data.seq vs.toArray _ = Data.dict es ep := d
        cases d'
    have nsK : ∀ {b : Addr} {m : Str -> Option Value}, s₁.heap.Ns b m -> (z0k s₁.heap H).Ns b m := fun {b m} ⟨o, es, ep, e, d, r⟩ => ⟨o, es, ep, base_of e (noA e d), d, r⟩
    have hKb : K.In (z0k s₁.heap H) := fun b o e => base_of (KX b o e) (by
      cases q : H b with
      | none => rfl
      | some u =>
        have e' : b = a := hA b (by rw [q]; simp)
        subst e'
        rw [hK (by rw [q]; simp)] at e; cases e)
    have hM : Mod K mg (z0k s₁.heap H) := ⟨hKb, nsK hns, ⟨mb, nsK hb, hbb⟩, let ⟨mc, h1, h2⟩ := hlim; ⟨mc, nsK h1, h2⟩⟩
    have e0 : Env0 P w K mg (z0k s₁.heap H) callerA [] s₁ H := ⟨rfl, hM, fun b o e => z48 e, Nat.le_of_eq (y7x _ _), trivial, fun b hb => absurd (show b ∈ ([] : List Addr) from hb) (by simp), hok, .of_eq hg⟩
    refine codeAny_mono ((F _ hKb (nsK hns)).run callerA [] s₁ H ⟨[.ref a], []⟩ [.ref a] [.ref a] _ _ hr e0 (hbind s₁ (.ref a)) (.cons rfl .nil) (hsp H hO hS)) fun r s' h => ?_
    cases r with
    | error e => exact (hCX H e s' h).elim
    | ok fl =>
      cases fl with
      | next => exact False.elim h
      | brk => exact False.elim h
      | cont => exact False.elim h
      | ret u =>
        obtain ⟨v, H', os, bare, un, hok', r', q⟩ := h
        have q' : v = .bl true := q
        subst q'
        obtain rfl : u = Value.bool true := r'
        refine ⟨rfl, OldK.of_keep fun b o e => ?_, os, bare⟩
        cases q : H b with
        | none => exact un.keep b o e q (by intro z; exact absurd (show b ∈ ([] : List Addr) from z) (by simp)) (by simp)
        | some u =>
          rcases hO b with z | ⟨ob, xs, z⟩
          · rw [q] at z; cases z
          · have z2 := un.frzs b ob _ z
            obtain ⟨e1, _⟩ := hok b _ z
            obtain ⟨e2, _⟩ := hok' b _ z2
            rw [e] at e1; cases e1
            exact e2
  cases hk : K.lookup a with
  | some o =>
    -- the script is one of the module's own objects
    have e := KX a o hk
    rw [ha] at e
    cases e
    refine core (fun _ => none) (fun _ => .inl rfl) (.inr ⟨_, vs.toArray, _, hk, rfl, rfl, rfl, by rw [List.size_toArray, lenV]; exact hl, by simpa using rv⟩) (fun b u z => by have z' : (none : Option HO) = some u := z; cases z') (fun b z => absurd rfl z) fun z => absurd rfl z
  | none =>
    refine core (fun b => if b = a then some (.frz { cls := .type "list", data := .seq vs.toArray } (.lst (ns.map V.int))) else none) (fun b => ?_) (.inl (.inr ⟨{ cls := .type "list", data := .seq vs.toArray }, if_pos rfl⟩)) (fun b u z => ?_) (fun b z => ?_) fun _ => hk
    · by_cases hb : b = a
      · exact .inr ⟨_, _, if_pos hb⟩
      · exact .inl (if_neg hb)
    · by_cases hb : b = a
      · have z' := (if_pos hb).symm.trans z
        cases z'
        subst hb
        exact ⟨ha, by rw [List.length_map]; exact hl, vs, _, rv, ha⟩
      · have z' := (if_neg hb).symm.trans z
        cases z'
    · by_cases hb : b = a
      · exact hb
      · exact absurd (if_neg hb) z
theorem z9z {l : PySem.W.OpenLaw} {n k : Nat} {q : Program} {loose : List Str} {XP : (Str -> Option Value) -> Heap -> Prop} {YP : World -> Heap -> Prop} {d : DefRec} {K : Params -> PySem.W.Frag} {CX : World -> CXT} {sp : World -> Sp} {x : Str}
    (hn : l.most = some n) (hn2 : n <= sizeLine) (hdf : d.params.defaults = []) (hr : Room k callerA)
    (hY : ∀ (w : World) (h : Heap), YP w h -> (K w.params).In h)
    (F : ∀ (w : World) (mg : Str -> Option Value) (fa : Addr) (h : Heap), (K w.params).In h -> h.Ns mainGlobals mg -> mg d.name = some (.ref fa) ->
      ∃ fd : FuncData, (∀ (s : Shared) (u : Value), BindsTo s fd ⟨[u], []⟩ [(x, u)]) /\
        ∀ base : Heap, (K w.params).In base -> base.Ns mainGlobals mg -> FnOk l.prog w (K w.params) mg base (CX w) k fa fd [x] (sp w))
    (hsp : ∀ (w : World) (H : Hp) (a : Addr) (ns : List Int), ns.length <= n -> z9b H -> SqL (K w.params) H a (ns.map V.int) -> sp w [.ref a] H (fun v _ => v = .bl true) fun _ _ _ => False)
    (hCX : ∀ (w : World) (H : Hp) (s : Shared) (e : Value) (s' : Shared), CX w [] H s (fun _ _ _ => False) e s' -> False) :
    PySem.W.WalkO q loose XP YP l.row.toRowW d [] (fun f vs => PySem.call f vs) := by
  refine Att.z3m hn hdf fun w s₀ s₁ mg mb fa o pm cd doc a vs ns G Y ho hd hcd hmg hobj hints hlen hg => ?_
  have KX := hY w _ Y
  obtain ⟨fd, hb, hF⟩ := F w mg fa _ KX G.T.g hmg
  exact y9e KX G.T.g G.T.b G.T.builtins G.T.nolimit hg hobj hints (Nat.le_trans hlen hn2) hr hF hb (fun H hO hS => hsp w H a ns hlen hO hS) fun H e s' => hCX w H s₁ e s'
noncomputable def x5c (s : Stmt) : Arguments := match s with
  | .FunctionDef _ a _ _ _ _ _ _ _ _ => a
  | _ => { posonlyargs := [], args := [], vararg := none, kwonlyargs := [], kw_defaults := [], kwarg := none, defaults := [] }
noncomputable def x3i (s : Stmt) : List Stmt := match s with
  | .FunctionDef _ _ b _ _ _ _ _ _ _ => b
  | _ => []
noncomputable def x0c (s : Stmt) : Scope := match s with
  | .FunctionDef _ _ _ _ _ _ sc _ _ _ => sc
  | _ => { kind := .function, names := [], isGenerator := false, isCoroutine := false }
noncomputable abbrev CX0 : CXT := fun _ _ _ _ _ _ => False
noncomputable abbrev E0 : XK := fun _ _ _ => False
theorem z93 {X : Cx} : y5d CX0 X E0 := fun _ _ _ _ _ _ _ h => h.elim
structure Fun (K : PySem.W.Frag) (x qual : Str) (st : Stmt) (f : Addr) (fd : FuncData) : Prop where
  ex : ∃ (oc : Value) (od : Option Addr) (kV doc pm : Value) (an : Option Addr) (cdv ct : Value) (osl : Array (Option Value)),
    fd = PySem.W.fnOf x qual (x5c st) (x3i st) (x0c st) .none kV doc pm an cdv ct /\ K.lookup f = some ⟨oc, od, .func fd, osl⟩ /\ PySem.W.codeIn K cdv qual = true
  kp : PySem.W.keepIn K (.ref f) = true
section
variable {P : Program} {w : World} {K : PySem.W.Frag} {mg : Str -> Option Value} {base : Heap}
theorem Fun.ok {x qual : Str} {st : Stmt} {f : Addr} {fd : FuncData} {N ps : List Str} {k : Nat} {sp : Sp} (F : Fun K x qual st f fd) (S : FnScope N ps (x0c st)) (len : ∀ vs H Q E, sp vs H Q E -> vs.length = ps.length)
    (hbody : ∀ (cdv : Value) (A : Around) (outer : List Env) (s : Shared) (H : Hp) (vs : List V) (Q : VK) (E : XK), Room k (A.deeper (envOfC qual (x0c st) s.heap.objs.size f cdv)) -> sp vs H Q E ->
      ∃ t, PSs (y74 CX0 P w K mg base N qual (x0c st) f cdv A outer s H E).nox (x3i st) t /\ t { nx := fun _ H' => Q .non H', rt := Q } (y03 N vs) H) : FnOk P w K mg base CX0 (k + 1) f fd ps sp := by
  obtain ⟨oc, od, kV, doc, pm, an, cdv, ct, osl, rfl, lk, hcd⟩ := F.ex
  refine z94 lk hcd S len fun A outer s H vs Q E hr hsp => ?_
  obtain ⟨t, h, q⟩ := hbody cdv A outer s H vs Q E hr hsp
  exact ⟨t, h.nox, q⟩
theorem Fun.binds {x qual : Str} {st : Stmt} {f : Addr} {fd : FuncData} {ps : List Str} (F : Fun K x qual st f fd)
    (h : ∀ (kV doc pm : Value) (an : Option Addr) (cdv ct : Value) (us : List Value), us.length = ps.length -> bindArgs (PySem.W.fnOf x qual (x5c st) (x3i st) (x0c st) .none kV doc pm an cdv ct) ⟨us, []⟩ = pure (ps.zip us)) : y2d K fd ps [] := by
  obtain ⟨oc, od, kV, doc, pm, an, cdv, ct, osl, rfl, lk, hcd⟩ := F.ex
  exact .all (h kV doc pm an cdv ct)
theorem z1k {x qual : Str} {st : Stmt} {f : Addr} {oc : Value} {od an : Option Addr} {osl : Array (Option Value)} {kV doc pm cdv ct : Value} (l : K.lookup f = some ⟨oc, od, .func (PySem.W.fnOf x qual (x5c st) (x3i st) (x0c st) .none kV doc pm an cdv ct), osl⟩)
    (c : PySem.W.codeIn K cdv qual = true) (k : PySem.W.keepIn K (.ref f) = true) : Fun K x qual st f (PySem.W.fnOf x qual (x5c st) (x3i st) (x0c st) .none kV doc pm an cdv ct) := ⟨⟨oc, od, kV, doc, pm, an, cdv, ct, osl, rfl, l, c⟩, k⟩
end
theorem z9o {A : Around} {k : Nat} (hr : Room k A) : A.units + 1 < cLine := Nat.lt_of_le_of_lt (Nat.add_le_add_left (by decide : 1 <= 64) _) hr.units
theorem x4a {n : Nat} (h : n <= 1000) : n < sizeLine := Nat.lt_of_le_of_lt h (by decide)
section
variable {X : Cx}
theorem pv (i : Nat) {x : Str} {pos : Pos} (hN : X.N[i]? = some x := by rfl) (hv : Vis X.env.scope x := by first | exact Or.inl rfl | exact Or.inr (Or.inl rfl) | exact Or.inr (Or.inr rfl)) (hd : (x == ("__debug__" : Str)) = false := by decide)
    (hcd : (x == ("__classdict__" : Str)) = false := by decide) : PE X (.Name x pos) (x9j i) := z72 hN hv hd hcd
end
section
variable {κ : Type} [DecidableEq κ]
noncomputable def y5j (kvs : List (κ × V)) (k : κ) : Option V := (kvs.find? fun kv => decide (kv.1 = k)).map (·.2)
noncomputable def y9b (kvs : List (κ × V)) (k : κ) (v : V) : List (κ × V) :=
  if (kvs.any fun kv => decide (kv.1 = k)) = true then kvs.map (fun kv => if kv.1 = k then (kv.1, v) else kv) else kvs ++ [(k, v)]
theorem y1a {p : κ × V} {r : List (κ × V)} {k : κ} (e : p.1 = k) : y5j (p :: r) k = some p.2 := by simp [y5j, List.find?_cons, e]
theorem y1g {p : κ × V} {r : List (κ × V)} {k : κ} (e : ¬ p.1 = k) : y5j (p :: r) k = y5j r k := by simp [y5j, List.find?_cons, e]
theorem y4d (kvs : List (κ × V)) (k : κ) (v : V) : (y9b kvs k v).length <= kvs.length + 1 := by
  unfold y9b
  split
  · rw [List.length_map]; omega
  · rw [List.length_append, List.length_cons, List.length_nil]; omega
theorem z39.getD {o : Option V} {u : Option Value} {d : V} {d' : Value} (r : z39 o u) (rd : x3r d d') : x3r (o.getD d) (u.getD d') := by
  cases o with
  | none => cases u with
    | none => exact rd
    | some _ => exact (show False from r).elim
  | some _ => cases u with
    | none => exact (show False from r).elim
    | some _ => exact r
theorem KV.val {kvs : List (κ × V)} {vs : List (κ × Value)} (r : KV kvs vs) (k : κ) : z39 (y5j kvs k) (valueAt vs k) := by
  unfold KV at r
  induction r with
  | nil => exact True.intro
  | @cons p q ps qs h t ih =>
    obtain ⟨h1, h2⟩ := h
    by_cases e : p.1 = k
    · have e' : q.1 = k := h1.symm.trans e
      have b : valueAt (q :: qs) k = some q.2 := by simp [valueAt, List.find?_cons, e']
      rw [y1a e, b]; exact h2
    · have e' : ¬ q.1 = k := fun z => e (h1.trans z)
      have b : valueAt (q :: qs) k = valueAt qs k := by simp [valueAt, List.find?_cons, e']
      rw [y1g e, b]; exact ih
theorem KV.any {kvs : List (κ × V)} {vs : List (κ × Value)} (r : KV kvs vs) (k : κ) : (kvs.any fun kv => decide (kv.1 = k)) = vs.any fun kv => decide (kv.1 = k) := by
  unfold KV at r
  induction r with
  | nil => rfl
  | cons h t ih => rw [List.any_cons, List.any_cons, ih, h.1]
theorem KV.repl {kvs : List (κ × V)} {vs : List (κ × Value)} (r : KV kvs vs) (k : κ) {y : V} {u : Value} (ry : x3r y u) :
    KV (kvs.map fun kv => if kv.1 = k then (kv.1, y) else kv) (vs.map fun kv => if kv.1 = k then (kv.1, u) else kv) := by
  unfold KV at r ⊢
  induction r with
  | nil => exact .nil
  | @cons p q ps qs h t ih =>
    rw [List.map_cons, List.map_cons]
    refine .cons ?_ ih
    obtain ⟨h1, h2⟩ := h
    by_cases e : p.1 = k
    · rw [if_pos e, if_pos (h1.symm.trans e)]; exact ⟨h1, ry⟩
    · rw [if_neg e, if_neg (fun z => e (h1.trans z))]; exact ⟨h1, h2⟩
theorem KV.put {kvs : List (κ × V)} {vs : List (κ × Value)} (r : KV kvs vs) (k : κ) {y : V} {u : Value} (ry : x3r y u) : KV (y9b kvs k y) (stored vs k u) := by
  unfold y9b stored
  rw [r.any k]
  by_cases e : (vs.any fun kv => decide (kv.1 = k)) = true
  · rw [if_pos e, if_pos e]; exact r.repl k ry
  · rw [if_neg e, if_neg e]; exact Paired.snoc r ⟨rfl, ry⟩
end
theorem z3a {P : Program} {w : World} {k : Key} {u : Value} (r : x3r (kV k) u) : (x2v P w).is k u = true := by
  cases k with
  | inl i => obtain ⟨t, e⟩ := (show ∃ t, u = Value.int i t from r); subst e; exact y3q P w i t
  | inr x => obtain ⟨t, e⟩ := (show ∃ t, u = Value.str x t from r); subst e; exact y41 P w x t
theorem y3a {P : Program} {w : World} : ∀ {ks : List Key} {us : List Value}, x2p (ks.map kV) us -> ItemsAre (x2v P w) ks us
  | [], _, r => by rw [List.map_nil] at r; cases r; exact .nil
  | k :: ks, _, r => by
    rw [List.map_cons] at r
    cases r with
    | cons h t => exact .cons (z3a h) (y3a t)
noncomputable abbrev KT (H : Hp) : List (List Key × V) -> List (List Key × Addr × Value) -> Prop := Paired fun p q => p.1 = q.1 /\ H q.2.1 = some (.tup (p.1.map kV)) /\ x3r p.2 q.2.2
theorem KT.val {H : Hp} {kvs : List (List Key × V)} {xs : List (List Key × Addr × Value)} (r : KT H kvs xs) (k : List Key) : z39 (y5j kvs k) ((atKey xs k).map (·.2)) := by
  induction r with
  | nil => exact True.intro
  | @cons p q ps qs h t ih =>
    obtain ⟨h1, _, h2⟩ := h
    by_cases e : p.1 = k
    · have e' : q.1 = k := h1.symm.trans e
      have b : atKey (q :: qs) k = some q.2 := by simp [atKey, List.find?_cons, e']
      rw [y1a e, b]; exact h2
    · have e' : ¬ q.1 = k := fun z => e (h1.trans z)
      have b : atKey (q :: qs) k = atKey qs k := by simp [atKey, List.find?_cons, e']
      rw [y1g e, b]; exact ih
section
variable {P : Program} {w : World} {H : Hp} {h : Heap} {a : Addr}
theorem z6w {u : HO} (ok : HOk P w H h) (e : Rd H a u) : x2y P w H h a u := e.ok ok
theorem z4s {kvs : List (Key × V)} (ok : HOk P w H h) (e : Rd H a (.dK kvs)) : kvs.length <= sizeLine /\ (a == sysModules) = false /\ ∃ vs, KV kvs vs /\ h.DictOf (x2v P w) a vs :=
  show x2y P w H h a (.dK kvs) from z6w ok e
theorem j03 {kvs : List (Key × V)} (ok : HOk P w H h) (e : H a = some (.dK kvs)) : kvs.length <= sizeLine /\ (a == sysModules) = false /\ ∃ vs, KV kvs vs /\ h.DictOf (x2v P w) a vs := z4s ok (.inl e)
theorem z23 {ks : List Key} (ok : HOk P w H h) (e : H a = some (.tup (ks.map kV))) : (tupleKind (x2v P w)).is h ks a := by
  obtain ⟨_, its, r, o, h1, h2, ⟨n, h3⟩, _⟩ := (show x2y P w H h a (.tup (ks.map kV)) from ok a _ e)
  exact ⟨o, its.toArray, n, h1, h2, h3, by simpa using y3a r⟩
theorem z6m {kvs : List (List Key × V)} (ok : HOk P w H h) (e : Rd H a (.dT kvs)) : kvs.length <= sizeLine /\ (a == sysModules) = false /\
    ∃ xs, KT H kvs xs /\ h.DictOfH (tupleKind (x2v P w)) a xs := by
  obtain ⟨z, y, xs, r, o, es, ep, h1, h2, h3, h4, h5⟩ := (show x2y P w H h a (.dT kvs) from z6w ok e)
  refine ⟨z, y, xs, r, o, es, ep, h1, h2, h3, h4, fun x hx => ?_, h5⟩
  have all : ∀ {l : List (List Key × V)} {m : List (List Key × Addr × Value)}, KT H l m -> ∀ x ∈ m, (tupleKind (x2v P w)).is h x.1 x.2.1 := by
    intro l m q
    induction q with
    | nil => intro x hx; exact nomatch hx
    | @cons p q ps qs hq t ih =>
      intro x hx
      rcases List.mem_cons.mp hx with e | hx
      · subst e
        exact z23 ok (by rw [<- hq.1]; exact hq.2.1)
      · exact ih x hx
  exact all r x hx
end
noncomputable def z5g (H : Hp) (a : Addr) (y : V) (r : Option V) : Prop :=
  (∃ kvs k, Rd H a (.dK kvs) /\ y = kV k /\ r = y5j kvs k) \/ ∃ kvs k b, Rd H a (.dT kvs) /\ y = .ref b /\ H b = some (.tup (k.map kV)) /\ r = y5j kvs k
theorem z5g.k {H : Hp} {a : Addr} {kvs : List (Key × V)} {k : Key} (e : H a = some (.dK kvs)) : z5g H a (kV k) (y5j kvs k) := .inl ⟨kvs, k, .inl e, rfl, rfl⟩
section
variable {X : Cx} {pins : List (Addr × Obj)} {σ : St} {H : Hp} {s : Shared} {a : Addr} {y v : V} {u r : Value} {o : Option V} {A : Around} {E : Value -> Shared -> Prop}
theorem Inv.big (I : Inv X pins σ H s) : sysModules < s.heap.objs.size := by
  have h : mainGlobals < s.heap.objs.size := (I.mod.glob.keeps I.bk).lt
  exact Nat.lt_trans (by decide) h
theorem z4r {h' : Heap} {t' : Nat} {ob : HO} (I : Inv X pins σ H s) (mu : Mut (H a)) (hs : Heap.SameBut a s.heap h') (he : ∃ q, h'.get? a = some q) (new : x2y X.prog X.w (upd H a ob) h' a ob) :
    Inv X pins σ (upd H a ob) { s with heap := h', toks := t' } :=
  I.write (x := a) (e := a) mu (.inl rfl) (fun b q hb z => (hs.2 b hb).trans z) he new
theorem z73 {P : Program} {w : World} {H' : Hp} {h' : Heap} {kvs : List (Key × V)} {vs : List (Key × Value)} (z : kvs.length <= sizeLine) (hd : (a == sysModules) = false) (rel : KV kvs vs) (dd : h'.DictOf (x2v P w) a vs) :
    x2y P w H' h' a (.dK kvs) := ⟨z, hd, vs, rel, dd⟩
end
theorem z0d {P : Program} {w : World} {H : Hp} (h : Heap) (hb : sysModules < h.objs.size) : x2y P w H (h.push { cls := .type "dict", data := .dict #[] }) h.objs.size (.dK []) :=
  ⟨Nat.zero_le _, beq_eq_false_iff_ne.mpr (Ne.symm (Nat.ne_of_lt hb)), [], .nil, Heap.DictOf.new h⟩
noncomputable def y8a : List (TE × TE) -> St -> Hp -> (List (V × V) -> Hp -> Prop) -> Prop
  | [], _, H, Q => Q [] H
  | (tk, tv) :: r, σ, H, Q => tk σ H fun x H1 => tv σ H1 fun y H2 => y8a r σ H2 fun ps H3 => Q ((x, y) :: ps) H3
noncomputable abbrev VV : List (V × V) -> List (Value × Value) -> Prop := Paired fun p q => x3r p.1 q.1 /\ x3r p.2 q.2
noncomputable def PPs (X : Cx) (pos : Pos) (keys : List (Option Expr)) (values : List Expr) (trs : List (TE × TE)) : Prop :=
  ∀ (pins : List (Addr × Obj)) (s : Shared) (σ : St) (H : Hp) (Q : List (V × V) -> Hp -> Prop), Inv X pins σ H s -> y8a trs σ H Q ->
    wpAny (model X.prog X.w) X.A (evalPairs (pairTrees keys values X.env pos)) (fun vs s' => ∃ ps H', Inv X pins σ H' s' /\ VV ps vs /\ Q ps H') X.xe s
theorem z4l {X : Cx} {pos : Pos} : PPs X pos [] [] [] := fun pins s σ H Q I h => pairTrees_nil_walk ⟨[], H, I, .nil, h⟩
theorem y4x {X : Cx} {pos : Pos} {k v : Expr} {ks : List (Option Expr)} {vs : List Expr} {tk tv : TE} {trs : List (TE × TE)} (hk : PE X k tk) (hv : PE X v tv) (hr : PPs X pos ks vs trs) :
    PPs X pos (some k :: ks) (v :: vs) ((tk, tv) :: trs) := fun pins s σ H Q I h =>
  pairTrees_cons_walk (thn (hk pins s σ H _ I h) fun u s1 ⟨x, H1, I1, rx, q1⟩ => thn (hv pins s1 σ H1 _ I1 q1) fun w2 s2 ⟨y, H2, I2, ry, q2⟩ =>
    thn (hr pins s2 σ H2 _ I2 q2) fun ws s3 ⟨ps, H3, I3, rel, q3⟩ => ⟨(x, y) :: ps, H3, I3, .cons ⟨rx, ry⟩ rel, q3⟩)
noncomputable def x9l (kvs more : List (Key × V)) : List (Key × V) := more.foldl (fun acc kv => y9b acc kv.1 kv.2) kvs
theorem KV.merge : ∀ {more : List (Key × V)} {rs : List (Key × Value)} {kvs : List (Key × V)} {vs : List (Key × Value)}, KV more rs -> KV kvs vs -> KV (x9l kvs more) (merged vs rs) := by
  intro more rs kvs vs r
  unfold KV at r
  induction r generalizing kvs vs with
  | nil => intro q; exact q
  | @cons p q ps qs h t ih =>
    intro r0
    have e : KV (y9b kvs p.1 p.2) (stored vs q.1 q.2) := by
      have := r0.put p.1 h.2
      rw [<- h.1]; exact this
    exact ih e
theorem x7a : ∀ (more kvs : List (Key × V)), (x9l kvs more).length <= kvs.length + more.length
  | [], kvs => by show kvs.length <= kvs.length + 0; omega
  | p :: r, kvs => by
    have h1 := x7a r (y9b kvs p.1 p.2)
    have h2 := y4d kvs p.1 p.2
    show (x9l (y9b kvs p.1 p.2) r).length <= _
    rw [List.length_cons]; omega
theorem y0v {P : Program} {w : World} : ∀ {kvs : List (Key × V)} {ws : List (Value × Value)}, VV (kvs.map fun kv => (kV kv.1, kv.2)) ws -> ∃ rs, Carries (x2v P w) ws rs /\ KV kvs rs
  | [], _, r => by rw [List.map_nil] at r; cases r; exact ⟨[], True.intro, .nil⟩
  | p :: kvs, _, r => by
    rw [List.map_cons] at r
    cases r with
    | @cons a b as bs h t =>
      obtain ⟨rs, c, q⟩ := y0v (P := P) (w := w) t
      obtain ⟨b1, b2⟩ := b
      exact ⟨(p.1, b2) :: rs, ⟨z3a h.1, rfl, c⟩, .cons ⟨rfl, h.2⟩ q⟩
noncomputable def z9l (trs : List (TE × TE)) : TE := fun σ H Q => ∀ p, H p = none -> y8a trs σ (upd H p (.dK [])) fun ps H2 => H2 p = some (.dK []) /\ ∃ kvs : List (Key × V), ps = kvs.map (fun kv => (kV kv.1, kv.2)) /\ kvs.length <= 15 /\ Q (.ref p) (upd H2 p (.dK (x9l [] kvs)))
theorem z4f {X : Cx} {pos : Pos} {keys : List (Option Expr)} {values : List Expr} {trs : List (TE × TE)} (h : PPs X pos keys values trs) (hall : keys.all (·.isSome) = true) (hl : keys.length = values.length) (h0 : keys ≠ [])
    (h15 : keys.length <= 15) : PE X (.Dict keys values pos) (z9l trs) := by
  intro pins s σ H Q I q
  have hn := I.hok.fresh (Nat.le_refl s.heap.objs.size)
  have I1 := I.laid (a := s.heap.objs.size) (o := .dK []) (h' := s.heap.push { cls := .type "dict", data := .dict #[] }) (t' := s.toks) (fun _ _ q => Heap.get?_push_of_some _ q) (Nat.le_refl _) (z0d s.heap I.big)
  refine wpAny_Dict_walk (knd := x2v X.prog X.w) hall hl h0 h15 (thn (h pins _ σ _ _ I1 (q _ hn)) fun ws s2 hh0 => ?_)
  obtain ⟨ps, H2, I2, rel, e, kvs, ep, lk, q2⟩ := hh0
  subst ep
  obtain ⟨rs, c, rk⟩ := y0v (P := X.prog) (w := X.w) rel
  obtain ⟨z, hd, vs0, r0, dd⟩ := j03 I2.hok e
  cases r0
  refine ⟨rs, c, dd, fun h' dd' hs => ⟨.ref s.heap.objs.size, _, ?_, rfl, q2⟩⟩
  have hz : (x9l [] kvs).length <= sizeLine := by
    have h1 := x7a kvs []
    rw [List.length_nil] at h1
    rw [sizeLine_eq]; omega
  have he : ∃ q, h'.get? s.heap.objs.size = some q := let ⟨q, _, _, hq, _⟩ := dd'; ⟨q, hq⟩
  exact z4r I2 (by rw [e]; exact True.intro) hs he (z73 hz hd (rk.merge .nil) dd')
structure M2 (X : Cx) (o : Expr) (m : Str) (apos : Pos) (e f : Expr) (cpos : Pos) : Prop where
  base : attributeBase o m X.env (eval o X.env) = eval o X.env
  few : ((backTo cpos (starEach [e, f] X.env)).all (fun x => !x.1) && (backToKw cpos (keywordEach [] X.env)).all (fun x => x.1.isSome)
    && decide (([e, f] : List Expr).length + ([] : List Keyword).length + (if ([] : List Keyword).isEmpty then 0 else 1) < 30)) = true
  line : (apos.endLine == cpos.line) = true
  trees : backTo cpos (starEach [e, f] X.env) = [(false, eval e X.env), (false, eval f X.env)]
noncomputable def IsD (H : Hp) (a : Addr) : Prop := (∃ kvs, Rd H a (.dK kvs)) \/ ∃ kvs, Rd H a (.dT kvs)
theorem z8o {X : Cx} {pins : List (Addr × Obj)} {σ : St} {H : Hp} {s : Shared} {a : Addr} (I : Inv X pins σ H s) (d : IsD H a) :
    s.TypeIs (.ref a) "dict" /\ (∀ b, Value.ref a = .ref b -> ∃ ob, s.heap.get? b = some ob /\ ob.dict = none) /\ (a == sysModules) = false := by
  rcases d with ⟨kvs, e⟩ | ⟨kvs, e⟩
  · obtain ⟨_, hd, vs, _, dd⟩ := z4s I.hok e
    refine ⟨dd.typeIs, fun b q => ?_, hd⟩
    cases q
    obtain ⟨ob, _, _, h1, h2, _⟩ := dd
    exact ⟨ob, h1, h2.2.1⟩
  · obtain ⟨_, hd, xs, _, dd⟩ := z6m I.hok e
    refine ⟨dd.typeIs, fun b q => ?_, hd⟩
    cases q
    obtain ⟨ob, _, _, h1, h2, _⟩ := dd
    exact ⟨ob, h1, h2.2.1⟩
section
variable {X : Cx} {pins : List (Addr × Obj)} {σ : St} {H : Hp} {s : Shared} {a : Addr} {y d : V} {u r : Value} {o : Option V} {A : Around} {E : Value -> Shared -> Prop}
theorem z85 {Q : Value -> Shared -> Prop} (hu : A.units + 1 < cLine) (I : Inv X pins σ H s) (g : z5g H a y o) (ry : x3r y u) (rd : x3r d r) (h : ∀ w' s', Inv X pins σ H s' -> x3r (o.getD d) w' -> Q w' s') :
    wpAny (model X.prog X.w) A (call (.builtin "dict.get") [.ref a, u, r]) Q E s := by
  rcases g with ⟨kvs, k, e, ey, l⟩ | ⟨kvs, k, b, e, ey, eb, l⟩
  · subst ey
    obtain ⟨z, hd, vs, rel, dd⟩ := z4s I.hok e
    refine call_meetsIn PySem.F.slot_dict_get dd.typeIs PySem.F.entry_dict_get (PySem.F.args_dict_get_3 _ _ _) (meets_dict_get_default (x2v X.prog X.w) a (z3a ry) hd r) ⟨_, dd.mapOf, h _ _ (I.tok _) ?_⟩
    rw [l]
    exact (rel.val k).getD rd
  · subst ey
    cases (show u = Value.ref b from ry)
    obtain ⟨z, hd, xs, rel, dd⟩ := z6m I.hok e
    refine call_meetsIn PySem.F.slot_dict_get dd.typeIs PySem.F.entry_dict_get (PySem.F.args_dict_get_3 _ _ _) (meetsH_dict_get_default (tupleKind (x2v X.prog X.w)) a b hd r) ⟨tupleKind_room_in1 hu, k, xs, z23 I.hok eb, dd, h _ _ (I.tok _) ?_⟩
    rw [l]
    exact (rel.val k).getD rd
end
noncomputable def z82 (td ty tx : TE) : TE := fun σ H Q => td σ H fun x H1 => ∃ a, x = .ref a /\ IsD H1 a /\ ty σ H1 fun y H2 => tx σ H2 fun z H3 => ∃ o, z5g H3 a y o /\ Q (o.getD z) H3
section
variable {X : Cx} {o e f : Expr} {apos cpos : Pos} {td ty tx : TE}
theorem y9j (hu : X.A.units + 1 < cLine) (ho : PE X o td) (he : PE X e ty) (hf : PE X f tx) (m : M2 X o "get" apos e f cpos) : PE X (.Call (.Attribute o "get" apos) [e, f] [] cpos) (z82 td ty tx) := by
  intro pins s σ H Q I h
  refine wpAny_Call_method m.base m.few m.line PySem.F.plainAttrs_dict PySem.F.slot_dict_get PySem.F.type_dict_get (thn (ho pins s σ H _ I h) fun u s1 hh0 => ?_)
  obtain ⟨x, H1, I1, rx, a, ex, d, q1⟩ := hh0
  subst ex
  obtain rfl : u = Value.ref a := rx
  obtain ⟨t1, t2, _⟩ := z8o I1 d
  refine ⟨t1, t2, ?_⟩
  rw [m.trees]
  refine Calls.callWith_builtin rfl (Calls.evalArgs_plain (Calls.spliced_cons (thn (he pins s1 σ H1 _ I1 q1) fun iv s2 ⟨y, H2, I2, ry, q2⟩ =>
    Calls.spliced_cons (thn (hf pins s2 σ H2 _ I2 q2) fun fv s3 ⟨z, H3, I3, rz, ov, g, q3⟩ => Calls.spliced_nil ?_))))
  exact z85 hu I3 g ry rz fun w' s4 I4 rw' => ⟨_, H3, I4, rw', q3⟩
end
theorem y2p {prog : Program} {w : World} {A : Around} {R : Result -> Shared -> Prop} {s : Shared} {elt target iter : Expr} {ifs : List Expr} {scope : Scope} {pos : Pos} {it acc : Value} {env : Env} (I : Nat -> Shared -> Prop)
    (turn : ∀ n s, I n s -> wpAny (model prog w) A (pyNext it) (fun r s₁ => match r with
      | none => R (.ok .next) s₁
      | some v => wpAny (model prog w) A (letOwnedTupleGo target it v) (fun _ s₁' => wpAny (model prog w) A (assign target env v) (fun _ s₂ =>
          wpAny (model prog w) A (forIn ifs true fun c r => if r = true then do let ok <- isTrue c env (eval c env); pure (ForInStep.yield ok) else pure (ForInStep.yield r)) (fun ok s₃ =>
            if ok = true then wpAny (model prog w) A (eval elt env) (fun x s₄ =>
              wpAny (model prog w) A (call (.builtin "list.append") [acc, x]) (fun _ s₅ => ∃ m, m < n /\ I m s₅) (fun _ _ => False) s₄) (fun _ _ => False) s₃
            else ∃ m, m < n /\ I m s₃) (fun _ _ => False) s₂) (fun _ _ => False) s₁') (fun _ _ => False) s₁) (fun _ _ => False) s)
    (n : Nat) (h : I n s) : codeAny (model prog w) A (.compLoop (.ListComp elt [⟨target, iter, ifs, 0⟩] scope pos) 0 it acc env) R s := by
  refine codeAny_loop rfl I (fun n s hI => ?_) n h
  show wpAny _ A ((compTurn (.ListComp elt [⟨target, iter, ifs, 0⟩] scope pos) 0 it acc env).onRaise (fun x => do noteFrame x env; theTreesLotGoes x)) _ _ s
  refine wpAny_noted ?_
  rw [compTurn_list]
  refine wpAny_bind (wpAny_standAt (wpAny_bind (wpAny_mono (turn n s hI) (fun r s₁ h₁ => ?_) fun _ _ h' => h'.elim)))
  cases r with
  | none => exact wpAny_pure h₁
  | some v =>
    refine wpAny_bind (wpAny_mono h₁ (fun _ s₁' h₁' => ?_) fun _ _ h' => h'.elim)
    refine wpAny_bind (wpAny_mono h₁' (fun _ s₂ h₂ => wpAny_bind (wpAny_mono h₂ (fun ok s₃ h₃ => ?_) fun _ _ h' => h'.elim)) fun _ _ h' => h'.elim)
    cases ok with
    | false => exact wpAny_pure ⟨rfl, h₃⟩
    | true =>
      exact wpAny_bind (wpAny_bind (wpAny_mono h₃ (fun x s₄ h₄ => wpAny_bind (wpAny_mono h₄ (fun _ s₅ h₅ => wpAny_pure (wpAny_pure ⟨rfl, h₅⟩)) fun _ _ h' => h'.elim)) fun _ _ h' => h'.elim))
theorem y4o {M : Model} {A : Around} {E : Value -> Shared -> Prop} {s : Shared} {scope : Scope} {globals : Addr} {cl : List (Str × Addr)} {qual : Str} {outer : Env} {Q : Env -> Shared -> Prop}
    (hQ : Q (newEnv scope s.heap.objs.size globals (cellsFrom (s.heap.objs.size + 1) scope.names cl) qual none .none (some outer) builtinsNs)
      { s with heap := pushCells (s.heap.push { cls := .type "dict", data := .dict #[] }) scope.names }) :
    wpAny M A (newFunctionEnv scope globals cl [] qual none .none (some outer)) Q E s := by
  simp only [newFunctionEnv, Option.isSome_some, if_true]
  refine wpAny_bind (wpAny_alloc ?_)
  refine wpAny_bind (wpAny_layCells _ (fun name kind cells => by cases hkc : kind == NameKind.cell <;> simp [hkc]) _ _ _ _ ?_)
  rw [show ({ s with heap := s.heap.push { cls := .type "dict", data := .dict #[] } } : Shared).heap.objs.size = s.heap.objs.size + 1 from Heap.size_push ..]
  refine wpAny_bind ?_
  rw [List.forIn_nil]
  exact wpAny_pure (wpAny_pure hQ)
noncomputable def x26 (cells : List (Str × Addr)) : List (Str × NameKind) -> List (Str × Addr) -> List (Str × Addr)
  | [], acc => acc
  | (n, k) :: r, acc => if k == .free then (match cells.lookup n with
      | some c => x26 cells r ((n, c) :: acc)
      | none => x26 cells r acc) else x26 cells r acc
theorem x79 {scope : Scope} {env : Env} (h : ∀ y ∈ scope.names, y.2 = .free -> ∃ c, env.cells.lookup y.1 = some c) : closureFor scope env = pure (x26 env.cells scope.names []) := by
  unfold closureFor
  have key : ∀ (names : List (Str × NameKind)) (acc : List (Str × Addr)), (∀ y ∈ names, y.2 = .free -> ∃ c, env.cells.lookup y.1 = some c) ->
      (forIn names acc (fun (x : Str × NameKind) (r : List (Str × Addr)) => (match x with
        | (name, kind) => if (kind == NameKind.free) = true then do
            let c <- cellOf env name
            pure (ForInStep.yield ((name, c) :: r))
          else pure (ForInStep.yield r) : Sem (ForInStep (List (Str × Addr)))))) = (pure (x26 env.cells names acc) : Sem (List (Str × Addr))) := by
    intro names
    induction names with
    | nil => intro acc _; rfl
    | cons y r ih =>
      intro acc hh
      obtain ⟨n, kd⟩ := y
      rw [List.forIn_cons]
      unfold x26
      by_cases hk : (kd == NameKind.free) = true
      · obtain ⟨c, hc⟩ := hh (n, kd) List.mem_cons_self (by simpa using hk)
        have hc' : env.cells.lookup n = some c := hc
        simp only [hk, if_true, hc']
        have e : cellOf env n = pure c := by unfold cellOf; rw [hc']
        rw [e]
        exact ih ((n, c) :: acc) fun z hz => hh z (List.mem_cons_of_mem _ hz)
      · simp only [hk]
        exact ih acc fun z hz => hh z (List.mem_cons_of_mem _ hz)
  exact (congrArg (fun m => m >>= fun cs => (pure cs : Sem (List (Str × Addr)))) (key scope.names [] h)).trans rfl
theorem x57 {cells : List (Str × Addr)} : ∀ {names : List (Str × NameKind)} {acc : List (Str × Addr)}, (∀ y c, (y, c) ∈ acc -> cells.lookup y = some c) -> ∀ y c, (y, c) ∈ x26 cells names acc -> cells.lookup y = some c
  | [], _, h, y, c, m => h y c m
  | (n, k) :: r, acc, h, y, c, m => by
    unfold x26 at m
    split at m
    · split at m
      · rename_i c' e
        refine x57 (acc := (n, c') :: acc) (fun z d hz => ?_) y c m
        rcases List.mem_cons.mp hz with q | q
        · cases q; exact e
        · exact h z d q
      · exact x57 h y c m
    · exact x57 h y c m
theorem x50 {cells : List (Str × Addr)} : ∀ {names : List (Str × NameKind)} {acc : List (Str × Addr)} {y : Str}, (acc.lookup y).isSome = true -> ((x26 cells names acc).lookup y).isSome = true
  | [], _, _, h => h
  | (n, k) :: r, acc, y, h => by
    unfold x26
    split
    · split
      · refine x50 ?_
        rw [List.lookup_cons]
        split
        · rfl
        · exact h
      · exact x50 h
    · exact x50 h
theorem x43 {cells : List (Str × Addr)} {y : Str} {c : Addr} (hc : cells.lookup y = some c) : ∀ {names : List (Str × NameKind)} {acc : List (Str × Addr)}, (y, NameKind.free) ∈ names -> ((x26 cells names acc).lookup y).isSome = true
  | (n, k) :: r, acc, h => by
    unfold x26
    rcases List.mem_cons.mp h with q | q
    · cases q
      simp only [hc]
      rw [if_pos (by rfl)]
      refine x50 ?_
      rw [List.lookup_cons, beq_self_eq_true]
      rfl
    · split
      · split
        · exact x43 hc q
        · exact x43 hc q
      · exact x43 hc q
theorem x53 : ∀ {names : List (Str × NameKind)} {h : Heap} {acc : List (Str × Addr)} {y : Str} {c : Addr}, (y, c) ∈ cellsFrom h.objs.size names acc -> (y, c) ∈ acc \/ (h.objs.size <= c /\ (pushCells h names).IsCell c none)
  | [], _, _, _, _, m => .inl m
  | (n, k) :: r, h, acc, y, c, m => by
    unfold cellsFrom at m
    unfold pushCells
    split at m
    · rename_i hk
      rw [if_pos hk]
      have m' : (y, c) ∈ cellsFrom (h.push { cls := .type "cell", data := .cell none }).objs.size r ((n, h.objs.size) :: acc) := by rw [Heap.size_push]; exact m
      rcases x53 m' with q | ⟨q1, q2⟩
      · rcases List.mem_cons.mp q with e | q
        · cases e
          refine .inr ⟨Nat.le_refl _, _, pushCells_keeps _ _ _ _ (Heap.get?_push_size _ rfl), rfl⟩
        · exact .inl q
      · rw [Heap.size_push] at q1
        exact .inr ⟨by omega, q2⟩
    · rename_i hk
      rw [if_neg hk]
      exact x53 m
theorem x52 : ∀ {names : List (Str × NameKind)} {n : Nat} {acc : List (Str × Addr)}, (∀ y c, (y, c) ∈ acc -> c < n) -> (∀ x y c, (x, c) ∈ acc -> (y, c) ∈ acc -> x = y) -> ∀ x y c, (x, c) ∈ cellsFrom n names acc -> (y, c) ∈ cellsFrom n names acc -> x = y
  | [], _, _, _, h => h
  | (nm, k) :: r, n, acc, hlt, h => by
    unfold cellsFrom
    split
    · refine x52 (n := n + 1) (acc := (nm, n) :: acc) (fun y c m => ?_) (fun x y c m1 m2 => ?_)
      · rcases List.mem_cons.mp m with e | m
        · cases e; exact Nat.lt_succ_self _
        · exact Nat.lt_succ_of_lt (hlt y c m)
      · rcases List.mem_cons.mp m1 with e1 | m1 <;> rcases List.mem_cons.mp m2 with e2 | m2
        · cases e1; cases e2; rfl
        · cases e1; exact absurd (hlt y _ m2) (Nat.lt_irrefl _)
        · cases e2; exact absurd (hlt x _ m1) (Nat.lt_irrefl _)
        · exact h x y c m1 m2
    · exact x52 hlt h
theorem x4y {lo : Nat} {y : Str} : ∀ {names : List (Str × NameKind)} {n : Nat} {acc : List (Str × Addr)}, lo <= n -> (∀ c, acc.lookup y = some c -> lo <= c) -> ∀ c, (cellsFrom n names acc).lookup y = some c -> lo <= c
  | [], _, _, _, h => h
  | (nm, k) :: r, n, acc, hn, h => by
    unfold cellsFrom
    split
    · refine x4y (n := n + 1) (by omega) fun c e => ?_
      rw [List.lookup_cons] at e
      split at e
      · cases e; exact hn
      · exact h c e
    · exact x4y hn h
theorem x5o {lo : Nat} {y : Str} : ∀ {names : List (Str × NameKind)} {n : Nat} {acc : List (Str × Addr)}, lo <= n -> (y, NameKind.cell) ∈ names -> ∀ c, (cellsFrom n names acc).lookup y = some c -> lo <= c
  | (nm, k) :: r, n, acc, hn, h => by
    unfold cellsFrom
    rcases List.mem_cons.mp h with q | q
    · cases q
      rw [if_pos (by rfl)]
      refine x4y (n := n + 1) (by omega) fun c e => ?_
      rw [List.lookup_cons, beq_self_eq_true] at e
      cases e; exact hn
    · split
      · exact x5o (n := n + 1) (by omega) q
      · exact x5o hn q
theorem x3y {y : Str} : ∀ {names : List (Str × NameKind)} {n : Nat} {acc : List (Str × Addr)}, (y, NameKind.cell) ∉ names -> (cellsFrom n names acc).lookup y = acc.lookup y
  | [], _, _, _ => rfl
  | (nm, k) :: r, n, acc, h => by
    unfold cellsFrom
    split
    · rename_i hk
      rw [x3y (fun z => h (List.mem_cons_of_mem _ z)), List.lookup_cons]
      have hne : (y == nm) = false := by
        cases e : y == nm with
        | false => rfl
        | true =>
          have e1 : y = nm := beq_iff_eq.mp e
          have e2 : k = NameKind.cell := by simpa using hk
          exact absurd (by rw [e1, <- e2]; exact List.mem_cons_self) h
      rw [hne]
    · exact x3y fun z => h (List.mem_cons_of_mem _ z)
noncomputable def y2n (env : Env) (y : Str) (k : NameKind) : NameKind := if (k == NameKind.free && env.scope.kind == .function && env.kindOf y == some .cell) then .cell else k
theorem x4j {env : Env} {y : Str} : ∀ (names : List (Str × NameKind)), (names.map fun (n, k) => if (k == NameKind.free && env.scope.kind == .function && env.kindOf n == some .cell) then (n, NameKind.cell) else (n, k)).lookup y = (names.lookup y).map (y2n env y)
  | [] => rfl
  | (n, k) :: r => by
    have ih := x4j (env := env) (y := y) r
    show List.lookup y ((if (k == NameKind.free && env.scope.kind == .function && env.kindOf n == some .cell) = true then (n, NameKind.cell) else (n, k)) :: _) = _
    cases hx : y == n with
    | true =>
      have e := beq_iff_eq.mp hx
      subst e
      rw [List.lookup_cons, List.lookup_cons]
      by_cases hc : (k == NameKind.free && env.scope.kind == .function && env.kindOf y == some .cell) = true
      · simp only [y2n, hc, if_true, beq_self_eq_true, Option.map_some]
      · simp only [y2n, hc, beq_self_eq_true, Option.map_some]
        simp
    | false =>
      by_cases hc : (k == NameKind.free && env.scope.kind == .function && env.kindOf n == some .cell) = true
      · rw [if_pos hc, List.lookup_cons, List.lookup_cons]; simp only [hx]; exact ih
      · rw [if_neg hc, List.lookup_cons, List.lookup_cons]; simp only [hx]; exact ih
theorem y3d {l : List (Str × NameKind)} (hn : (l.map (·.1)).Nodup) {y : Str} {k : NameKind} (h : (y, k) ∈ l) : l.lookup y = some k := by
  induction l with
  | nil => cases h
  | cons p r ih =>
    rw [List.lookup_cons]
    rcases List.mem_cons.mp h with e | h
    · rw [<- e, beq_self_eq_true]
    · have hne : y ≠ p.1 := fun e => by
        have := (List.nodup_cons.mp hn).1
        exact this (by show p.1 ∈ _; rw [<- e]; exact List.mem_map.mpr ⟨(y, k), h, rfl⟩)
      have : (y == p.1) = false := by simpa using hne
      rw [this]
      exact ih (List.nodup_cons.mp hn).2 h
noncomputable def y7z (scope : Scope) (env : Env) (C : Addr) : Env :=
  { newEnv scope C env.globals (cellsFrom (C + 1) scope.names (x26 env.cells scope.names [])) env.qual none .none (some env) builtinsNs with scope := relabel scope env }
noncomputable def x1w (X : Cx) (N' : List Str) (scope : Scope) (C : Addr) (s : Shared) (H : Hp) (fp : List Addr) : Cx where
  prog := X.prog
  w := X.w
  K := X.K
  mg := X.mg
  base := X.base
  A := X.A
  N := N'
  s₀ := s
  H₀ := H
  env := y7z scope X.env C
  outer := X.stack
  stack := X.stack
  ex := fp
  fn := fun y => scope.names.lookup y == some .cell
  calm := X.calm
  pn := []
  xe := fun _ _ => False
structure CompOk (X : Cx) (k : Nat) (N' : List Str) (scope : Scope) : Prop where
  kind : scope.kind = .function
  names : (scope.names.map (·.1)).Nodup
  len : N'.length = X.N.length + k
  frees : (scope.names.all fun y => y.2 != .free || X.env.kindOf y.1 == some .cell || X.env.kindOf y.1 == some .free) = true
  outs : ((N'.zip X.N).all fun p => (p.1 == p.2 && scope.names.lookup p.1 == some .free) || scope.names.lookup p.1 == none || scope.names.lookup p.1 == some .globalImplicit) = true
theorem CompOk.free {X : Cx} {k : Nat} {N' : List Str} {scope : Scope} (S : CompOk X k N' scope) {y : Str} (h : (y, NameKind.free) ∈ scope.names) : X.env.kindOf y = some .cell \/ X.env.kindOf y = some .free := by
  have := List.all_eq_true.mp S.frees (y, NameKind.free) h
  simp only [Bool.or_eq_true, bne_iff_ne, ne_eq, beq_iff_eq] at this
  rcases this with (h1 | h1) | h1
  · exact absurd trivial h1
  · exact .inl h1
  · exact .inr h1
theorem CompOk.out {X : Cx} {k : Nat} {N' : List Str} {scope : Scope} (S : CompOk X k N' scope) {i : Nat} {y : Str} (hi' : i < X.N.length) (h : N'[i]? = some y) (hv : Vis (relabel scope X.env) y) : X.N[i]? = some y /\ scope.names.lookup y = some .free := by
  have e2 : X.N[i]? = some X.N[i] := by simp [hi']
  have m : (y, X.N[i]) ∈ N'.zip X.N := List.mem_of_getElem? (i := i) (by rw [List.getElem?_zip_eq_some]; exact ⟨h, e2⟩)
  have := List.all_eq_true.mp S.outs _ m
  simp only [Bool.or_eq_true, Bool.and_eq_true, beq_iff_eq] at this
  have hl : (relabel scope X.env).names.lookup y = (scope.names.lookup y).map (y2n X.env y) := x4j _
  rcases this with (⟨h1, h2⟩ | h1) | h1
  · exact ⟨by rw [e2, <- h1], h2⟩
  · rw [h1] at hl
    rcases hv with z | z | z <;> (rw [hl] at z; cases z)
  · rw [h1] at hl
    have hr : y2n X.env y .globalImplicit = .globalImplicit := rfl
    rw [Option.map_some, hr] at hl
    rcases hv with z | z | z <;> (rw [hl] at z; cases z)
theorem Un.updNew {fs ex : List Addr} {P : Program} {w : World} {H H' : Hp} {h h' : Heap} {D : Addr} {o : HO} (u : Un fs ex H H' h h') (hok : HOk P w H h) (hD : h.objs.size <= D) : Un fs ex H (upd H' D o) h h' := by
  have ne : ∀ b ob, h.get? b = some ob -> b ≠ D := fun b ob e z => absurd (Nat.lt_of_lt_of_le (Heap.lt_size e) hD) (by rw [z]; exact Nat.lt_irrefl _)
  have ne' : ∀ b x, H b = some x -> b ≠ D := fun b x e z => absurd (Nat.lt_of_lt_of_le (hok.lt e) hD) (by rw [z]; exact Nat.lt_irrefl _)
  refine ⟨u.keep, u.slot, fun b ob e n hx => ?_, u.there, fun b xs e => ?_, fun b ob x e => ?_, fun b ps e => ?_⟩
  · rw [x0q (ne b ob e)]; exact u.free b ob e n hx
  · rw [x0q (ne' b _ e)]; exact u.tups b xs e
  · rw [x0q (ne' b _ e)]; exact u.frzs b ob x e
  · rw [x0q (ne' b _ e)]; exact u.tbls b ps e
theorem HOk.add {P : Program} {w : World} {H : Hp} {h : Heap} {D : Addr} {o : HO} (x : HOk P w H h) (hn : H D = none) (new : x2y P w (upd H D o) h D o) : HOk P w (upd H D o) h := fun b u e => by
  by_cases hb : b = D
  · subst hb; rw [x23] at e; cases e; exact new
  · rw [x0q hb] at e
    exact (x b u e).stay (fun c v _ q => q) (fun c q => by rw [x0q (x1f q hn)]; exact q) fun c xs q => by rw [x0q (x1f q hn)]; exact q
noncomputable def PTs (X : Cx) (ifs : List Expr) (t : TT) : Prop :=
  ∀ (pins : List (Addr × Obj)) (s : Shared) (σ : St) (H : Hp) (Q : Bool -> Hp -> Prop), Inv X pins σ H s -> t σ H Q ->
    wpAny (model X.prog X.w) X.A (forIn ifs true fun c r => if r = true then do let ok <- isTrue c X.env (eval c X.env); pure (ForInStep.yield ok) else pure (ForInStep.yield r)) (TP X pins σ Q) X.xe s
noncomputable def j1g : TT := fun _ H Q => Q true H
theorem z4g {X : Cx} : PTs X [] j1g := fun pins s σ H Q I h => wpAny_tests_nil ⟨H, I, h⟩
theorem z4e {X : Cx} {c : Expr} {t : TT} (h : PT X c t) : PTs X [c] t := fun pins s σ H Q I q => wpAny_tests_one (h pins s σ H Q I q)
noncomputable def z5z (k : Nat) (g : TG) (tt : TT) (te : TE) (σ : St) (J : It) (H : Hp) (Fin : List V -> Hp -> Prop) : Prop :=
  ∃ W : Nat -> Nat -> List V -> Hp -> Prop, (∃ m, W 0 m [] H) /\ ∀ i m ys H2, W i m ys H2 -> ys.length <= sizeLine /\
    ((J.stop i H2 /\ Fin ys H2) \/ (J.go i H2 /\ ys.length < sizeLine /\ ∀ x H3, J.yld i H2 x H3 -> g x (σ ++ List.replicate k none) H3 fun σ4 H4 => (∃ τ, σ4 = σ ++ τ /\ τ.length = k) /\
      tt σ4 H4 fun b H5 => if b = true then te σ4 H5 fun v H6 => ∃ m', m' < m /\ W (i + 1) m' (ys ++ [v]) H6 else ∃ m', m' < m /\ W (i + 1) m' ys H5))
noncomputable def z19 (k : Nat) (wi : TI) (g : TG) (tt : TT) (te : TE) : TE := fun σ H Q => wi σ H fun J H1 => z5z k g tt te σ J H1 fun ys H2 => ∀ p, H2 p = none -> Q (.ref p) (upd H2 p (.lst ys))
noncomputable def lsO (us : List Value) (n : Nat) : Obj := { cls := .type "list", data := .seq us.toArray n }
theorem z5u {X : Cx} {pins : List (Addr × Obj)} {τ σ : St} {H : Hp} {s : Shared} (I : Inv X pins (σ ++ τ) H s) : Inv X pins (σ ++ List.replicate τ.length none) H s :=
  I.weak (by simp) fun i v e => by
    by_cases hi : i < σ.length
    · rw [List.getElem?_append_left hi] at e ⊢
      exact e
    · rw [List.getElem?_append_right (by omega), List.getElem?_replicate] at e
      split at e <;> cases e
section
variable {X : Cx} {k : Nat} {N' : List Str} {scope : Scope} {pins : List (Addr × Obj)} {σ : St} {H2 : Hp} {s2 : Shared} {fp : List Addr}
noncomputable abbrev x7n (scope : Scope) (s2 : Shared) : Heap := pushCells ((s2.heap.push (lsO [] 0)).push { cls := .type "dict", data := .dict #[] }) scope.names
theorem z0s (S : CompOk X k N' scope) (I2 : Inv X pins σ H2 s2) (f2 : ∀ b ∈ fp, y6u X pins H2 b) (hfp : ∀ b ∈ fp, b < s2.heap.objs.size) :
    Inv (x1w X N' scope (s2.heap.objs.size + 1) s2 H2 fp) [(s2.heap.objs.size, lsO [] 0)] (σ ++ List.replicate k none) H2 { s2 with heap := x7n scope s2 } := by
  have e1 : (s2.heap.push (lsO [] 0)).objs.size = s2.heap.objs.size + 1 := Heap.size_push ..
  have e2 : ((s2.heap.push (lsO [] 0)).push { cls := .type "dict", data := .dict #[] }).objs.size = s2.heap.objs.size + 1 + 1 := by rw [Heap.size_push, e1]
  have keep : ∀ b o, s2.heap.get? b = some o -> (x7n scope s2).get? b = some o := fun b o e => pushCells_keeps _ _ b o (Heap.get?_push_of_some _ (Heap.get?_push_of_some _ e))
  have hsub : ∀ y c, (y, c) ∈ x26 X.env.cells scope.names [] -> X.env.cells.lookup y = some c := x57 (fun _ _ m => nomatch m)
  have cmem : ∀ y c, (y, c) ∈ cellsFrom (s2.heap.objs.size + 1 + 1) scope.names (x26 X.env.cells scope.names []) -> X.env.cells.lookup y = some c \/ (s2.heap.objs.size + 1 + 1 <= c /\ (x7n scope s2).IsCell c none) := fun y c m => by
    have m' : (y, c) ∈ cellsFrom ((s2.heap.push (lsO [] 0)).push { cls := .type "dict", data := .dict #[] }).objs.size scope.names (x26 X.env.cells scope.names []) := by rw [e2]; exact m
    rcases x53 m' with q | ⟨q1, q2⟩
    · exact .inl (hsub y c q)
    · rw [e2] at q1; exact .inr ⟨q1, q2⟩
  have clt : ∀ y c, X.env.cells.lookup y = some c -> c < s2.heap.objs.size := fun y c e => by obtain ⟨v, z⟩ := I2.cell y c e; exact z.lt
  have hl : ∀ y, (relabel scope X.env).names.lookup y = (scope.names.lookup y).map (y2n X.env y) := fun y => x4j _
  have ok : (x1w X N' scope (s2.heap.objs.size + 1) s2 H2 fp).Ok := by
    refine ⟨I2.ok.mod, S.kind, I2.ok.glob, I2.ok.blt, Nat.le_succ _, fun x y c h1 h2 => ?_, fun x hx => ?_, fun x c hf h => ?_, I2.ok.hd, I2.ok.frames, .inl rfl, fun b hb => ⟨?_, fun x c h z => ?_⟩, I2.bs, Nat.le_trans I2.ok.bsz I2.sz, fun b o e hb => ?_, fun b hb z => ?_, I2.stack, I2.stkFree⟩
    · refine x52 (n := s2.heap.objs.size + 1 + 1) (names := scope.names) (acc := x26 X.env.cells scope.names []) (fun y c m => ?_) (fun x y c m1 m2 => ?_) x y c (PySem.mem_of_lookup h1) (PySem.mem_of_lookup h2)
      · exact Nat.lt_of_lt_of_le (clt y c (hsub y c m)) (by omega)
      · exact I2.ok.inj x y c (hsub x c m1) (hsub y c m2)
    · have hx' : (relabel scope X.env).names.lookup x = some .cell \/ (relabel scope X.env).names.lookup x = some .free := hx
      rw [hl x] at hx'
      have : scope.names.lookup x = some .cell \/ scope.names.lookup x = some .free := by
        cases e : scope.names.lookup x with
        | none => rw [e] at hx'; rcases hx' with z | z <;> cases z
        | some kd =>
          rw [e, Option.map_some] at hx'
          cases kd <;> first
            | exact .inl rfl
            | exact .inr rfl
            | (rcases hx' with z | z <;> (have z' := Option.some.inj z; unfold y2n at z'; simp at z'))
      rcases this with q | q
      · exact Option.isSome_iff_exists.mp (PySem.W.cellsFrom_some scope.names (s2.heap.objs.size + 1 + 1) _ (.inl q))
      · have qm := PySem.mem_of_lookup q
        have hk := S.free qm
        obtain ⟨c, hc⟩ := I2.ok.has x hk
        exact Option.isSome_iff_exists.mp (PySem.W.cellsFrom_some scope.names (s2.heap.objs.size + 1 + 1) _ (.inr (x43 hc qm)))
    · have hf' : (scope.names.lookup x == some .cell) = true := hf
      have := x5o (lo := s2.heap.objs.size) (n := s2.heap.objs.size + 1 + 1) (acc := x26 X.env.cells scope.names []) (by omega) (PySem.mem_of_lookup (beq_iff_eq.mp hf')) c h
      exact this
    · have := hfp b hb
      show b ≠ s2.heap.objs.size + 1
      exact Nat.ne_of_lt (Nat.lt_of_lt_of_le this (Nat.le_succ _))
    · have q := hfp b hb
      rcases cmem x c (PySem.mem_of_lookup h) with w | ⟨w, _⟩
      · exact (f2 b hb).2.2.2.2.1 x c w z
      · subst z; exact absurd (Nat.lt_of_lt_of_le q (Nat.le_trans (by omega) w)) (Nat.lt_irrefl _)
    · rcases (f2 b hb).2.2.2.1 with z | z
      · exact I2.ok.noex b o e z
      · have := Heap.lt_size e
        have := I2.ok.bsz
        exact absurd (Nat.lt_of_lt_of_le (Heap.lt_size e) (Nat.le_trans I2.ok.bsz z)) (Nat.lt_irrefl _)
    · rcases List.mem_cons.mp (I2.stkSub b z) with q | q
      · exact (f2 b hb).2.1 q
      · exact (f2 b hb).2.2.1 q
  obtain ⟨m, hn, hloc⟩ := id I2.loc
  refine ⟨ok, rfl, I2.bare, Un.kept keep, ⟨fun _ => none, ?_, fun i y v h1 h2 h3 => ?_⟩, fun y c h => ?_, I2.hok.fresh (Nat.le_succ _), fun y c h => ?_, fun p hp => ?_, I2.hok.kept keep, ?_⟩
  · have := (Heap.Ns.new (s2.heap.push (lsO [] 0)) (.type "dict")).keeps (pushCells_keeps scope.names _)
    rw [e1] at this
    exact this
  · by_cases hi : i < σ.length
    · have h3' : Vis (relabel scope X.env) y := h3
      obtain ⟨o1, o2⟩ := S.out (by rw [<- I2.len]; exact hi) h1 h3'
      have hk := S.free (PySem.mem_of_lookup o2)
      have hs : σ[i]? = some (some v) := by
        rw [List.getElem?_append_left hi] at h2
        exact h2
      obtain ⟨u, r, l⟩ := hloc i y v o1 hs (.inr hk)
      refine ⟨u, r, ?_⟩
      rcases l with ⟨l, _⟩ | ⟨_, c, hc, hcell⟩
      · rcases hk with z | z <;> (rw [l] at z; cases z)
      · refine .inr ⟨?_, c, ?_, hcell.keeps keep⟩
        · show (relabel scope X.env).names.lookup y = some .cell \/ (relabel scope X.env).names.lookup y = some .free
          rw [hl y, o2, Option.map_some]
          unfold y2n
          split
          · exact .inl rfl
          · exact .inr rfl
        · show (cellsFrom (s2.heap.objs.size + 1 + 1) scope.names (x26 X.env.cells scope.names [])).lookup y = some c
          rw [x3y (fun z => by have := y3d S.names z; rw [o2] at this; cases this)]
          obtain ⟨c', hc'⟩ := Option.isSome_iff_exists.mp (x43 (acc := []) hc (PySem.mem_of_lookup o2))
          have := hsub y c' (PySem.mem_of_lookup hc')
          rw [hc] at this; cases this
          exact hc'
    · rw [List.getElem?_append_right (by omega), List.getElem?_replicate] at h2
      split at h2 <;> cases h2
  · rcases cmem y c (PySem.mem_of_lookup h) with w | ⟨_, w⟩
    · obtain ⟨v, z⟩ := I2.cell y c w
      exact ⟨v, z.keeps keep⟩
    · exact ⟨_, w⟩
  · rcases cmem y c (PySem.mem_of_lookup h) with w | ⟨w, _⟩
    · exact I2.freeC y c w
    · exact I2.hok.fresh (by omega)
  · have e : p = (s2.heap.objs.size, lsO [] 0) := by
      have : p ∈ [(s2.heap.objs.size, lsO [] 0)] := hp
      simpa using this
    subst e
    refine ⟨pushCells_keeps _ _ _ _ (Heap.get?_push_of_some _ (Heap.get?_push_size _ rfl)), I2.hok.fresh (Nat.le_refl _), ?_, fun z => ?_, fun v z => nomatch z⟩
    · show s2.heap.objs.size ≠ s2.heap.objs.size + 1
      omega
    · have z' : s2.heap.objs.size ∈ frs X.stack := z
      rcases List.mem_cons.mp (I2.stkSub _ z') with q | q
      · exact absurd I2.lt (by rw [<- q]; exact Nat.lt_irrefl _)
      · exact I2.nofs (Nat.le_refl _) q
  · rw [List.length_append, List.length_replicate, I2.len]
    exact S.len.symm
theorem z0f {us : List Value} {n : Nat} {ys : List V} {H' : Hp} {s' : Shared} {σ' : St} {C : Addr} (I2 : Inv X pins σ H2 s2) (f2 : ∀ b ∈ fp, y6u X pins H2 b)
    (I3 : Inv (x1w X N' scope C s2 H2 fp) [(s2.heap.objs.size, lsO us n)] σ' H' s') (r : x2p ys us) (hz : ys.length <= sizeLine) : Inv X pins σ (upd H' s2.heap.objs.size (.lst ys)) s' := by
  obtain ⟨e, hn, _⟩ := I3.pin (s2.heap.objs.size, lsO us n) (List.mem_append_right _ (List.mem_singleton.mpr rfl))
  have u : Un (frs X.stack) fp H2 H' s2.heap s'.heap := I3.base
  exact I2.call' (ch := fp) I3.os (u.updNew I2.hok (Nat.le_refl _)) (I3.hok.add hn ⟨hz, us, n, r, e⟩) I3.bare fun b hb => ⟨(f2 b hb).2.2.2.1, (f2 b hb).2.1, (f2 b hb).2.2.2.2⟩
end
theorem y50 {X : Cx} {k : Nat} {N' : List Str} {scope : Scope} {pins : List (Addr × Obj)} {σ : St} {H2 : Hp} {s2 : Shared} {fp : List Addr} {elt tg iter : Expr} {ifs : List Expr} {pos : Pos} {it : Addr} {tn : Nat -> Heap -> Prop} {J : It} {g : TG} {tt : TT} {te : TE} {Fin : List V -> Hp -> Prop} {E : Value -> Shared -> Prop} {RR : Value -> Addr -> Result -> Shared -> Prop}
    (hc : X.calm = true) (S : CompOk X k N' scope) (hg : ∀ C s H fp, PG (x1w X N' scope C s H fp) tg g) (ht : ∀ C s H fp, PTs (x1w X N' scope C s H fp) ifs tt) (he : ∀ C s H fp, PE (x1w X N' scope C s H fp) elt te)
    (I2 : Inv X pins σ H2 s2) (T : Turn X.prog X.w X.K tg J fp it tn) (st2 : tn 0 s2.heap) (f2 : ∀ b ∈ fp, y6u X pins H2 b) (R : z5z k g tt te σ J H2 Fin)
    (hRR : ∀ C ys H' s' m', Inv X pins σ (upd H' s2.heap.objs.size (.lst ys)) s' -> s'.heap.Ns C m' -> H' s2.heap.objs.size = none -> upd H' s2.heap.objs.size (.lst ys) C = none -> C ≠ X.env.locals -> X.s₀.heap.objs.size <= C -> s2.heap.objs.size < C ->
      Fin ys H' -> RR (.ref s2.heap.objs.size) C (.ok .next) s') :
    wpAny (model X.prog X.w) X.A (newList []) (fun acc s₃ => wpAny (model X.prog X.w) X.A (newFunctionEnv scope X.env.globals (x26 X.env.cells scope.names []) [] X.env.qual none .none (some X.env)) (fun cenv s₄ =>
      codeAny (model X.prog X.w) X.A (.compStart (.ListComp elt [⟨tg, iter, ifs, 0⟩] scope pos) 0 (.ref it) acc { cenv with scope := relabel scope X.env }) (RR acc cenv.locals) s₄) E s₃) E s2 := by
  refine wpAny_newObj_type (y4o ?_)
  have e1 : (s2.heap.push (lsO [] 0)).objs.size = s2.heap.objs.size + 1 := Heap.size_push ..
  have hfp : ∀ b ∈ fp, b < s2.heap.objs.size := fun b hb => by obtain ⟨o, e, _⟩ := T.obj _ _ st2 b hb; exact Heap.lt_size e
  obtain ⟨W, ⟨m0, w0⟩, turn⟩ := R
  have I3 := z0s S I2 f2 hfp
  have st3 : tn 0 (x7n scope s2) := T.keep _ _ _ st2 fun b hb o e => pushCells_keeps _ _ b o (Heap.get?_push_of_some _ (Heap.get?_push_of_some _ e))
  have hDC : s2.heap.objs.size ≠ s2.heap.objs.size + 1 := by omega
  -- what stays true of the iterator's objects
  have stat : ∀ {H' : Hp} {us : List Value} {n : Nat}, (∀ b ∈ fp, H' b = none) -> ∀ b ∈ fp, y6u (x1w X N' scope (s2.heap.objs.size + 1) s2 H2 fp) [(s2.heap.objs.size, lsO us n)] H' b := fun {H' us n} hn b hb => by
    have q := I3.ok.exf b hb
    refine ⟨hn b hb, q.1, I3.ok.exfs b hb, .inl hb, q.2, fun p hp z => ?_⟩
    have hp' : p ∈ [(s2.heap.objs.size, lsO us n)] := hp
    have e : p = (s2.heap.objs.size, lsO us n) := by simpa using hp'
    subst e
    have := hfp b hb
    have z' : s2.heap.objs.size = b := z
    exact absurd this (by rw [z']; exact Nat.lt_irrefl _)
  have loop : ∀ it', it' = Value.ref it -> codeAny (model X.prog X.w) X.A (.compLoop (.ListComp elt [⟨tg, iter, ifs, 0⟩] scope pos) 0 it' (.ref s2.heap.objs.size) (y7z scope X.env (s2.heap.objs.size + 1))) (RR (.ref s2.heap.objs.size) (s2.heap.objs.size + 1)) { s2 with heap := x7n scope s2 } := by
    rintro _ rfl
    refine y2p (fun n s' => ∃ i ys us cnt H', Inv (x1w X N' scope (s2.heap.objs.size + 1) s2 H2 fp) [(s2.heap.objs.size, lsO us cnt)] (σ ++ List.replicate k none) H' s' /\ tn i s'.heap /\ (∀ b ∈ fp, H' b = none) /\ x2p ys us /\ W i n ys H') ?_ m0
      ⟨0, [], [], 0, H2, I3, st3, fun b hb => (f2 b hb).1, .nil, w0⟩
    rintro n s3 ⟨i, ys, us, cnt, H3, J3, st, fr, r3, w3⟩
    obtain ⟨hz, hw⟩ := turn i n ys H3 w3
    rcases hw with ⟨stop, fin⟩ | ⟨go, hlt, step⟩
    · refine thn (T.done (x1w X N' scope (s2.heap.objs.size + 1) s2 H2 fp) rfl rfl rfl hc i _ s3 _ H3 _ J3 (stat fr) st stop) fun rr s4 ⟨hr, I4⟩ => ?_
      subst hr
      obtain ⟨m', hn', _⟩ := id I4.loc
      obtain ⟨eD, nD, _⟩ := I4.pin (s2.heap.objs.size, lsO us cnt) (List.mem_append_right _ (List.mem_singleton.mpr rfl))
      refine hRR (s2.heap.objs.size + 1) ys H3 s4 m' (z0f I2 f2 I4 r3 hz) hn' nD ?_ ?_ ?_ (Nat.lt_succ_self _) fin
      · rw [x0q (Ne.symm hDC)]; exact I4.free
      · exact Ne.symm (Nat.ne_of_lt (Nat.lt_of_lt_of_le I2.lt (Nat.le_succ _)))
      · have := I2.sz; omega
    · refine thn (T.item (x1w X N' scope (s2.heap.objs.size + 1) s2 H2 fp) rfl rfl rfl hc i _ s3 _ H3 _ J3 (stat fr) st go) fun rr s4 ⟨u, hr, h4⟩ => ?_
      subst hr
      refine thn h4 fun _ s5 hh0 => ?_
      obtain ⟨x, H5, I5, r5, y5, st5, fr5⟩ := hh0
      have I5' := I5.pinned (stat fr5) (T.obj _ _ st5)
      refine thn (hg _ _ _ _ _ s5 _ H5 x u _ I5' r5 (step x H5 y5)) fun _ s6 ⟨σ6, H6, I6, ⟨τ, e6, l6⟩, q6⟩ => ?_
      subst e6
      refine thn (ht _ _ _ _ _ s6 _ H6 _ I6 q6) fun ok s7 hh0 => ?_
      obtain ⟨H7, I7, q7⟩ := hh0
      have kept : ∀ {s' : Shared} {H' : Hp} {σ' : St}, Inv (x1w X N' scope (s2.heap.objs.size + 1) s2 H2 fp) ([(s2.heap.objs.size, lsO us cnt)] ++ x8o fp s5.heap) σ' H' s' -> tn (i + 1) s'.heap /\ ∀ b ∈ fp, H' b = none := fun {s' H' σ'} I' => by
        refine ⟨T.keep _ _ _ st5 fun b hb o e => (I'.pin (b, o) (List.mem_append_right _ (List.mem_append_right _ (x5x hb e)))).1, fun b hb => ?_⟩
        obtain ⟨o, e, d⟩ := T.obj _ _ st5 b hb
        exact (I'.pin (b, o) (List.mem_append_right _ (List.mem_append_right _ (x5x hb e)))).2.1
      cases ok with
      | false =>
        rw [if_neg (by decide)] at q7 ⊢
        obtain ⟨m', hm, w7⟩ := q7
        have := z5u I7.unpinned
        rw [l6] at this
        exact ⟨m', hm, i + 1, ys, us, cnt, H7, this, (kept I7).1, (kept I7).2, r3, w7⟩
      | true =>
        rw [if_pos rfl] at q7 ⊢
        refine thn (he _ _ _ _ _ s7 _ H7 _ I7 q7) fun u8 s8 hh0 => ?_
        obtain ⟨v, H8, I8, r8, m', hm, w8⟩ := hh0
        obtain ⟨eD, nD, neD, nfD, dD⟩ := I8.pin (s2.heap.objs.size, lsO us cnt) (List.mem_append_right _ (List.mem_append_left _ (List.mem_singleton.mpr rfl)))
        refine append_at eD (fun h9 hs9 hD9 => ?_) (hsz := by rw [List.size_toArray, <- r3.length]; exact Nat.le_of_lt hlt)
        have Ia := I8.pins_of (pins' := x8o fp s5.heap) fun p hp => I8.pin p (List.mem_append_right _ (List.mem_append_right _ hp))
        have nfp : ∀ p ∈ x8o fp s5.heap, p.1 ≠ s2.heap.objs.size := fun p hp z => by
          have := hfp p.1 (y3c hp).1
          exact absurd this (by rw [z]; exact Nat.lt_irrefl _)
        have Ib := Ia.turned (h' := h9) (t' := s8.toks) (it := s2.heap.objs.size) (fun b o hb e => hs9.extBut b o hb e) nD neD (.inr (Nat.le_refl _)) (fun y c h z => by
            obtain ⟨vv, o, ho, hd⟩ := I8.cell y c h
            rw [z, eD] at ho
            cases ho
            cases hd) (fun p hp => nfp p (by
            have hp' : p ∈ [] ++ x8o fp s5.heap := hp
            simpa using hp'))
        have Ic := Ib.pins_of (pins' := [(s2.heap.objs.size, lsO (us ++ [u8]) (cnt + 1))]) fun p hp => by
          have e : p = (s2.heap.objs.size, lsO (us ++ [u8]) (cnt + 1)) := by simpa using hp
          subst e
          refine ⟨?_, nD, neD, nfD, fun v z => nomatch z⟩
          show h9.get? s2.heap.objs.size = _
          rw [hD9]
          unfold lsO
          simp
        have Id := z5u Ic
        rw [l6] at Id
        have kp := kept I8
        refine ⟨m', hm, i + 1, ys ++ [v], us ++ [u8], cnt + 1, H8, Id, T.keep _ _ _ kp.1 fun b hb o e => hs9.extBut b o (fun z => by
          have := hfp b hb
          have z' : b = s2.heap.objs.size := z
          exact absurd this (by rw [z']; exact Nat.lt_irrefl _)) e, kp.2, x2p.append r3 (.cons r8 .nil), w8⟩
  have hC : (s2.heap.push { cls := .type "list", dict := none, data := .seq ([] : List Value).toArray }).objs.size = s2.heap.objs.size + 1 := Heap.size_push ..
  have fin := codeAny_compStart_list (loop _ rfl) (T.self X.A 0 _ _ _ st3 (loop _ rfl))
  dsimp only at fin ⊢
  rw [hC]
  exact fin
theorem CompOk.locs {X : Cx} {k : Nat} {N' : List Str} {scope : Scope} (S : CompOk X k N' scope) : ∀ y ∈ scope.names, y.2 = .local -> scope.names.lookup y.1 = some .local := fun y hy e => by
  obtain ⟨n, kd⟩ := y
  have e' : kd = .local := e
  subst e'
  exact y3d S.names hy
theorem x84 {h : Heap} {C c : Addr} {m : Str -> Option Value} {v : Option Value} (hn : h.Ns C m) (hc : h.IsCell c v) : c ≠ C := fun z => by
  obtain ⟨o, es, ep, ho, hd, _⟩ := hn
  obtain ⟨o', ho', hd'⟩ := hc
  rw [z, ho] at ho'
  cases ho'
  rw [hd] at hd'
  cases hd'
section
variable {X : Cx} {k : Nat} {N' : List Str} {scope : Scope} {elt tg iter : Expr} {ifs : List Expr} {pos : Pos} {wi : TI} {g : TG} {tt : TT} {te : TE}
theorem z2c (hc : X.calm = true) (S : CompOk X k N' scope) (hi : PI X tg iter wi) (hg : ∀ C s H fp, PG (x1w X N' scope C s H fp) tg g) (ht : ∀ C s H fp, PTs (x1w X N' scope C s H fp) ifs tt) (he : ∀ C s H fp, PE (x1w X N' scope C s H fp) elt te)
    (hs : ∀ x, foldedSetIterable iter X.env x = pure x := by intro _; rfl) : PE X (.ListComp elt [⟨tg, iter, ifs, 0⟩] scope pos) (z19 k wi g tt te) := by
  intro pins s σ H Q I h
  rw [eval_ListComp]
  refine wpAny_comprehension_free (use := none) rfl hs (x79 fun y hy e => ?_) S.kind S.locs (thn (hi pins s σ H _ I h) fun v s1 h1 => thn h1 fun itv s2 h2 => ?_)
  · obtain ⟨n, kd⟩ := y
    have e' : kd = .free := e
    subst e'
    exact I.ok.has n (S.free hy)
  · obtain ⟨it, fp, tn, J, H2, e, I2, T, st2, f2, R⟩ := h2
    subst e
    refine y50 hc S hg ht he I2 T st2 f2 R ?_
    intro C ys H' s' m' I' hn hD hCn hCL hCs hCD fin
    refine ⟨m', hn, fun h' hs' => ⟨.ref s2.heap.objs.size, _, I'.turned (h' := h') (t' := s'.toks) (it := C) (fun b o hb e => hs'.extBut b o hb e) hCn hCL (.inr hCs) (fun x c h => ?_) (fun p hp z => ?_), rfl, fin _ hD⟩⟩
    · obtain ⟨v, q⟩ := I'.cell x c h
      exact x84 hn q
    · have := Heap.lt_size (I2.pin p hp).1
      exact absurd (Nat.lt_trans this hCD) (by rw [z]; exact Nat.lt_irrefl _)
theorem z47 {i : Nat} {y : Str} {py spos : Pos} (hN : X.N.Nodup) (hy : X.N[i]? = some y) (hx : Loc X.env.scope y) (hsw : swapsWith (.ListComp elt [⟨tg, iter, ifs, 0⟩] scope pos) (some (.Name y py)) spos.line X.env = pure true)
    (hc : X.calm = true) (S : CompOk X k N' scope) (hi : PI X tg iter wi) (hg : ∀ C s H fp, PG (x1w X N' scope C s H fp) tg g) (ht : ∀ C s H fp, PTs (x1w X N' scope C s H fp) ifs tt) (he : ∀ C s H fp, PE (x1w X N' scope C s H fp) elt te)
    (hs : ∀ x, foldedSetIterable iter X.env x = pure x := by intro _; rfl) (hf : X.fn y = true \/ X.env.scope.names.lookup y = some .local := by first | exact .inl rfl | exact .inr rfl | assumption) :
    PS X (.Assign [.Name y py] (.ListComp elt [⟨tg, iter, ifs, 0⟩] scope pos) spos) (j0b (z19 k wi g tt te) (z3o i)) := by
  intro pins s σ H D I h
  rw [exec_Assign_Name_used _ _ _ _ hsw]
  refine wpAny_bind (wpAny_standAt (wpAny_bind ?_))
  show wpAny _ X.A (do let _ <- comprehension (.ListComp elt [⟨tg, iter, ifs, 0⟩] scope pos) scope X.env _ (newList []) false (eval iter X.env) (some (assign (.Name y py) X.env))) _ _ s
  refine wpAny_bind (wpAny_mono (wpAny_comprehension_free (use := some (assign (.Name y py) X.env)) (Q := fun _ s' => SP X pins D .next s') rfl hs (x79 fun z hz e => ?_) S.kind S.locs
    (thn (hi pins s σ H _ I h) fun v s1 h1 => thn h1 fun itv s2 h2 => ?_)) (fun _ s' hq => wpAny_pure (wpAny_pure hq)) fun _ _ e => e)
  · obtain ⟨n, kd⟩ := z
    have e' : kd = .free := e
    subst e'
    exact I.ok.has n (S.free hz)
  · obtain ⟨it, fp, tn, J, H2, e, I2, T, st2, f2, R⟩ := h2
    subst e
    refine y50 hc S hg ht he I2 T st2 f2 R ?_
    intro C ys H' s' m' I' hn hD hCn hCL hCs hCD fin
    show wpAny _ X.A (assign (.Name y py) X.env (.ref s2.heap.objs.size)) _ _ _
    refine wpAny_assign_Name (y2e I' hN hy hx (v := .ref s2.heap.objs.size) rfl (fun s'' I'' ⟨a, sb, ha⟩ => ?_) hf)
    have hCa : C ≠ a := fun z => by
      rcases ha with q | q
      · exact hCL (z.trans q)
      · obtain ⟨v, w⟩ := I'.cell y a q
        exact x84 hn w z.symm
    have hn2 := hn.sameBut sb hCa
    refine ⟨m', hn2, fun h' hs' => ⟨_, _, I''.turned (h' := h') (t' := s''.toks) (it := C) (fun b o hb e => hs'.extBut b o hb e) hCn hCL (.inr hCs) (fun x c h => ?_) (fun p hp z => ?_), fin _ hD⟩⟩
    · obtain ⟨v, q⟩ := I''.cell x c h
      exact x84 hn2 q
    · have := Heap.lt_size (I2.pin p hp).1
      exact absurd (Nat.lt_trans this hCD) (by rw [z]; exact Nat.lt_irrefl _)
end
end L2
namespace L3
open PySem PySem.Spec PyProof.Rows PySem.W L2
section
variable {prog : Program} {w : World} {A : Around} {E : Value -> Shared -> Prop} {s : Shared} {K : Frag} {x C : Addr} {ox : Obj}
structure XAt (h : Heap) (x : Addr) (ox : Obj) (C : Addr) : Prop where
  at_ : h.get? x = some ox
  cls : ox.cls = .ref C
theorem XAt.type {M : Model} {h : Heap} (I : XAt h x ox C) : Looks M h (typeOf (.ref x)) (.ref C) := I.cls ▸ (Looks.ld I.at_).andThen .now
structure XCls (K : Frag) (C : Addr) : Prop where
  ci : (clsIn K C).isSome = true
  ga : findIn K (.ref C) "__getattribute__" = some (some (.builtin "BaseException.__getattribute__"))
  gt : findIn K (.ref C) "__getattr__" = some none
  cl : findIn K (.ref C) "__class__" = some (some (.builtin "object.__class__"))
  cg : specialIn K (.builtin "object.__class__") "__get__" = some (some (.builtin "getset_descriptor.__get__"))
  ct : takesIn K (.builtin "object.__class__") = some true
  mo : mroIn K C (.type "object") = some true
  mb : mroIn K C (.type "BaseException") = some true
theorem z2y {M : Model} {h : Heap} (X : K.In h) (I : XAt h x ox C) (XC : XCls K C) : Looks M h (Builtin.ObjectAttr.find (.ref x) (.ref C) "__class__") (.bind (.builtin "getset_descriptor.__get__") (.builtin "object.__class__")) := by
  have L1 := looks_findIn (M := M) X XC.cl
  have L2 : Looks M h (Builtin.ObjectAttr.getOf (some (.builtin "object.__class__"))) _ := looks_specialIn (M := M) X XC.cg
  have L3 := looks_takesIn (M := M) X XC.ct
  exact L1.andThen (L2.andThen ((show Looks M h (Builtin.ObjectAttr.dataDescriptor? (some (.builtin "object.__class__")) (some (.builtin "getset_descriptor.__get__"))) (some ((.builtin "getset_descriptor.__get__"), (.builtin "object.__class__"))) from L3.andThen .now).andThen (Looks.tag .now)))
theorem y4n {tp : Value} {R : Result -> Shared -> Prop} (X : K.In s.heap) (I : XAt s.heap x ox C) (hm : mroIn K C (.type "object") = some true)
    (h : R (.ok (.ret (.ref C))) s) : codeAny (model prog w) A (.call (.builtin "getset_descriptor.__get__") ⟨[.builtin "object.__class__", .ref x, tp], []⟩) R s := by
  obtain ⟨hh, g, dr, t, os⟩ := s
  have L0 := I.type (M := model prog w)
  have L1 := looks_mroIn (M := model prog w) X hm
  refine codeAny_call_builtin KF.slot_gs.plain KF.entry_gs (KF.slot_gs.check _ _ _ _ _ _ _ _ KF.type_class (KF.args_gs _ _ _) ?_)
  unfold Builtin.«getset_descriptor.__get__» Builtin.Getset_descriptor.descrGet
  rw [dga_obj]
  refine wpAny_bind (wpAny_pure ?_)
  unfold Builtin.Getset_descriptor.descrGetter Builtin.Getset_descriptor.descrCheckInstance Builtin.Getset_descriptor.descrNameAndClass isInstance
  simp only [KF.owner_class]
  repeat lk
  refine ⟨Code.quiet_builtin _ (by decide +kernel), codeAny_builtin KF.entry_class ?_⟩
  unfold Builtin.«object.__class__» shownTypeOf
  repeat lk
  exact h
theorem y92 {M : Model} {nameV : Value} {Q : Unit -> Shared -> Prop} (X : K.In s.heap) (I : XAt s.heap x ox C) (XC : XCls K C) (hq : Q () s) : wpAny M A (checkBuiltinCall "BaseException.__getattribute__" ⟨[.ref x, nameV], []⟩) Q E s := by
  obtain ⟨hh, g, d, t, os⟩ := s
  have L0 := I.type (M := M)
  have L1 := looks_mroIn (M := M) X XC.mb
  have hk : builtinKind "BaseException.__getattribute__" = some .slot := by decide +kernel
  have hsplit : splitId "BaseException.__getattribute__" = some ("BaseException", "__getattribute__") := by decide +kernel
  have ha := PySem.F.args_bexc_ga (.ref x) nameV
  simp only [checkBuiltinCall, hk, hsplit]
  unfold isInstance
  repeat lk
  exact hq
theorem j01 {tk : Tok} {R : Result -> Shared -> Prop} (X : K.In s.heap) (I : XAt s.heap x ox C) (XC : XCls K C) (h : R (.ok (.ret (.ref C))) s) :
    codeAny (model prog w) A (.call (.builtin "BaseException.__getattribute__") ⟨[.ref x, .str "__class__" tk], []⟩) R s := by
  refine codeAny_call_builtin PySem.F.excAttr_ValueError.ga.plain PySem.F.entry_bexc_ga (y92 X I XC ?_)
  obtain ⟨hh, g, d, t, os⟩ := s
  have L0 := I.type (M := model prog w)
  have L1 := z2y (M := model prog w) X I XC
  show wpAny _ _ (Builtin.«object.__getattribute__» ⟨[.ref x, .str "__class__" tk], []⟩) _ _ _
  refine wpAny_bind (wpAny_pure ?_)
  refine wpAny_bind (wpAny_pure ?_)
  refine wpAny_bind (L0.at (wpAny_bind (L1.at ?_)))
  show wpAny _ _ (holding [.builtin "object.__class__"] (call (.builtin "getset_descriptor.__get__") [.builtin "object.__class__", .ref x, .ref C]) >>= ret) _ _ _
  exact wpAny_bind (wpAny_holding (wpAny_call (y4n X I XC.mo (wpAny_pure h))))
theorem z1f {Q : Option Value -> Shared -> Prop} (X : K.In s.heap) (I : XAt s.heap x ox C) (XC : XCls K C) (h : Q (some (.ref C)) { s with toks := s.toks + 1 }) : wpAny (model prog w) A (getAttr? (.ref x) "__class__") Q E s := by
  obtain ⟨hh, g, d, t, os⟩ := s
  have L0 := I.type (M := model prog w)
  have L1 := looks_findIn (M := model prog w) X XC.ga
  have L2 := looks_findIn (M := model prog w) X XC.gt
  have f3 := PySem.F.excAttr_ValueError.ga.bind (.ref x)
  unfold getAttr? getAttrBy? getAttrBy
  refine wpAny_bind (wpAny_mkText (wpAny_bind (wpAny_attempt (wpAny_holding (wpAny_bind (L0.at (wpAny_bind (L1.at ?_))))))))
  show wpAny _ _ (getAttrByItsOwn _ _ _ _ _ _) _ _ _
  unfold getAttrByItsOwn
  refine wpAny_bind (L2.at ?_)
  refine wpAny_bind (wpAny_attempt (wpAny_holding ?_))
  show wpAny _ _ (boundAndCalled _ _ _) _ _ _
  unfold boundAndCalled
  rw [f3]
  refine wpAny_bind (wpAny_pure ?_)
  show wpAny _ _ (call (.builtin "BaseException.__getattribute__") [.ref x, .str "__class__" t]) _ _ _
  refine wpAny_call (j01 (s := ⟨hh, g, d, t + 1, os⟩) X I XC ?_)
  exact handed_on rfl (wpAny_pure h)
theorem y2j {M : Model} {h : Heap} {D : Addr} (X : K.In h) (e : (clsIn K D).isSome = true) : Looks M h (isType (.ref D)) true := by
  unfold clsIn at e
  split at e
  · rename_i c' d' cd' sl' ho
    intro A' Q' E' s' k q
    unfold isType loadHead
    exact wpAny_bind (wpAny_loadPart (k _ _ (X _ _ ho)) (wpAny_pure q))
  · cases e
theorem y7e {c : Value} {dep : Int} {tk : Tok} {Q : Fin -> Shared -> Prop} (X : K.In s.heap) (I : XAt s.heap x ox C) (XC : XCls K C) (hty : Looks (model prog w) s.heap (typeOf c) (.type "type")) (his : Looks (model prog w) s.heap (isType c) true)
    (hne : (Value.ref C == c) = false) (hsub : Looks (model prog w) s.heap (isSubtype (.ref C) c) false) (h : Q (.done (.ret (.bool false))) { s with toks := s.toks + 1 }) :
    wpAny (model prog w) A (Builtin.«isinstance.nested» ⟨[.ref x, c, .int dep tk], []⟩) Q E s := by
  have hisD := y2j (M := model prog w) X XC.ci
  obtain ⟨h0, g, d, tt, os⟩ := s
  have L0 := I.type (M := model prog w)
  have LI : Looks (model prog w) h0 (isInstance (.ref x) c) false := L0.andThen hsub
  unfold Builtin.«isinstance.nested»
  refine wpAny_bind (L0.at ?_)
  rw [if_neg (fun q => by rw [hne] at q; exact Bool.noConfusion q)]
  refine wpAny_bind (hty.at ?_)
  rw [if_pos (by decide)]
  k_delta "plainIsInstance"
  refine wpAny_bind (wpAny_bind (his.at ?_))
  simp only [Bool.not_true, Bool.false_eq_true, if_false]
  refine wpAny_bind (LI.at ?_)
  simp only [Bool.false_eq_true, if_false]
  refine wpAny_bind (z1f X I XC ?_)
  refine wpAny_bind (hisD.at ?_)
  simp only [Bool.not_true, Bool.false_eq_true, if_false]
  refine wpAny_bind (wpAny_rule ?_)
  refine hsub.at ?_
  first
    | exact wpAny_pure h
    | exact wpAny_pure (wpAny_pure h)
    | exact wpAny_bind (wpAny_pure (wpAny_pure h))
theorem z8k {T : String} {Q : Value -> Shared -> Prop} (X : K.In s.heap) (I : XAt s.heap x ox C) (XC : XCls K C) (hty : typeOf (.type T) = pure (.type "type")) (e : subIn K (.ref C) (.type T) = some false) (h : Q (.bool false) { s with toks := s.toks + 1 }) : wpAny (model prog w) A (call (.builtin "isinstance") [.ref x, .type T]) Q E s :=
  call_isinstance (S := fun _ R s => (K.In s.heap /\ XAt s.heap x ox C) /\ R (.ok (.ret (.bool false))) { s with toks := s.toks + 1 })
    (fun _ _ _ _ _ hs => isinstance_outer (y7e hs.1.1 hs.1.2 XC (Looks.of_pure hty) (Looks.of_pure rfl) (Bool.eq_false_iff.mpr fun q => by cases beq_iff_eq.mp q) (looks_subIn hs.1.1 e) hs.2) (by intro q; cases q)) ⟨⟨X, I⟩, h⟩
end
def bmV : List Value := [.type "ValueError", .type "Exception", .type "BaseException", .type "object"]
structure XKls (K : Frag) (nm : Str) (C : Addr) : Prop where
  ns : nsIn K mainGlobals nm = some (some (.ref C))
  xc : XCls K C
  ex : excIn K C bmV "ValueError.__new__" = true
  ve : subIn K (.ref C) (.type "ValueError") = some true
  no : ∀ T ∈ ["int", "bool", "tuple", "list", "str"], subIn K (.ref C) (.type T) = some false
noncomputable def XO (K : Frag) (nm : Str) (ob : Obj) : Prop := ∃ C, ob.cls = .ref C /\ XKls K nm C
end L3
namespace L3
open PySem PySem.Spec PyProof.Rows L2
inductive D where
  | non | bl (b : Bool) | int (i : Int) | str (x : Str) | tup (ds : List D) | lst (ds : List D)
  /-- a dict that is not changed, its keys texts -/
  | dic (ks : List Str) (ds : List D)
  /-- an exception, by its class's name -/
  | exc (nm : Str)
noncomputable abbrev St := L2.St
inductive Ow where
  | s (i : Nat) | t (i : Nat) | f
  deriving DecidableEq
noncomputable abbrev Wn := Addr -> Option Ow
noncomputable def KL (K : PySem.W.Frag) (a : Addr) (xs : List V) : Prop :=
  ∃ (o : Obj) (its : Array Value) (n : Nat), K.lookup a = some o /\ o.cls = .type "list" /\ o.dict = none /\ o.data = .seq its n /\ its.size <= sizeLine /\ x2p xs its.toList
theorem SqL.cases {K : PySem.W.Frag} {H : Hp} {a : Addr} {xs : List V} (h : SqL K H a xs) : Rd H a (.lst xs) \/ KL K a xs := h
theorem KL.sq {K : PySem.W.Frag} {H : Hp} {a : Addr} {xs : List V} (h : KL K a xs) : SqL K H a xs := .inr h
noncomputable def kvL (ks : List Str) (vs : List V) : List (Key × V) := (ks.map fun x => (Sum.inr x : Key)).zip vs
mutual
/-- q: how deep the lists are owned -/
inductive Rep (K : PySem.W.Frag) (H : Hp) (w : Wn) (o : Ow) : Nat -> D -> V -> List Addr -> Prop
  | non {q} : Rep K H w o q .non .non []
  | bl {q} (b : Bool) : Rep K H w o q (.bl b) (.bl b) []
  | int {q} (i : Int) : Rep K H w o q (.int i) (.int i) []
  | str {q} (x : Str) : Rep K H w o q (.str x) (.str x) []
  | tup {q} {a : Addr} {vs : List V} {ds : List D} : H a = some (.tup vs) -> Reps K H w o 0 ds vs [] -> Rep K H w o q (.tup ds) (.ref a) []
  | dic {q} {a : Addr} {ks : List Str} {vs : List V} {ds : List D} : H a = some (.dK (kvL ks vs)) -> Reps K H w o 0 ds vs [] -> Rep K H w o q (.dic ks ds) (.ref a) []
  | exc {q} {a : Addr} {nm : Str} {ob : Obj} {u : HO} : H a = some (.frz ob u) -> XO K nm ob -> (∀ xs, u ≠ .lst xs) -> Rep K H w o q (.exc nm) (.ref a) []
  | kl {a : Addr} {vs : List V} {ds : List D} : KL K a vs -> Reps K H w o 0 ds vs [] -> Rep K H w o 0 (.lst ds) (.ref a) []
  | shr {a : Addr} {vs : List V} {ds : List D} : Rd H a (.lst vs) -> w a = none -> Reps K H w o 0 ds vs [] -> Rep K H w o 0 (.lst ds) (.ref a) []
  | own {q} {a : Addr} {vs : List V} {ds : List D} {F : List Addr} : H a = some (.lst vs) -> w a = some o -> Reps K H w o q ds vs F -> a ∉ F -> Rep K H w o (q + 1) (.lst ds) (.ref a) (a :: F)
inductive Reps (K : PySem.W.Frag) (H : Hp) (w : Wn) (o : Ow) : Nat -> List D -> List V -> List Addr -> Prop
  | nil {q} : Reps K H w o q [] [] []
  | cons {q} {d : D} {v : V} {ds : List D} {vs : List V} {F G : List Addr} : Rep K H w o q d v F -> Reps K H w o q ds vs G -> (∀ a ∈ F, a ∉ G) -> Reps K H w o q (d :: ds) (v :: vs) (F ++ G)
end
noncomputable def WL (w : Wn) (H : Hp) : Prop := ∀ a o, w a = some o -> ∃ vs, H a = some (.lst vs)
noncomputable def x8k (H : Hp) (w : Wn) (H' : Hp) (w' : Wn) : Prop := ∀ a x, H a = some x -> w a = none -> H' a = some x /\ w' a = none
theorem WL.rdT {w : Wn} {H : Hp} (wl : WL w H) {a : Addr} {x : HO} (e : H a = some x) (h : ∀ vs, x ≠ .lst vs) : w a = none := by
  cases q : w a with
  | none => rfl
  | some o =>
    obtain ⟨vs, e'⟩ := wl a o q
    rw [e] at e'
    exact absurd (Option.some.inj e') (h vs)
theorem SqT.go {K : PySem.W.Frag} {H H' : Hp} {w w' : Wn} (wl : WL w H) (st : x8k H w H' w') {a : Addr} {vs : List V} (h : SqT K H a vs) : SqT K H' a vs := by
  rcases h with (h | ⟨o, h⟩) | h
  · exact .inl (.inl (st a _ h (wl.rdT h (fun _ z => nomatch z))).1)
  · exact .inl (.inr ⟨o, (st a _ h (wl.rdT h (fun _ z => nomatch z))).1⟩)
  · exact .inr h
theorem RdL.go {H H' : Hp} {w w' : Wn} (st : x8k H w H' w') {a : Addr} {vs : List V} (n : w a = none) (h : Rd H a (.lst vs)) : Rd H' a (.lst vs) /\ w' a = none := by
  rcases h with h | ⟨o, h⟩
  · exact ⟨.inl (st a _ h n).1, (st a _ h n).2⟩
  · exact ⟨.inr ⟨o, (st a _ h n).1⟩, (st a _ h n).2⟩
theorem Rep.go {K : PySem.W.Frag} {H H' : Hp} {w w' : Wn} {o o' : Ow} (wl : WL w H) (st : x8k H w H' w') : ∀ {q : Nat} {d : D} {v : V} {F : List Addr}, Rep K H w o q d v F -> (∀ a ∈ F, H' a = H a /\ w' a = some o') -> Rep K H' w' o' q d v F := by
  intro q d v F r
  refine Rep.rec (motive_1 := fun q d v F _ => (∀ a ∈ F, H' a = H a /\ w' a = some o') -> Rep K H' w' o' q d v F) (motive_2 := fun q ds vs F _ => (∀ a ∈ F, H' a = H a /\ w' a = some o') -> Reps K H' w' o' q ds vs F) ?_ ?_ ?_ ?_ ?_ ?_ ?_ ?_ ?_ ?_ ?_ ?_ r
  · intro q _; exact .non
  · intro q b _; exact .bl b
  · intro q i _; exact .int i
  · intro q x _; exact .str x
  · intro q a vs ds h r ih _; exact .tup (st _ _ h (wl.rdT h (fun _ z => by cases z))).1 (ih (fun _ z => (List.not_mem_nil z).elim))
  · intro q a ks vs ds h r ih _; exact .dic (st _ _ h (wl.rdT h (fun _ z => by cases z))).1 (ih (fun _ z => (List.not_mem_nil z).elim))
  · intro q a nm ob u h x n _; exact .exc (st _ _ h (wl.rdT h (fun _ z => by cases z))).1 x n
  · intro a vs ds h r ih _; exact .kl h (ih (fun _ z => (List.not_mem_nil z).elim))
  · intro a vs ds h n r ih _; exact .shr (RdL.go st n h).1 (RdL.go st n h).2 (ih (fun _ z => (List.not_mem_nil z).elim))
  · intro q a vs ds F h e r ne ih k; exact .own ((k _ List.mem_cons_self).1.trans h) (k _ List.mem_cons_self).2 (ih fun a m => k a (List.mem_cons_of_mem _ m)) ne
  · intro q _; exact .nil
  · intro q d v ds vs F G r s ne ih1 ih2 k; exact .cons (ih1 fun a m => k a (List.mem_append_left _ m)) (ih2 fun a m => k a (List.mem_append_right _ m)) ne
theorem Reps.go {K : PySem.W.Frag} {H H' : Hp} {w w' : Wn} {o o' : Ow} (wl : WL w H) (st : x8k H w H' w') : ∀ {q : Nat} {ds : List D} {vs : List V} {F : List Addr}, Reps K H w o q ds vs F -> (∀ a ∈ F, H' a = H a /\ w' a = some o') -> Reps K H' w' o' q ds vs F := by
  intro q ds vs F r
  refine Reps.rec (motive_1 := fun q d v F _ => (∀ a ∈ F, H' a = H a /\ w' a = some o') -> Rep K H' w' o' q d v F) (motive_2 := fun q ds vs F _ => (∀ a ∈ F, H' a = H a /\ w' a = some o') -> Reps K H' w' o' q ds vs F) ?_ ?_ ?_ ?_ ?_ ?_ ?_ ?_ ?_ ?_ ?_ ?_ r
  · intro q _; exact .non
  · intro q b _; exact .bl b
  · intro q i _; exact .int i
  · intro q x _; exact .str x
  · intro q a vs ds h r ih _; exact .tup (st _ _ h (wl.rdT h (fun _ z => by cases z))).1 (ih (fun _ z => (List.not_mem_nil z).elim))
  · intro q a ks vs ds h r ih _; exact .dic (st _ _ h (wl.rdT h (fun _ z => by cases z))).1 (ih (fun _ z => (List.not_mem_nil z).elim))
  · intro q a nm ob u h x n _; exact .exc (st _ _ h (wl.rdT h (fun _ z => by cases z))).1 x n
  · intro a vs ds h r ih _; exact .kl h (ih (fun _ z => (List.not_mem_nil z).elim))
  · intro a vs ds h n r ih _; exact .shr (RdL.go st n h).1 (RdL.go st n h).2 (ih (fun _ z => (List.not_mem_nil z).elim))
  · intro q a vs ds F h e r ne ih k; exact .own ((k _ List.mem_cons_self).1.trans h) (k _ List.mem_cons_self).2 (ih fun a m => k a (List.mem_cons_of_mem _ m)) ne
  · intro q _; exact .nil
  · intro q d v ds vs F G r s ne ih1 ih2 k; exact .cons (ih1 fun a m => k a (List.mem_append_left _ m)) (ih2 fun a m => k a (List.mem_append_right _ m)) ne
theorem Rep.freeze {K : PySem.W.Frag} {H : Hp} {w w' : Wn} {o o' : Ow} (n : ∀ a, w a = none -> w' a = none) : ∀ {q : Nat} {d : D} {v : V} {F : List Addr}, Rep K H w o q d v F -> (∀ a ∈ F, w' a = none) -> Rep K H w' o' 0 d v [] := by
  intro q d v F r
  refine Rep.rec (motive_1 := fun q d v F _ => (∀ a ∈ F, w' a = none) -> Rep K H w' o' 0 d v []) (motive_2 := fun q ds vs F _ => (∀ a ∈ F, w' a = none) -> Reps K H w' o' 0 ds vs []) ?_ ?_ ?_ ?_ ?_ ?_ ?_ ?_ ?_ ?_ ?_ ?_ r
  · intro q _; exact .non
  · intro q b _; exact .bl b
  · intro q i _; exact .int i
  · intro q x _; exact .str x
  · intro q a vs ds h r ih _; exact .tup h (ih (fun _ z => (List.not_mem_nil z).elim))
  · intro q a ks vs ds h r ih _; exact .dic h (ih (fun _ z => (List.not_mem_nil z).elim))
  · intro q a nm ob u h x n _; exact .exc h x n
  · intro a vs ds h r ih _; exact .kl h (ih (fun _ z => (List.not_mem_nil z).elim))
  · intro a vs ds h e r ih _; exact .shr h (n _ e) (ih (fun _ z => (List.not_mem_nil z).elim))
  · intro q a vs ds F h e r ne ih k; exact .shr (Rd.of h) (k _ List.mem_cons_self) (ih fun a m => k a (List.mem_cons_of_mem _ m))
  · intro q _; exact .nil
  · intro q d v ds vs F G r s ne ih1 ih2 k; exact .cons (F := []) (G := []) (ih1 fun a m => k a (List.mem_append_left _ m)) (ih2 fun a m => k a (List.mem_append_right _ m)) (fun _ z => (List.not_mem_nil z).elim)
theorem Reps.freeze {K : PySem.W.Frag} {H : Hp} {w w' : Wn} {o o' : Ow} (n : ∀ a, w a = none -> w' a = none) : ∀ {q : Nat} {ds : List D} {vs : List V} {F : List Addr}, Reps K H w o q ds vs F -> (∀ a ∈ F, w' a = none) -> Reps K H w' o' 0 ds vs [] := by
  intro q ds vs F r
  refine Reps.rec (motive_1 := fun q d v F _ => (∀ a ∈ F, w' a = none) -> Rep K H w' o' 0 d v []) (motive_2 := fun q ds vs F _ => (∀ a ∈ F, w' a = none) -> Reps K H w' o' 0 ds vs []) ?_ ?_ ?_ ?_ ?_ ?_ ?_ ?_ ?_ ?_ ?_ ?_ r
  · intro q _; exact .non
  · intro q b _; exact .bl b
  · intro q i _; exact .int i
  · intro q x _; exact .str x
  · intro q a vs ds h r ih _; exact .tup h (ih (fun _ z => (List.not_mem_nil z).elim))
  · intro q a ks vs ds h r ih _; exact .dic h (ih (fun _ z => (List.not_mem_nil z).elim))
  · intro q a nm ob u h x n _; exact .exc h x n
  · intro a vs ds h r ih _; exact .kl h (ih (fun _ z => (List.not_mem_nil z).elim))
  · intro a vs ds h e r ih _; exact .shr h (n _ e) (ih (fun _ z => (List.not_mem_nil z).elim))
  · intro q a vs ds F h e r ne ih k; exact .shr (Rd.of h) (k _ List.mem_cons_self) (ih fun a m => k a (List.mem_cons_of_mem _ m))
  · intro q _; exact .nil
  · intro q d v ds vs F G r s ne ih1 ih2 k; exact .cons (F := []) (G := []) (ih1 fun a m => k a (List.mem_append_left _ m)) (ih2 fun a m => k a (List.mem_append_right _ m)) (fun _ z => (List.not_mem_nil z).elim)
theorem Rep.owns {K : PySem.W.Frag} {H : Hp} {w : Wn} {o : Ow} : ∀ {q : Nat} {d : D} {v : V} {F : List Addr}, Rep K H w o q d v F -> ∀ a ∈ F, w a = some o := by
  intro q d v F r
  refine Rep.rec (motive_1 := fun q d v F _ => ∀ a ∈ F, w a = some o) (motive_2 := fun q ds vs F _ => ∀ a ∈ F, w a = some o) ?_ ?_ ?_ ?_ ?_ ?_ ?_ ?_ ?_ ?_ ?_ ?_ r
  · intro q a m; exact (List.not_mem_nil m).elim
  · intro q b a m; exact (List.not_mem_nil m).elim
  · intro q i a m; exact (List.not_mem_nil m).elim
  · intro q x a m; exact (List.not_mem_nil m).elim
  · intro q a vs ds h r ih b m; exact (List.not_mem_nil m).elim
  · intro q a ks vs ds h r ih b m; exact (List.not_mem_nil m).elim
  · intro q a nm ob u h x n b m; exact (List.not_mem_nil m).elim
  · intro a vs ds h r ih b m; exact (List.not_mem_nil m).elim
  · intro a vs ds h e r ih b m; exact (List.not_mem_nil m).elim
  · intro q a vs ds F h e r ne ih b m
    rcases List.mem_cons.mp m with z | z
    · rw [z]; exact e
    · exact ih b z
  · intro q a m; exact (List.not_mem_nil m).elim
  · intro q d v ds vs F G r s ne ih1 ih2 a m
    rcases List.mem_append.mp m with z | z
    · exact ih1 a z
    · exact ih2 a z
theorem Reps.owns {K : PySem.W.Frag} {H : Hp} {w : Wn} {o : Ow} : ∀ {q : Nat} {ds : List D} {vs : List V} {F : List Addr}, Reps K H w o q ds vs F -> ∀ a ∈ F, w a = some o := by
  intro q ds vs F r
  refine Reps.rec (motive_1 := fun q d v F _ => ∀ a ∈ F, w a = some o) (motive_2 := fun q ds vs F _ => ∀ a ∈ F, w a = some o) ?_ ?_ ?_ ?_ ?_ ?_ ?_ ?_ ?_ ?_ ?_ ?_ r
  · intro q a m; exact (List.not_mem_nil m).elim
  · intro q b a m; exact (List.not_mem_nil m).elim
  · intro q i a m; exact (List.not_mem_nil m).elim
  · intro q x a m; exact (List.not_mem_nil m).elim
  · intro q a vs ds h r ih b m; exact (List.not_mem_nil m).elim
  · intro q a ks vs ds h r ih b m; exact (List.not_mem_nil m).elim
  · intro q a nm ob u h x n b m; exact (List.not_mem_nil m).elim
  · intro a vs ds h r ih b m; exact (List.not_mem_nil m).elim
  · intro a vs ds h e r ih b m; exact (List.not_mem_nil m).elim
  · intro q a vs ds F h e r ne ih b m
    rcases List.mem_cons.mp m with z | z
    · rw [z]; exact e
    · exact ih b z
  · intro q a m; exact (List.not_mem_nil m).elim
  · intro q d v ds vs F G r s ne ih1 ih2 a m
    rcases List.mem_append.mp m with z | z
    · exact ih1 a z
    · exact ih2 a z
noncomputable def D.isL : D -> Bool
  | .lst _ => true
  | _ => false
@[simp] theorem D.isL_non : D.isL .non = false := rfl
@[simp] theorem D.isL_bl (b : Bool) : D.isL (.bl b) = false := rfl
@[simp] theorem D.isL_int (i : Int) : D.isL (.int i) = false := rfl
@[simp] theorem D.isL_str (x : Str) : D.isL (.str x) = false := rfl
@[simp] theorem D.isL_tup (ds : List D) : D.isL (.tup ds) = false := rfl
@[simp] theorem D.isL_dic (ks : List Str) (ds : List D) : D.isL (.dic ks ds) = false := rfl
@[simp] theorem D.isL_exc (nm : Str) : D.isL (.exc nm) = false := rfl
@[simp] theorem D.isL_lst (ds : List D) : D.isL (.lst ds) = true := rfl
theorem Rep.nolist {K : PySem.W.Frag} {H : Hp} {w : Wn} {o : Ow} {q : Nat} {d : D} {v : V} {F : List Addr} (r : Rep K H w o q d v F) (h : d.isL = false) : F = [] /\ ∀ q', Rep K H w o q' d v [] := by
  cases r with
  | non => exact ⟨rfl, fun _ => .non⟩
  | bl b => exact ⟨rfl, fun _ => .bl b⟩
  | int i => exact ⟨rfl, fun _ => .int i⟩
  | str x => exact ⟨rfl, fun _ => .str x⟩
  | tup h' r' => exact ⟨rfl, fun _ => .tup h' r'⟩
  | dic h' r' => exact ⟨rfl, fun _ => .dic h' r'⟩
  | exc h' x n => exact ⟨rfl, fun _ => .exc h' x n⟩
  | kl => cases h
  | shr => cases h
  | own => cases h
theorem Rep.zero {K : PySem.W.Frag} {H : Hp} {w : Wn} {o : Ow} {d : D} {v : V} {F : List Addr} (r : Rep K H w o 0 d v F) : F = [] := by
  cases r <;> rfl
theorem Reps.zero {K : PySem.W.Frag} {H : Hp} {w : Wn} {o : Ow} : ∀ {ds : List D} {vs : List V} {F : List Addr}, Reps K H w o 0 ds vs F -> F = []
  | _, _, _, .nil => rfl
  | _, _, _, .cons r s _ => by rw [r.zero, s.zero]; rfl
theorem Reps.length {K : PySem.W.Frag} {H : Hp} {w : Wn} {o : Ow} {q : Nat} : ∀ {ds : List D} {vs : List V} {F : List Addr}, Reps K H w o q ds vs F -> ds.length = vs.length
  | _, _, _, .nil => rfl
  | _, _, _, .cons _ s _ => by simp [s.length]
theorem Rep.any {K : PySem.W.Frag} {H : Hp} {w : Wn} {o o' : Ow} {q : Nat} {d : D} {v : V} (r : Rep K H w o q d v []) (wl : WL w H) : Rep K H w o' q d v [] :=
  Rep.go wl (fun a x h n => ⟨h, n⟩) r (fun _ z => nomatch z)
theorem Reps.any {K : PySem.W.Frag} {H : Hp} {w : Wn} {o o' : Ow} {q : Nat} {d : List D} {v : List V} (r : Reps K H w o q d v []) (wl : WL w H) : Reps K H w o' q d v [] :=
  Reps.go wl (fun a x h n => ⟨h, n⟩) r (fun _ z => nomatch z)
theorem Reps.get {K : PySem.W.Frag} {H : Hp} {w : Wn} {o : Ow} : ∀ {ds : List D} {vs : List V} {i : Nat} {d : D}, Reps K H w o 0 ds vs [] -> ds[i]? = some d -> ∃ v, vs[i]? = some v /\ Rep K H w o 0 d v []
  | ds, vs, i, d, r, e => by
    generalize hF : ([] : List Addr) = F at r
    cases r with
    | nil => simp at e
    | @cons _ d' v' ds' vs' F' G' r s _ =>
      have h1 : F' = [] := r.zero
      have h2 : G' = [] := s.zero
      subst h1 h2
      cases i with
      | zero => simp at e; subst e; exact ⟨v', rfl, r⟩
      | succ j =>
        obtain ⟨v, h1, h2⟩ := Reps.get (i := j) (d := d) s (by simpa using e)
        exact ⟨v, by simpa using h1, h2⟩
theorem Reps.snoc {K : PySem.W.Frag} {H : Hp} {w : Wn} {o : Ow} {q : Nat} {d : D} {v : V} {G : List Addr} (r' : Rep K H w o q d v G) : ∀ {ds : List D} {vs : List V} {F : List Addr}, Reps K H w o q ds vs F -> (∀ a ∈ F, a ∉ G) -> Reps K H w o q (ds ++ [d]) (vs ++ [v]) (F ++ G)
  | _, _, _, .nil, _ => by
    have : Reps K H w o q [d] [v] (G ++ []) := .cons r' .nil (fun a _ z => nomatch z)
    simpa using this
  | _, _, _, .cons (F := F) (G := F') r s ne, k => by
    rw [List.append_assoc]
    refine .cons r (Reps.snoc r' s fun a m => k a (List.mem_append_right _ m)) fun a m z => ?_
    rcases List.mem_append.mp z with z | z
    · exact ne a m z
    · exact k a (List.mem_append_left _ m) z
noncomputable abbrev Rho := List (Option (D × Nat))
structure Good (K : PySem.W.Frag) (ρ : Rho) (σ : St) (H : Hp) (w : Wn) (t : Nat) : Prop where
  wl : WL w H
  ws : ∀ a i, w a = some (.s i) -> i < σ.length
  wt : ∀ a i, w a = some (.t i) -> i < t
  len : ρ.length = σ.length
  slot : ∀ (i : Nat) d q, ρ[i]? = some (some (d, q)) -> ∃ v F, σ[i]? = some (some v) /\ Rep K H w (.s i) q d v F
structure Go (H : Hp) (w : Wn) (H' : Hp) (w' : Wn) : Prop where
  stab : x8k H w H' w'
  keep : ∀ a o, w a = some o -> (∀ i, o ≠ .s i) -> H' a = H a /\ w' a = some o
theorem Go.refl {H : Hp} {w : Wn} : Go H w H w := ⟨fun a x h n => ⟨h, n⟩, fun a o e _ => ⟨rfl, e⟩⟩
theorem Go.trans {H H1 H2 : Hp} {w w1 w2 : Wn} (a : Go H w H1 w1) (b : Go H1 w1 H2 w2) : Go H w H2 w2 :=
  ⟨fun c x h n => b.stab c x (a.stab c x h n).1 (a.stab c x h n).2, fun c o e h => by
    obtain ⟨h1, w1⟩ := a.keep c o e h
    obtain ⟨h2, w2⟩ := b.keep c o w1 h
    exact ⟨h2.trans h1, w2⟩⟩
theorem Rep.gone {K : PySem.W.Frag} {H H' : Hp} {w w' : Wn} {q : Nat} {d : D} {v : V} {F : List Addr} {i : Nat} (r : Rep K H w (.t i) q d v F) (wl : WL w H) (g : Go H w H' w') : Rep K H' w' (.t i) q d v F :=
  Rep.go wl g.stab r fun a m => g.keep a _ (r.owns a m) (fun _ z => nomatch z)
theorem Reps.gone {K : PySem.W.Frag} {H H' : Hp} {w w' : Wn} {q : Nat} {d : List D} {v : List V} {F : List Addr} {i : Nat} (r : Reps K H w (.t i) q d v F) (wl : WL w H) (g : Go H w H' w') : Reps K H' w' (.t i) q d v F :=
  Reps.go wl g.stab r fun a m => g.keep a _ (r.owns a m) (fun _ z => nomatch z)
noncomputable def x20 (t : Nat) (w : Wn) : Wn := fun a => match w a with
  | some (.t i) => if t <= i then none else some (.t i)
  | x => x
theorem x5t {t : Nat} {w : Wn} {a : Addr} (h : w a = none) : x20 t w a = none := by unfold x20; rw [h]
theorem z24 {t : Nat} {w : Wn} {a : Addr} {i : Nat} (h : w a = some (.s i)) : x20 t w a = some (.s i) := by unfold x20; rw [h]
theorem z42 {t : Nat} {w : Wn} {a : Addr} (h : w a = some .f) : x20 t w a = some .f := by unfold x20; rw [h]
theorem y9x {t : Nat} {w : Wn} {a : Addr} {i : Nat} (h : w a = some (.t i)) (hi : i < t) : x20 t w a = some (.t i) := by unfold x20; rw [h]; exact if_neg (by omega)
theorem y9z {t : Nat} {w : Wn} {a : Addr} {i : Nat} (h : w a = some (.t i)) (hi : t <= i) : x20 t w a = none := by unfold x20; rw [h]; exact if_pos hi
theorem x7y {t : Nat} {w : Wn} {a : Addr} {o : Ow} (h : x20 t w a = some o) : w a = some o /\ ∀ i, o = .t i -> i < t := by
  unfold x20 at h
  cases e : w a with
  | none => rw [e] at h; cases h
  | some o' =>
    rw [e] at h
    cases o' with
    | s i => cases h; exact ⟨rfl, fun i z => nomatch z⟩
    | f => cases h; exact ⟨rfl, fun i z => nomatch z⟩
    | t i =>
      dsimp only at h
      split at h
      · cases h
      · cases h; exact ⟨rfl, fun j z => by cases z; omega⟩
theorem Good.drop {K : PySem.W.Frag} {ρ : Rho} {σ : St} {H : Hp} {w : Wn} {t t' : Nat} (g : Good K ρ σ H w t) : Good K ρ σ H (x20 t' w) t' := by
  refine ⟨fun a o e => g.wl a o (x7y e).1, fun a i e => g.ws a i (x7y e).1, fun a i e => (x7y e).2 i rfl, g.len, fun i d q e => ?_⟩
  obtain ⟨v, F, h1, h2⟩ := g.slot i d q e
  exact ⟨v, F, h1, Rep.go g.wl (fun a x h n => ⟨h, x5t n⟩) h2 fun a m => ⟨rfl, z24 (h2.owns a m)⟩⟩
theorem Go.drop {H H' : Hp} {w w' : Wn} {t : Nat} (g : Go H w H' w') (wt : ∀ a i, w a = some (.t i) -> i < t) : Go H w H' (x20 t w') :=
  ⟨fun a x h n => ⟨(g.stab a x h n).1, x5t (g.stab a x h n).2⟩, fun a o e h => by
    obtain ⟨h1, h2⟩ := g.keep a o e h
    refine ⟨h1, ?_⟩
    cases o with
    | s i => exact absurd rfl (h i)
    | f => exact z42 h2
    | t i => exact y9x h2 (wt a i e)⟩
theorem Rep.drop {K : PySem.W.Frag} {H : Hp} {w : Wn} {q : Nat} {d : D} {v : V} {F : List Addr} {t : Nat} {o : Ow} (r : Rep K H w (.t t) q d v F) {t' : Nat} (h : t' <= t) : Rep K H (x20 t' w) o 0 d v [] :=
  Rep.freeze (fun a n => x5t n) r fun a m => y9z (r.owns a m) h
noncomputable abbrev Den := Rho -> Option (D × Nat × Rho)
noncomputable def tD (K : PySem.W.Frag) (f : Den) : TE := fun σ H Q => ∃ ρ w t r q ρ', Good K ρ σ H w t /\ f ρ = some (r, q, ρ') /\ ∀ v H' w' F, Good K ρ' σ H' w' (t + 1) -> Go H w H' w' -> Rep K H' w' (.t t) q r v F -> Q v H'
theorem PE.imp {X : Cx} {e : Expr} {t t' : TE} (h : PE X e t) (i : ∀ σ H Q, t' σ H Q -> t σ H Q) : PE X e t' := fun pins s σ H Q I q => h pins s σ H Q I (i σ H Q q)
noncomputable abbrev PD (X : Cx) (e : Expr) (f : Den) : Prop := PE X e (tD X.K f)
theorem Good.up {K : PySem.W.Frag} {ρ : Rho} {σ : St} {H : Hp} {w : Wn} {t : Nat} (g : Good K ρ σ H w t) : Good K ρ σ H w (t + 1) := ⟨g.wl, g.ws, fun a i e => Nat.lt_succ_of_lt (g.wt a i e), g.len, g.slot⟩
@[simp] noncomputable def y0h (d : D) : Nat := if d.isL then 0 else 9
theorem Rep.dep {K : PySem.W.Frag} {H : Hp} {w : Wn} {o : Ow} {d : D} {v : V} (r : Rep K H w o 0 d v []) : Rep K H w o (y0h d) d v [] := by
  unfold y0h
  cases e : d.isL with
  | true => exact r
  | false => exact (r.nolist e).2 9
section
variable {K : PySem.W.Frag} {σ : St} {H : Hp} {ρ ρ' ρ1 ρ2 : Rho} {w : Wn} {t : Nat} {Q : VK}
theorem z2u {fa fb : Den} {R : V -> V -> Hp -> Prop} (g : Good K ρ σ H w t) {d1 d2 : D} {q1 q2 : Nat} (e1 : fa ρ = some (d1, q1, ρ1)) (e2 : fb ρ1 = some (d2, q2, ρ2))
    (k : ∀ x y H2 w2 F1 F2, Good K ρ2 σ H2 w2 (t + 2) -> Go H w H2 w2 -> Rep K H2 w2 (.t t) q1 d1 x F1 -> Rep K H2 w2 (.t (t + 1)) q2 d2 y F2 -> R x y H2) :
    tD K fa σ H fun x H1 => tD K fb σ H1 fun y H2 => R x y H2 :=
  ⟨ρ, w, t, d1, q1, ρ1, g, e1, fun x H1 w1 F1 g1 go1 r1 => ⟨ρ1, w1, t + 1, d2, q2, ρ2, g1, e2, fun y H2 w2 F2 g2 go2 r2 => k x y H2 w2 F1 F2 g2 (go1.trans go2) (r1.gone g1.wl go2) r2⟩⟩
theorem z4w {r : D} {q : Nat} {v : V} {H2 : Hp} {w2 : Wn} {t2 : Nat} (k : ∀ v H' w' F, Good K ρ' σ H' w' (t + 1) -> Go H w H' w' -> Rep K H' w' (.t t) q r v F -> Q v H') (g : Good K ρ σ H w t) (g2 : Good K ρ' σ H2 w2 t2) (go : Go H w H2 w2)
    (rr : Rep K H2 (x20 t w2) (.t t) q r v []) : Q v H2 := k v H2 (x20 t w2) [] g2.drop.up (go.drop g.wt) rr
noncomputable def y8u (p : Addr) (o : Ow) (w : Wn) : Wn := fun a => if a = p then some o else w a
theorem x4p {p : Addr} {o : Ow} {w : Wn} : y8u p o w p = some o := if_pos rfl
theorem x3s {p a : Addr} {o : Ow} {w : Wn} (h : a ≠ p) : y8u p o w a = w a := if_neg h
theorem y6l {H1 : Hp} {p : Addr} {vs : List V} {ds : List D} {w1 : Wn} (g : Good K ρ σ H1 w1 t) (hp : H1 p = none) (r : Reps K H1 w1 .f 0 ds vs []) :
    Good K ρ σ (upd H1 p (.lst vs)) (y8u p (.t t) w1) (t + 1) /\ Go H1 w1 (upd H1 p (.lst vs)) (y8u p (.t t) w1) /\ Rep K (upd H1 p (.lst vs)) (y8u p (.t t) w1) (.t t) 1 (.lst ds) (.ref p) [p] := by
  have ne : ∀ a x, H1 a = some x -> a ≠ p := fun a x e => x1f e hp
  have nw : ∀ a o, w1 a = some o -> a ≠ p := fun a o e => by obtain ⟨vs, q⟩ := g.wl a o e; exact ne a _ q
  have st : x8k H1 w1 (upd H1 p (.lst vs)) (y8u p (.t t) w1) := fun a x e n => ⟨by rw [x0q (ne a x e)]; exact e, by rw [x3s (ne a x e)]; exact n⟩
  refine ⟨⟨fun a o e => ?_, fun a i e => ?_, fun a i e => ?_, g.len, fun i d q e => ?_⟩, ⟨st, fun a o e _ => ⟨x0q (nw a o e), (x3s (nw a o e)).trans e⟩⟩, ?_⟩
  · by_cases h : a = p
    · subst h; exact ⟨vs, x23⟩
    · rw [x3s h] at e
      obtain ⟨us, q⟩ := g.wl a o e
      exact ⟨us, by rw [x0q h]; exact q⟩
  · by_cases h : a = p
    · subst h; rw [x4p] at e; cases e
    · rw [x3s h] at e; exact g.ws a i e
  · by_cases h : a = p
    · subst h; rw [x4p] at e; cases e; exact Nat.lt_succ_self _
    · rw [x3s h] at e; exact Nat.lt_succ_of_lt (g.wt a i e)
  · obtain ⟨v, F, h1, h2⟩ := g.slot i d q e
    exact ⟨v, F, h1, Rep.go g.wl st h2 fun a m => ⟨x0q (nw a _ (h2.owns a m)), (x3s (nw a _ (h2.owns a m))).trans (h2.owns a m)⟩⟩
  · exact .own x23 x4p (Reps.go g.wl st r (fun _ z => nomatch z)) (fun z => nomatch z)
theorem y14 {H1 : Hp} {p : Addr} {vs : List V} {ds : List D} {w1 : Wn} (g : Good K ρ σ H1 w1 t) (hp : H1 p = none) (r : Reps K H1 w1 .f 0 ds vs []) :
    Good K ρ σ (upd H1 p (.tup vs)) w1 (t + 1) /\ Go H1 w1 (upd H1 p (.tup vs)) w1 /\ Rep K (upd H1 p (.tup vs)) w1 (.t t) 9 (.tup ds) (.ref p) [] := by
  have ne : ∀ a x, H1 a = some x -> a ≠ p := fun a x e => x1f e hp
  have nw : ∀ a o, w1 a = some o -> a ≠ p := fun a o e => by obtain ⟨vs, q⟩ := g.wl a o e; exact ne a _ q
  have st : x8k H1 w1 (upd H1 p (.tup vs)) w1 := fun a x e n => ⟨by rw [x0q (ne a x e)]; exact e, n⟩
  refine ⟨⟨fun a o e => ?_, g.ws, fun a i e => Nat.lt_succ_of_lt (g.wt a i e), g.len, fun i d q e => ?_⟩, ⟨st, fun a o e _ => ⟨x0q (nw a o e), e⟩⟩, ?_⟩
  · obtain ⟨us, q⟩ := g.wl a o e
    exact ⟨us, by rw [x0q (nw a o e)]; exact q⟩
  · obtain ⟨v, F, h1, h2⟩ := g.slot i d q e
    exact ⟨v, F, h1, Rep.go g.wl st h2 fun a m => ⟨x0q (nw a _ (h2.owns a m)), h2.owns a m⟩⟩
  · exact .tup x23 (Reps.go g.wl st r (fun _ z => nomatch z))
end
@[simp] noncomputable def eC (d : D) : Den := fun ρ => some (d, 9, ρ)
@[simp] noncomputable def x05 (i : Nat) : Den := fun ρ => match ρ[i]? with
  | some (some (d, q)) => if d.isL = false then some (d, 9, ρ) else if q = 0 then some (d, 0, ρ) else some (d, 0, ρ.set i (some (d, 0)))
  | _ => none
section
variable {X : Cx} {a b c e : Expr} {fa fb fc f : Den} {pos : Pos}
theorem x97 {v : V} {d : D} (h : PE X e (tC v)) (r : ∀ K H w o q, Rep K H w o q d v []) : PD X e (eC d) := PE.imp h fun σ H Q hh0 => by
  obtain ⟨ρ, w, t, r', q, ρ', g, ee, k⟩ := hh0
  cases ee
  exact k v H w [] g.up Go.refl (r _ _ _ _ _)
theorem z5c {i j} : PD X (.Constant (.int i) j pos) (eC (.int i)) := x97 z1i fun _ _ _ _ _ => .int i
theorem z9k {i j} : PD X (.Constant (.bool i) j pos) (eC (.bl i)) := x97 z9j fun _ _ _ _ _ => .bl i
theorem z68 {j} : PD X (.Constant .none j pos) (eC .non) := x97 z5m fun _ _ _ _ _ => .non
theorem z79 {x j} : PD X (.Constant (.str x) j pos) (eC (.str x)) := x97 y7l fun _ _ _ _ _ => .str x
noncomputable def x68 (i : Nat) (w : Wn) : Wn := fun a => if w a = some (.s i) then none else w a
theorem x5v {i : Nat} {w : Wn} {a : Addr} (h : w a = none) : x68 i w a = none := by unfold x68; rw [h]; rfl
theorem y12 {i : Nat} {w : Wn} {a : Addr} (h : w a = some (.s i)) : x68 i w a = none := by unfold x68; rw [if_pos h]
theorem x91 {i : Nat} {w : Wn} {a : Addr} {o : Ow} (h : w a = some o) (n : o ≠ .s i) : x68 i w a = some o := by unfold x68; rw [if_neg (by rw [h]; exact fun z => n (Option.some.inj z))]; exact h
theorem x3x {i : Nat} {w : Wn} {a : Addr} {o : Ow} (h : x68 i w a = some o) : w a = some o /\ o ≠ .s i := by
  unfold x68 at h
  split at h
  · cases h
  · rename_i n; exact ⟨h, fun z => n (by rw [h, z])⟩
theorem Good.give {K : PySem.W.Frag} {ρ : Rho} {σ : St} {H : Hp} {w : Wn} {t i : Nat} {d : D} {q : Nat} (g : Good K ρ σ H w t) (e : ρ[i]? = some (some (d, q))) : Good K (ρ.set i (some (d, 0))) σ H (x68 i w) t /\ Go H w H (x68 i w) := by
  have st : x8k H w H (x68 i w) := fun a x h n => ⟨h, x5v n⟩
  refine ⟨⟨fun a o h => g.wl a o (x3x h).1, fun a j h => g.ws a j (x3x h).1, fun a j h => g.wt a j (x3x h).1, by rw [List.length_set]; exact g.len, fun j d' q' e' => ?_⟩, ⟨st, fun a o h n => ⟨rfl, x91 h (n i)⟩⟩⟩
  by_cases hj : i = j
  · subst hj
    rw [List.getElem?_set_self (List.getElem?_eq_some_iff.mp e).1] at e'
    cases e'
    obtain ⟨v, F, h1, h2⟩ := g.slot i d q e
    exact ⟨v, [], h1, Rep.freeze (fun a n => x5v n) h2 fun a m => y12 (h2.owns a m)⟩
  · rw [List.getElem?_set_ne hj] at e'
    obtain ⟨v, F, h1, h2⟩ := g.slot j d' q' e'
    exact ⟨v, F, h1, Rep.go g.wl st h2 fun a m => ⟨rfl, x91 (h2.owns a m) (fun z => hj (by cases z; rfl))⟩⟩
theorem z6i {i : Nat} {x : Str} (h : PE X (.Name x pos) (x9j i)) : PD X (.Name x pos) (x05 i) := PE.imp h fun σ H Q hh0 => by
  obtain ⟨ρ, w, t, r', q, ρ', g, ee, k⟩ := hh0
  unfold x05 at ee
  split at ee
  · rename_i d q0 e0
    obtain ⟨v, F, h1, h2⟩ := g.slot i d q0 e0
    refine ⟨v, h1, ?_⟩
    split at ee
    · rename_i hl
      cases ee
      obtain ⟨hF, hr⟩ := h2.nolist hl
      exact k v H w [] g.up Go.refl ((hr 9).any g.wl)
    · split at ee
      · rename_i hq
        subst hq
        cases ee
        have := h2.zero
        subst this
        exact k v H w [] g.up Go.refl (h2.any g.wl)
      · cases ee
        obtain ⟨g', go'⟩ := g.give e0
        refine k v H (x68 i w) [] g'.up go' ?_
        exact Rep.freeze (fun a n => x5v n) h2 fun a m => y12 (h2.owns a m)
  · cases ee
noncomputable def y1j : D -> Option V
  | .non => some .non
  | .bl b => some (.bl b)
  | .int i => some (.int i)
  | .str x => some (.str x)
  | _ => none
theorem y1r {K : PySem.W.Frag} {H : Hp} {w : Wn} {o : Ow} {q : Nat} {d : D} {v : V} (h : y1j d = some v) : Rep K H w o q d v [] := by
  cases d <;> cases h
  · exact .non
  · exact .bl _
  · exact .int _
  · exact .str _
@[simp] noncomputable def e2 (g : D -> D -> Option D) (fa fb : Den) : Den := fun ρ => match fa ρ with
  | some (x, _, ρ1) => match fb ρ1 with
    | some (y, _, ρ2) => match g x y with
      | some d => some (d, 9, ρ2)
      | none => none
    | none => none
  | none => none
theorem z46 {g : D -> D -> Option D} {ρ ρ' : Rho} {r : D} {q : Nat} (h : e2 g fa fb ρ = some (r, q, ρ')) : ∃ x q1 ρ1 y q2, fa ρ = some (x, q1, ρ1) /\ fb ρ1 = some (y, q2, ρ') /\ g x y = some r /\ q = 9 := by
  unfold e2 at h
  split at h
  · rename_i x q1 ρ1 h1
    split at h
    · rename_i y q2 ρ2 h2
      split at h
      · rename_i d hd
        cases h
        exact ⟨x, q1, ρ1, y, q2, h1, h2, hd, rfl⟩
      · cases h
    · cases h
  · cases h
theorem y2g {K : PySem.W.Frag} {g : D -> D -> Option D} {r : R2} (hg : ∀ x y d, g x y = some d -> ∃ v, y1j d = some v /\ ∀ H w o o' q q' u u' F F', Rep K H w o q x u F -> Rep K H w o' q' y u' F' -> WL w H -> ∀ Q : VK, Q v H -> r u u' H Q) :
    ∀ σ H Q, tD K (e2 g fa fb) σ H Q -> tOp r (tD K fa) (tD K fb) σ H Q := fun σ H Q hh0 => by
  obtain ⟨ρ, w, t, r', q, ρ', gd, ee, k⟩ := hh0
  obtain ⟨x, q1, ρ1, y, q2, h1, h2, h3, rfl⟩ := z46 ee
  obtain ⟨v, hv, hr⟩ := hg x y r' h3
  exact z2u gd h1 h2 fun u u' H2 w2 F1 F2 g2 go r1 r2 => hr H2 w2 _ _ _ _ u u' F1 F2 r1 r2 g2.wl Q (z4w k gd g2 go (y1r hv))
@[simp] noncomputable def gI (f : Int -> Int -> Option D) : D -> D -> Option D
  | .int i, .int j => f i j
  | _, _ => none
theorem x9x {f : Int -> Int -> Option D} {x y d : D} (h : gI f x y = some d) : ∃ i j, x = .int i /\ y = .int j /\ f i j = some d := by
  unfold gI at h
  split at h
  · exact ⟨_, _, rfl, rfl, h⟩
  · cases h
theorem x3v {K : PySem.W.Frag} {H : Hp} {w : Wn} {o : Ow} {q : Nat} {i : Int} {v : V} {F : List Addr} (r : Rep K H w o q (.int i) v F) : v = .int i := by cases r; rfl
theorem y3y {K : PySem.W.Frag} {f : Int -> Int -> Option D} {C : Int -> Int -> Prop} {h : Int -> Int -> V} (hf : ∀ i j d, f i j = some d -> C i j /\ y1j d = some (h i j)) :
    ∀ σ H Q, tD K (e2 (gI f) fa fb) σ H Q -> tOp (rI C h) (tD K fa) (tD K fb) σ H Q :=
  y2g fun x y d e => by
    obtain ⟨i, j, rfl, rfl, e⟩ := x9x e
    obtain ⟨c, s⟩ := hf i j d e
    exact ⟨_, s, fun H w o o' q q' u u' F F' r1 r2 _ Q hq => ⟨i, j, x3v r1, x3v r2, c, hq⟩⟩
theorem x7e {K : PySem.W.Frag} {f : Int -> Int -> Option D} {h : Int -> Int -> V} (hf : ∀ i j d, f i j = some d -> y1j d = some (h i j)) :
    ∀ σ H Q, tD K (e2 (gI f) fa fb) σ H Q -> tOp (rI0 h) (tD K fa) (tD K fb) σ H Q :=
  y2g fun x y d e => by
    obtain ⟨i, j, rfl, rfl, e⟩ := x9x e
    exact ⟨_, hf i j d e, fun H w o o' q q' u u' F F' r1 r2 _ Q hq => ⟨i, j, x3v r1, x3v r2, hq⟩⟩
end
section
variable {X : Cx} {a b c e : Expr} {fa fb fc f : Den} {pos : Pos}
@[simp] noncomputable def x2w : D -> D -> Option D := gI fun i j => some (.int (i + j))
@[simp] noncomputable def z1n : D -> D -> Option D := gI fun i j => some (.int (i - j))
@[simp] noncomputable def x9s : D -> D -> Option D := gI fun i j => if (-(2 ^ 64) < i /\ i < 2 ^ 64) \/ (-(2 ^ 64) < j /\ j < 2 ^ 64) then some (.int (i * j)) else none
@[simp] noncomputable def z7x : D -> D -> Option D := gI fun i j => if 0 < j /\ j < 1073741824 then some (.int (i / j)) else none
@[simp] noncomputable def z1x : D -> D -> Option D := gI fun i j => if 0 < j then some (.int (i % j)) else none
theorem z8g (ha : PD X a fa) (hb : PD X b fb) : PD X (.BinOp a .Add b pos) (e2 x2w fa fb) := PE.imp (y21 z6r ha hb) (x7e fun i j d h => by cases h; rfl)
theorem z8l (ha : PD X a fa) (hb : PD X b fb) : PD X (.BinOp a .Sub b pos) (e2 z1n fa fb) := PE.imp (y21 z7k ha hb) (x7e fun i j d h => by cases h; rfl)
theorem z8m (ha : PD X a fa) (hb : PD X b fb) : PD X (.BinOp a .Mult b pos) (e2 x9s fa fb) := PE.imp (y21 z8b ha hb) (y3y fun i j d h => by
  split at h
  · cases h; exact ⟨by assumption, rfl⟩
  · cases h)
theorem z87 (ha : PD X a fa) (hb : PD X b fb) : PD X (.BinOp a .FloorDiv b pos) (e2 z7x fa fb) := PE.imp (y21 z2s ha hb) (y3y fun i j d h => by
  split at h
  · cases h; exact ⟨by assumption, rfl⟩
  · cases h)
theorem z6f (ha : PD X a fa) (hb : PD X b fb) : PD X (.BinOp a .Mod b pos) (e2 z1x fa fb) := PE.imp (y21 z7p ha hb) (y3y fun i j d h => by
  split at h
  · cases h; exact ⟨by assumption, rfl⟩
  · cases h)
noncomputable def atD : D -> Int -> Option D
  | .lst ds, i => atI ds i
  | .tup ds, i => atI ds i
  | _, _ => none
@[simp] noncomputable def eIx (fa fb : Den) : Den := fun ρ => match fa ρ with
  | some (x, _, ρ1) => match fb ρ1 with
    | some (.int i, _, ρ2) => match atD x i with
      | some d => some (d, y0h d, ρ2)
      | none => none
    | _ => none
  | none => none
theorem Rep.seqL {K : PySem.W.Frag} {H : Hp} {w : Wn} {o : Ow} {q : Nat} {ds : List D} {v : V} {F : List Addr} (r : Rep K H w o q (.lst ds) v F) : ∃ a vs q' G, v = .ref a /\ SqL K H a vs /\ Reps K H w o q' ds vs G := by
  cases r with
  | kl h r => exact ⟨_, _, _, _, rfl, h.sq, r⟩
  | shr h n r => exact ⟨_, _, _, _, rfl, .inl h, r⟩
  | own h n r _ => exact ⟨_, _, _, _, rfl, SqL.of h, r⟩
theorem Rep.seqL0 {K : PySem.W.Frag} {H : Hp} {w : Wn} {o : Ow} {ds : List D} {v : V} {F : List Addr} (r : Rep K H w o 0 (.lst ds) v F) : ∃ a vs, v = .ref a /\ SqL K H a vs /\ Reps K H w o 0 ds vs [] := by
  cases r with
  | kl h r => exact ⟨_, _, rfl, h.sq, r⟩
  | shr h n r => exact ⟨_, _, rfl, .inl h, r⟩
theorem Rep.seqT {K : PySem.W.Frag} {H : Hp} {w : Wn} {o : Ow} {q : Nat} {ds : List D} {v : V} {F : List Addr} (r : Rep K H w o q (.tup ds) v F) : ∃ a vs, v = .ref a /\ SqT K H a vs /\ Reps K H w o 0 ds vs [] := by
  cases r with
  | tup h r => exact ⟨_, _, rfl, SqT.of h, r⟩
theorem Rep.tupAt {K : PySem.W.Frag} {H : Hp} {w : Wn} {o : Ow} {q : Nat} {ds : List D} {v : V} {F : List Addr} (r : Rep K H w o q (.tup ds) v F) : ∃ a vs, v = .ref a /\ H a = some (.tup vs) /\ Reps K H w o 0 ds vs [] := by
  cases r with
  | tup h r => exact ⟨_, _, rfl, h, r⟩
theorem Reps.atI {K : PySem.W.Frag} {H : Hp} {w : Wn} {o : Ow} {ds : List D} {vs : List V} {i : Int} {d : D} (r : Reps K H w o 0 ds vs []) (h : L2.atI ds i = some d) : ∃ v, L2.atI vs i = some v /\ Rep K H w o 0 d v [] := by
  unfold L2.atI at h ⊢
  rw [<- r.length]
  cases e : ixN ds.length i with
  | none => rw [e] at h; cases h
  | some j =>
    rw [e] at h
    exact r.get h
theorem j08 (ha : PD X a fa) (hb : PD X b fb) (hs : x45 b := by exact fun _ _ => rfl) : PD X (.Subscript a b pos) (eIx fa fb) := PE.imp (y82 y2b ha hb hs) fun σ H Q hh0 => by
  obtain ⟨ρ, w, t, r', q, ρ', gd, ee, k⟩ := hh0
  unfold eIx at ee
  split at ee
  · rename_i x q1 ρ1 h1
    split at ee
    · rename_i i q2 ρ2 h2
      split at ee
      · rename_i d hd
        cases ee
        refine z2u gd h1 h2 fun u u' H2 w2 F1 F2 g2 go r1 r2 => ?_
        have hu' := x3v r2
        subst hu'
        have r0 := r1.drop (o := .t t) (Nat.le_refl t)
        cases x with
        | lst ds =>
          obtain ⟨p, vs, rfl, hq, rs⟩ := r0.seqL0
          obtain ⟨v, hv, rv⟩ := rs.atI hd
          exact .inl ⟨p, vs, i, v, rfl, rfl, hq, hv, z4w k gd g2 go rv.dep⟩
        | tup ds =>
          obtain ⟨p, vs, rfl, hq, rs⟩ := r0.seqT
          obtain ⟨v, hv, rv⟩ := rs.atI hd
          exact .inr (.inl ⟨p, vs, i, v, rfl, rfl, hq, hv, z4w k gd g2 go rv.dep⟩)
        | _ => cases hd
      · cases ee
    · cases ee
  · cases ee
noncomputable abbrev x2a := Rho -> Option (List D × Rho)
noncomputable def tDA (K : PySem.W.Frag) (f : x2a) : TA := fun σ H Q => ∃ ρ w t ds ρ', Good K ρ σ H w t /\ f ρ = some (ds, ρ') /\ ∀ vs H' w', Good K ρ' σ H' w' t -> Go H w H' w' -> Reps K H' w' .f 0 ds vs [] -> Q vs H'
noncomputable abbrev PDA (X : Cx) (es : List Expr) (f : x2a) : Prop := PA X es (tDA X.K f)
theorem PA.imp {X : Cx} {e : List Expr} {t t' : TA} (h : PA X e t) (i : ∀ σ H Q, t' σ H Q -> t σ H Q) : PA X e t' := fun pos pins s σ H Q I q => h pos pins s σ H Q I (i σ H Q q)
@[simp] noncomputable def x0e : x2a := fun ρ => some ([], ρ)
@[simp] noncomputable def x01 (f : Den) (g : x2a) : x2a := fun ρ => match f ρ with
  | some (d, _, ρ1) => match g ρ1 with
    | some (ds, ρ2) => some (d :: ds, ρ2)
    | none => none
  | none => none
theorem z4x : PDA X [] x0e := PA.imp y0o fun σ H Q hh0 => by
  obtain ⟨ρ, w, t, ds, ρ', gd, ee, k⟩ := hh0
  cases ee
  exact k [] H w gd Go.refl .nil
theorem z08 {es : List Expr} {g : x2a} (ha : PD X e f) (hr : PDA X es g) (hs : starEach (e :: es) X.env = (false, eval e X.env) :: starEach es X.env := by rfl) : PDA X (e :: es) (x01 f g) := PA.imp (x6o ha hr hs) fun σ H Q hh0 => by
  obtain ⟨ρ, w, t, ds, ρ', gd, ee, k⟩ := hh0
  unfold x01 at ee
  split at ee
  · rename_i d q ρ1 h1
    split at ee
    · rename_i ds' ρ2 h2
      cases ee
      refine ⟨ρ, w, t, d, q, ρ1, gd, h1, fun x H1 w1 F1 g1 go1 r1 => ⟨ρ1, x20 t w1, t, ds', _, g1.drop, h2, fun vs H2 w2 g2 go2 r2 => ?_⟩⟩
      have gl := (g1.drop (t' := t)).wl
      have r0 : Rep X.K H2 w2 .f 0 d x [] := Rep.go gl go2.stab (r1.drop (o := .f) (Nat.le_refl t)) (fun _ z => nomatch z)
      exact k (x :: vs) H2 w2 g2 ((go1.drop gd.wt).trans go2) (.cons (F := []) (G := []) r0 r2 (fun _ z => nomatch z))
    · cases ee
  · cases ee
@[simp] noncomputable def x4k (g : x2a) : Den := fun ρ => match g ρ with
  | some (ds, ρ1) => if ds.length <= 1000 then some (.lst ds, 1, ρ1) else none
  | none => none
@[simp] noncomputable def x4n (g : x2a) : Den := fun ρ => match g ρ with
  | some (ds, ρ1) => if ds.length <= 1000 then some (.tup ds, 9, ρ1) else none
  | none => none
theorem x9g {n : Nat} (h : n <= 1000) : n <= sizeLine := Nat.le_of_lt (x4a h)
theorem z7i {es : List Expr} {g : x2a} (h : PDA X es g) : PD X (.List es pos) (x4k g) := PE.imp (z61 h) fun σ H Q hh0 => by
  obtain ⟨ρ, w, t, r', q, ρ', gd, ee, k⟩ := hh0
  unfold x4k at ee
  split at ee
  · rename_i ds ρ1 h1
    split at ee
    · rename_i hl
      cases ee
      refine ⟨ρ, w, t, ds, _, gd, h1, fun vs H1 w1 g1 go1 r1 => ⟨by rw [<- r1.length]; exact x9g hl, fun p hp => ?_⟩⟩
      obtain ⟨a1, a2, a3⟩ := y6l g1 hp r1
      exact k _ _ _ _ a1 (go1.trans a2) a3
    · cases ee
  · cases ee
theorem z7a {es : List Expr} {g : x2a} {x1} (h : PDA X es g) : PD X (.Tuple es x1 pos) (x4n g) := PE.imp (z84 h) fun σ H Q hh0 => by
  obtain ⟨ρ, w, t, r', q, ρ', gd, ee, k⟩ := hh0
  unfold x4n at ee
  split at ee
  · rename_i ds ρ1 h1
    split at ee
    · rename_i hl
      cases ee
      refine ⟨ρ, w, t, ds, _, gd, h1, fun vs H1 w1 g1 go1 r1 => ⟨by rw [<- r1.length]; exact x9g hl, fun p hp => ?_⟩⟩
      obtain ⟨a1, a2, a3⟩ := y14 g1 hp r1
      exact k _ _ _ _ a1 (go1.trans a2) a3
    · cases ee
  · cases ee
noncomputable def spD (K : PySem.W.Frag) (n : Nat) (F : List D -> Option (D × Nat)) : Sp := fun vs H Q _ => vs.length = n /\ ∃ ds w r q, (∀ a o, w a = some o -> o = .f) /\ WL w H /\ Reps K H w .f 0 ds vs [] /\ F ds = some (r, q) /\
  ∀ v H' w' Fo, Go H w H' w' -> WL w' H' -> Rep K H' w' (.t 0) q r v Fo -> Q v H'
@[simp] noncomputable def x0g (F : List D -> Option (D × Nat)) (n : Nat) (g : x2a) : Den := fun ρ => match g ρ with
  | some (ds, ρ1) => if ds.length = n then match F ds with
    | some (r, q) => some (r, q, ρ1)
    | none => none
    else none
  | none => none
theorem j0y {K : PySem.W.Frag} {ρ : Rho} {σ : St} {H H' : Hp} {w w' : Wn} {t q : Nat} {d : D} {v : V} {Fo : List Addr} (g : Good K ρ σ H w t)
    (go : Go H (fun a => (w a).map fun _ => Ow.f) H' w') (wl' : WL w' H') (r : Rep K H' w' (.t 0) q d v Fo) :
    Good K ρ σ H' (fun a => if a ∈ Fo then some (.t t) else w a) (t + 1) /\ Go H w H' (fun a => if a ∈ Fo then some (.t t) else w a) /\ Rep K H' (fun a => if a ∈ Fo then some (.t t) else w a) (.t t) q d v Fo := by
  have kf : ∀ a o, w a = some o -> H' a = H a /\ w' a = some .f := fun a o e => go.keep a .f (by show (w a).map _ = _; rw [e]; rfl) (fun _ z => nomatch z)
  have nf : ∀ a x, H a = some x -> a ∉ Fo := fun a x e m => by
    have h1 := r.owns a m
    cases ew : w a with
    | none =>
      have := (go.stab a x e (by show (w a).map _ = _; rw [ew]; rfl)).2
      rw [h1] at this; cases this
    | some o => rw [(kf a o ew).2] at h1; cases h1
  have nw : ∀ a o, w a = some o -> a ∉ Fo := fun a o e => by obtain ⟨vs, q⟩ := g.wl a o e; exact nf a _ q
  have st : x8k H w H' (fun a => if a ∈ Fo then some (.t t) else w a) := fun a x e n => ⟨(go.stab a x e (by show (w a).map _ = _; rw [n]; rfl)).1, by show (if a ∈ Fo then _ else _) = _; rw [if_neg (nf a x e)]; exact n⟩
  have wv : ∀ a o, (if a ∈ Fo then some (Ow.t t) else w a) = some o -> (a ∈ Fo /\ o = .t t) \/ w a = some o := fun a o e => by
    split at e
    · cases e; exact .inl ⟨by assumption, rfl⟩
    · exact .inr e
  refine ⟨⟨fun a o e => ?_, fun a i e => ?_, fun a i e => ?_, g.len, fun i d q e => ?_⟩, ⟨st, fun a o e _ => ⟨(kf a o e).1, by show (if a ∈ Fo then _ else _) = _; rw [if_neg (nw a o e)]; exact e⟩⟩, ?_⟩
  · rcases wv a o e with ⟨m, _⟩ | z
    · exact wl' a _ (r.owns a m)
    · obtain ⟨vs, h⟩ := g.wl a o z
      exact ⟨vs, (kf a o z).1.trans h⟩
  · rcases wv a _ e with ⟨_, z⟩ | z
    · cases z
    · exact g.ws a i z
  · rcases wv a _ e with ⟨_, z⟩ | z
    · cases z; exact Nat.lt_succ_self _
    · exact Nat.lt_succ_of_lt (g.wt a i z)
  · obtain ⟨v, F, h1, h2⟩ := g.slot i d q e
    refine ⟨v, F, h1, Rep.go g.wl st h2 fun a m => ⟨(kf a _ (h2.owns a m)).1, ?_⟩⟩
    show (if a ∈ Fo then _ else _) = _
    rw [if_neg (nw a _ (h2.owns a m))]
    exact h2.owns a m
  · refine Rep.go wl' (fun a x e n => ⟨e, ?_⟩) r fun a m => ⟨rfl, if_pos m⟩
    show (if a ∈ Fo then _ else _) = _
    rw [if_neg (fun m => by have := r.owns a m; rw [n] at this; cases this)]
    cases ew : w a with
    | none => rfl
    | some o => have := (kf a o ew).2; rw [n] at this; cases this
theorem y95 {CX : CXT} {k n : Nat} {fn : Addr} {fd : FuncData} {ps : List Str} {x : Str} {p : Pos} {es : List Expr} {F : List D -> Option (D × Nat)} {g : x2a} {E : XK} (Fk : FnOk X.prog X.w X.K X.mg X.base CX k fn fd ps (spD X.K n F)) (hr : Room k X.A) (hm : X.mg x = some (.ref fn)) (hk : PySem.W.keepIn X.K (.ref fn) = true) (hb : y2d X.K fd ps [])
    (hx : y5d CX X E) (ha : PDA X (e :: es) g) (hg : Gl X x := by rfl) (hdb : (x == ("__debug__" : Str)) = false := by decide) (he : starEach (e :: es) X.env = (false, eval e X.env) :: starEach es X.env := by rfl) (hpl : (backTo pos (starEach es X.env)).any (·.1) = false := by rfl) :
    PD X (.Call (.Name x p) (e :: es) [] pos) (x0g F n g) := PE.imp (z3z Fk hr hg hm hk hb .nil hx ha hdb he hpl) fun σ H Q hh0 => by
  obtain ⟨ρ, w, t, r', q, ρ', gd, ee, k⟩ := hh0
  unfold x0g at ee
  split at ee
  · rename_i ds ρ1 h1
    split at ee
    · rename_i hn
      split at ee
      · rename_i r0 q0 h2
        cases ee
        refine ⟨ρ, w, t, ds, _, gd, h1, fun vs H1 w1 g1 go1 r1 => ?_⟩
        show spD X.K n F (vs ++ []) H1 Q E
        rw [List.append_nil]
        refine ⟨by rw [<- r1.length]; exact hn, ds, fun a => (w1 a).map fun _ => Ow.f, r', q, fun a o e => ?_, fun a o e => ?_, ?_, h2, fun v H2 w2 Fo go2 wl2 rr => ?_⟩
        · dsimp only at e
          cases ew : w1 a with
          | none => rw [ew] at e; cases e
          | some o' => rw [ew] at e; cases e; rfl
        · dsimp only at e
          cases ew : w1 a with
          | none => rw [ew] at e; cases e
          | some o' => exact g1.wl a o' ew
        · exact Reps.freeze (fun a n => by show (w1 a).map _ = _; rw [n]; rfl) r1 (fun _ z => nomatch z)
        · obtain ⟨b1, b2, b3⟩ := j0y g1 go2 wl2 rr
          exact k _ _ _ _ b1 (go1.trans b2) b3
      · cases ee
    · cases ee
  · cases ee
end
noncomputable abbrev x29 := Rho -> Option (Bool × Rho)
noncomputable def tDT (K : PySem.W.Frag) (f : x29) : TT := fun σ H Q => ∃ ρ w t b ρ', Good K ρ σ H w t /\ f ρ = some (b, ρ') /\ ∀ H' w', Good K ρ' σ H' w' t -> Go H w H' w' -> Q b H'
theorem PT.imp {X : Cx} {e : Expr} {t t' : TT} (h : PT X e t) (i : ∀ σ H Q, t' σ H Q -> t σ H Q) : PT X e t' := fun pins s σ H Q I q => h pins s σ H Q I (i σ H Q q)
theorem PW.imp {X : Cx} {e : Expr} {t t' : TT} (h : PW X e t) (i : ∀ σ H Q, t' σ H Q -> t σ H Q) : PW X e t' := fun whole pins s σ H Q I q => h whole pins s σ H Q I (i σ H Q q)
noncomputable abbrev PDT (X : Cx) (e : Expr) (f : x29) : Prop := PT X e (tDT X.K f)
noncomputable abbrev PDW (X : Cx) (e : Expr) (f : x29) : Prop := PW X e (tDT X.K f)
@[simp] noncomputable def j1f : D -> Option Bool
  | .non => some false
  | .bl b => some b
  | .int i => some (i != 0)
  | .tup ds => some (!ds.isEmpty)
  | .lst ds => some (!ds.isEmpty)
  | .str _ => none
  | .dic _ _ => none
  | .exc _ => none
@[simp] noncomputable def x7w (f : Den) : x29 := fun ρ => match f ρ with
  | some (d, _, ρ1) => match j1f d with
    | some b => some (b, ρ1)
    | none => none
  | none => none
section
variable {X : Cx} {a b c e : Expr} {fa fb fc f : Den} {ga gb gc : x29} {pos : Pos}
theorem x92 {α β : Type} {l : List α} {l' : List β} (h : l.length = l'.length) : (!l.isEmpty) = !l'.isEmpty := by
  cases l <;> cases l' <;> first | rfl | cases h
theorem z2w (ha : PD X a fa) (he : ∀ whole, isTrue a X.env whole = (do let v <- whole; standAt a.pos; holding [v] (truthy v)) := by exact fun _ => rfl) : PDT X a (x7w fa) := PT.imp (y9s ha he) fun σ H Q hh0 => by
  obtain ⟨ρ, w, t, b, ρ', gd, ee, k⟩ := hh0
  unfold x7w at ee
  split at ee
  · rename_i d q ρ1 h1
    split at ee
    · rename_i b' hb
      cases ee
      refine ⟨ρ, w, t, d, q, _, gd, h1, fun v H1 w1 F g1 go1 r1 => ⟨b, ?_, k H1 (x20 t w1) g1.drop (go1.drop gd.wt)⟩⟩
      cases r1 with
      | non => cases hb; rfl
      | bl x => cases hb; rfl
      | int i => cases hb; rfl
      | str x => cases hb
      | tup h r => cases hb; exact .inr (.inl ⟨_, SqT.of h, x92 r.length⟩)
      | dic h r => cases hb
      | exc h x n => cases hb
      | kl h r => cases hb; exact .inl ⟨_, h.sq, x92 r.length⟩
      | shr h _ r => cases hb; exact .inl ⟨_, .inl h, x92 r.length⟩
      | own h _ r _ => cases hb; exact .inl ⟨_, SqL.of h, x92 r.length⟩
    · cases ee
  · cases ee
@[simp] noncomputable def x37 (f : Den) : x29 := fun ρ => match f ρ with
  | some (.bl b, _, ρ1) => some (b, ρ1)
  | _ => none
theorem z06 {K : PySem.W.Frag} {te : TE} (h : ∀ σ H Q, tD K f σ H Q -> te σ H Q) : ∀ σ H Q, tDT K (x37 f) σ H Q -> z6n te σ H Q := fun σ H Q hh0 => by
  obtain ⟨ρ, w, t, b, ρ', gd, ee, k⟩ := hh0
  unfold x37 at ee
  split at ee
  · rename_i b' q ρ1 h1
    cases ee
    refine h σ H _ ⟨ρ, w, t, .bl b, q, _, gd, h1, fun v H1 w1 F g1 go1 r1 => ?_⟩
    cases r1
    exact ⟨b, rfl, k H1 (x20 t w1) g1.drop (go1.drop gd.wt)⟩
  · cases ee
theorem x85 {op : CmpOp} {g : D -> D -> Option D} {r : R2} (ho : OpR X (compareOp op) r) (hr : ∀ σ H Q, tD X.K (e2 g fa fb) σ H Q -> tOp r (tD X.K fa) (tD X.K fb) σ H Q) (ha : PD X a fa) (hb : PD X b fb) (hm : behindInMarks op b = false) :
    PDT X (.Compare a [op] [b] pos) (x37 (e2 g fa fb)) := PT.imp (z3k ho ha hb hm) (z06 hr)
theorem z89 {op : CmpOp} {g : D -> D -> Option D} {r : R2} (ho : OpR X (compareOp op) r) (hr : ∀ σ H Q, tD X.K (e2 g fa fb) σ H Q -> tOp r (tD X.K fa) (tD X.K fb) σ H Q) (ha : PD X a fa) (hb : PD X b fb) (hm : behindInMarks op b = false) :
    PD X (.Compare a [op] [b] pos) (e2 g fa fb) := PE.imp (z3c ho ha hb hm) hr
@[simp] noncomputable def dLt : D -> D -> Option D := gI fun i j => some (.bl (decide (i < j)))
@[simp] noncomputable def dLe : D -> D -> Option D := gI fun i j => some (.bl (decide (i <= j)))
@[simp] noncomputable def dGt : D -> D -> Option D := gI fun i j => some (.bl (decide (j < i)))
@[simp] noncomputable def dGe : D -> D -> Option D := gI fun i j => some (.bl (decide (j <= i)))
theorem hLt {K : PySem.W.Frag} : ∀ σ H Q, tD K (e2 dLt fa fb) σ H Q -> tOp (rI0 fun i j => .bl (decide (i < j))) (tD K fa) (tD K fb) σ H Q := x7e fun i j d h => by cases h; rfl
theorem hGt {K : PySem.W.Frag} : ∀ σ H Q, tD K (e2 dGt fa fb) σ H Q -> tOp (rI0 fun i j => .bl (decide (j < i))) (tD K fa) (tD K fb) σ H Q := x7e fun i j d h => by cases h; rfl
theorem hGe {K : PySem.W.Frag} : ∀ σ H Q, tD K (e2 dGe fa fb) σ H Q -> tOp (rI0 fun i j => .bl (decide (j <= i))) (tD K fa) (tD K fb) σ H Q := x7e fun i j d h => by cases h; rfl
theorem z63 (ha : PD X a fa) (hb : PD X b fb) : PDT X (.Compare a [.Lt] [b] pos) (x37 (e2 dLt fa fb)) := x85 z56 hLt ha hb (y16 _)
theorem z81 (ha : PD X a fa) (hb : PD X b fb) : PDT X (.Compare a [.Gt] [b] pos) (x37 (e2 dGt fa fb)) := x85 z9f hGt ha hb (y16 _)
theorem z75 (ha : PD X a fa) (hb : PD X b fb) : PDT X (.Compare a [.GtE] [b] pos) (x37 (e2 dGe fa fb)) := x85 z9s hGe ha hb (y16 _)
@[simp] noncomputable def x4t (g : x29) : x29 := fun ρ => match g ρ with
  | some (b, ρ1) => some (!b, ρ1)
  | none => none
theorem z2g (ha : PDT X a ga) : PDT X (.UnaryOp .Not a pos) (x4t ga) := PT.imp (z7y ha) fun σ H Q hh0 => by
  obtain ⟨ρ, w, t, b, ρ', gd, ee, k⟩ := hh0
  unfold x4t at ee
  split at ee
  · rename_i b' ρ1 h1
    cases ee
    exact ⟨ρ, w, t, b', _, gd, h1, fun H1 w1 g1 go1 => k H1 w1 g1 go1⟩
  · cases ee
@[simp] noncomputable def y2v (g h : x29) : x29 := fun ρ => match g ρ with
  | some (b, ρ1) => if b = true then h ρ1 else some (false, ρ1)
  | none => none
@[simp] noncomputable def y8v (g h : x29) : x29 := fun ρ => match g ρ with
  | some (b, ρ1) => if b = true then some (true, ρ1) else h ρ1
  | none => none
variable {x2b : List Expr}
theorem y9u (ha : PDT X a ga) : PDW X (.BoolOp .And [a] pos) ga := z4j ha
theorem z3n (ha : PDT X a ga) : PDW X (.BoolOp .Or [a] pos) ga := z59 ha
theorem z4h (ha : PDT X a ga) (hb : PDW X (.BoolOp .And (b :: x2b) pos) gb) : PDW X (.BoolOp .And (a :: b :: x2b) pos) (y2v ga gb) := PW.imp (z7d ha hb) fun σ H Q hh0 => by
  obtain ⟨ρ, w, t, b, ρ', gd, ee, k⟩ := hh0
  unfold y2v at ee
  split at ee
  · rename_i b' ρ1 h1
    refine ⟨ρ, w, t, b', ρ1, gd, h1, fun H1 w1 g1 go1 => ?_⟩
    split at ee
    · rename_i hb; rw [if_pos hb]
      exact ⟨ρ1, w1, t, b, ρ', g1, ee, fun H2 w2 g2 go2 => k H2 w2 g2 (go1.trans go2)⟩
    · rename_i hb; rw [if_neg hb]
      cases ee
      exact k H1 w1 g1 go1
  · cases ee
theorem z7u (ha : PDT X a ga) (hb : PDW X (.BoolOp .Or (b :: x2b) pos) gb) : PDW X (.BoolOp .Or (a :: b :: x2b) pos) (y8v ga gb) := PW.imp (z9g ha hb) fun σ H Q hh0 => by
  obtain ⟨ρ, w, t, b, ρ', gd, ee, k⟩ := hh0
  unfold y8v at ee
  split at ee
  · rename_i b' ρ1 h1
    refine ⟨ρ, w, t, b', ρ1, gd, h1, fun H1 w1 g1 go1 => ?_⟩
    split at ee
    · rename_i hb; rw [if_pos hb]
      cases ee
      exact k H1 w1 g1 go1
    · rename_i hb; rw [if_neg hb]
      exact ⟨ρ1, w1, t, b, ρ', g1, ee, fun H2 w2 g2 go2 => k H2 w2 g2 (go1.trans go2)⟩
  · cases ee
@[simp] noncomputable def eIf (g : x29) (fa fb : Den) : Den := fun ρ => match g ρ with
  | some (b, ρ1) => if b = true then fa ρ1 else fb ρ1
  | none => none
theorem z0j (hc : PDT X c gc) (ha : PD X a fa) (hb : PD X b fb) : PD X (.IfExp c a b pos) (eIf gc fa fb) := PE.imp (y94 hc ha hb) fun σ H Q hh0 => by
  obtain ⟨ρ, w, t, r', q, ρ', gd, ee, k⟩ := hh0
  unfold eIf at ee
  split at ee
  · rename_i b' ρ1 h1
    refine ⟨ρ, w, t, b', ρ1, gd, h1, fun H1 w1 g1 go1 => ?_⟩
    split at ee
    · rename_i hb; rw [if_pos hb]
      exact ⟨ρ1, w1, t, r', q, ρ', g1, ee, fun v H2 w2 F g2 go2 => k v H2 w2 F g2 (go1.trans go2)⟩
    · rename_i hb; rw [if_neg hb]
      exact ⟨ρ1, w1, t, r', q, ρ', g1, ee, fun v H2 w2 F g2 go2 => k v H2 w2 F g2 (go1.trans go2)⟩
  · cases ee
end
inductive Out where
  | nx (ρ : Rho) | rt (d : D) (q : Nat) | bk (ρ : Rho) | ct (ρ : Rho)
noncomputable abbrev x1b := Rho -> Option Out
noncomputable def y04 (K : PySem.W.Frag) (Dn : Ends) (n : Nat) (H : Hp) (w : Wn) : Out -> Prop
  | .nx ρ' => ∀ σ' H' w', σ'.length = n -> Good K ρ' σ' H' w' 0 -> Go H w H' w' -> Dn.nx σ' H'
  | .bk ρ' => ∀ σ' H' w', σ'.length = n -> Good K ρ' σ' H' w' 0 -> Go H w H' w' -> Dn.bk σ' H'
  | .ct ρ' => ∀ σ' H' w', σ'.length = n -> Good K ρ' σ' H' w' 0 -> Go H w H' w' -> Dn.ct σ' H'
  | .rt d q => ∀ v H' w' F, WL w' H' -> Go H w H' w' -> Rep K H' w' (.t 0) q d v F -> Dn.rt v H'
noncomputable def tDS (K : PySem.W.Frag) (f : x1b) : TS := fun Dn σ H => ∃ ρ w o, Good K ρ σ H w 0 /\ f ρ = some o /\ y04 K Dn σ.length H w o
theorem PS.imp {X : Cx} {e : Stmt} {t t' : TS} (h : PS X e t) (i : ∀ D σ H, t' D σ H -> t D σ H) : PS X e t' := fun pins s σ H D I q => h pins s σ H D I (i D σ H q)
theorem PSs.imp {X : Cx} {e : List Stmt} {t t' : TS} (h : PSs X e t) (i : ∀ D σ H, t' D σ H -> t D σ H) : PSs X e t' := fun pins s σ H D I q => h pins s σ H D I (i D σ H q)
noncomputable abbrev PDS (X : Cx) (st : Stmt) (f : x1b) : Prop := PS X st (tDS X.K f)
noncomputable abbrev y6q (X : Cx) (st : List Stmt) (f : x1b) : Prop := PSs X st (tDS X.K f)
@[simp] noncomputable def x8u : x1b := fun ρ => some (.nx ρ)
@[simp] noncomputable def x13 (f g : x1b) : x1b := fun ρ => match f ρ with
  | some (.nx ρ1) => g ρ1
  | o => o
theorem y04.trans {K : PySem.W.Frag} {Dn : Ends} {n : Nat} {H H1 : Hp} {w w1 : Wn} (go : Go H w H1 w1) : ∀ {o : Out}, y04 K Dn n H w o -> y04 K Dn n H1 w1 o
  | .nx _, h => fun σ' H' w' e g go' => h σ' H' w' e g (go.trans go')
  | .bk _, h => fun σ' H' w' e g go' => h σ' H' w' e g (go.trans go')
  | .ct _, h => fun σ' H' w' e g go' => h σ' H' w' e g (go.trans go')
  | .rt _ _, h => fun v H' w' F wl go' => h v H' w' F wl (go.trans go')
section
variable {X : Cx} {a b c e : Expr} {fa fb fc f : Den} {ga gb gc : x29} {pos : Pos} {st : Stmt} {x2b sa sb : List Stmt} {s s' : x1b}
theorem z3y : y6q X [] x8u := PSs.imp z32 fun D σ H hh0 => by
  obtain ⟨ρ, w, o, g, ee, k⟩ := hh0
  cases ee
  exact k σ H w rfl g Go.refl
theorem z0i (h1 : PDS X st s) (h2 : y6q X x2b s') : y6q X (st :: x2b) (x13 s s') := PSs.imp (z0a h1 h2) fun D σ H hh0 => by
  obtain ⟨ρ, w, o, g, ee, k⟩ := hh0
  unfold x13 at ee
  split at ee
  · rename_i ρ1 h1
    exact ⟨ρ, w, .nx ρ1, g, h1, fun σ' H' w' e g' go' => ⟨ρ1, w', o, g', ee, by rw [e]; exact k.trans go'⟩⟩
  · rename_i hne
    refine ⟨ρ, w, o, g, ee, ?_⟩
    cases o with
    | nx ρ1 => exact absurd ee (hne ρ1)
    | bk ρ1 => exact k
    | ct ρ1 => exact k
    | rt d q => exact k
theorem z2i (h1 : PDS X st s) : y6q X [st] s := z2q h1
@[simp] noncomputable def x3g (f : Den) : x1b := fun ρ => match f ρ with
  | some (d, q, _) => some (.rt d q)
  | none => none
theorem z4n (h : PD X e f) : PDS X (.Return (some e) pos) (x3g f) := PS.imp (z71 h) fun D σ H hh0 => by
  obtain ⟨ρ, w, o, g, ee, k⟩ := hh0
  unfold x3g at ee
  split at ee
  · rename_i d q ρ1 h1
    cases ee
    exact ⟨ρ, w, 0, d, q, ρ1, g, h1, fun v H' w' F g' go' r => k v H' w' F g'.wl go' r⟩
  · cases ee
@[simp] noncomputable def sIf (g : x29) (s s' : x1b) : x1b := fun ρ => match g ρ with
  | some (b, ρ1) => if b = true then s ρ1 else s' ρ1
  | none => none
theorem z6k (hc : PDT X c gc) (ha : y6q X sa s) (hb : y6q X sb s') : PDS X (.If c sa sb pos) (sIf gc s s') := PS.imp (z9m hc ha hb) fun D σ H hh0 => by
  obtain ⟨ρ, w, o, g, ee, k⟩ := hh0
  unfold sIf at ee
  split at ee
  · rename_i b' ρ1 h1
    refine ⟨ρ, w, 0, b', ρ1, g, h1, fun H1 w1 g1 go1 => ?_⟩
    split at ee
    · rename_i hb; rw [if_pos hb]
      exact ⟨ρ1, w1, o, g1, ee, k.trans go1⟩
    · rename_i hb; rw [if_neg hb]
      exact ⟨ρ1, w1, o, g1, ee, k.trans go1⟩
  · cases ee
noncomputable def x80 (t i : Nat) (w : Wn) : Wn := fun a => if w a = some (.t t) then some (.s i) else if w a = some (.s i) then none else w a
theorem Good.set {K : PySem.W.Frag} {ρ : Rho} {σ : St} {H : Hp} {w : Wn} {i q : Nat} {d : D} {v : V} {F : List Addr} (g : Good K ρ σ H w 1) (hi : i < σ.length) (r : Rep K H w (.t 0) q d v F) :
    Good K (ρ.set i (some (d, q))) (σ.set i (some v)) H (x80 0 i w) 0 /\ ∀ H₀ w₀, Go H₀ w₀ H w -> (∀ a j, w₀ a = some (.t j) -> j < 0) -> Go H₀ w₀ H (x80 0 i w) := by
  have mN : ∀ a, w a = none -> x80 0 i w a = none := fun a e => by unfold x80; rw [e]; rfl
  have mT : ∀ a, w a = some (.t 0) -> x80 0 i w a = some (.s i) := fun a e => by unfold x80; rw [if_pos e]
  have mS : ∀ a j, w a = some (.s j) -> j ≠ i -> x80 0 i w a = some (.s j) := fun a j e n => by
    unfold x80
    rw [if_neg (by rw [e]; exact fun z => nomatch z), if_neg (by rw [e]; intro z; cases z; exact n rfl)]
    exact e
  have mF : ∀ a, w a = some .f -> x80 0 i w a = some .f := fun a e => by
    unfold x80
    rw [if_neg (by rw [e]; exact fun z => nomatch z), if_neg (by rw [e]; exact fun z => nomatch z)]
    exact e
  have mI : ∀ a o, x80 0 i w a = some o -> (w a = some (.t 0) /\ o = .s i) \/ (w a = some o /\ o ≠ .s i /\ o ≠ .t 0) := fun a o e => by
    unfold x80 at e
    split at e
    · cases e; exact .inl ⟨by assumption, rfl⟩
    · rename_i n1
      split at e
      · cases e
      · rename_i n2; exact .inr ⟨e, fun z => n2 (by rw [e, z]), fun z => n1 (by rw [e, z])⟩
  have st : x8k H w H (x80 0 i w) := fun a x h n => ⟨h, mN a n⟩
  refine ⟨⟨fun a o e => ?_, fun a j e => ?_, fun a j e => ?_, by rw [List.length_set, List.length_set]; exact g.len, fun j d' q' e' => ?_⟩, fun H₀ w₀ go hw => ⟨fun a x h n => ⟨(go.stab a x h n).1, mN a (go.stab a x h n).2⟩, fun a o e n => ?_⟩⟩
  · rcases mI a o e with ⟨z, _⟩ | ⟨z, _⟩
    · exact g.wl a _ z
    · exact g.wl a _ z
  · rw [List.length_set]
    rcases mI a _ e with ⟨_, z⟩ | ⟨z, _⟩
    · cases z; exact hi
    · exact g.ws a j z
  · rcases mI a _ e with ⟨_, z⟩ | ⟨z, _, n⟩
    · cases z
    · have := g.wt a j z
      have : j = 0 := by omega
      subst this
      exact absurd rfl n
  · by_cases hj : i = j
    · subst hj
      rw [List.getElem?_set_self (by rw [g.len]; exact hi)] at e'
      cases e'
      exact ⟨v, F, List.getElem?_set_self hi, Rep.go g.wl st r fun a m => ⟨rfl, mT a (r.owns a m)⟩⟩
    · rw [List.getElem?_set_ne hj] at e'
      obtain ⟨v', F', h1, h2⟩ := g.slot j d' q' e'
      exact ⟨v', F', by rw [List.getElem?_set_ne hj]; exact h1, Rep.go g.wl st h2 fun a m => ⟨rfl, mS a j (h2.owns a m) (fun z => hj z.symm)⟩⟩
  · obtain ⟨h1, h2⟩ := go.keep a o e n
    refine ⟨h1, ?_⟩
    cases o with
    | s j => exact absurd rfl (n j)
    | f => exact mF a h2
    | t j => exact absurd (hw a j e) (Nat.not_lt_zero _)
@[simp] noncomputable def x1p (i : Nat) (f : Den) : x1b := fun ρ => match f ρ with
  | some (d, q, ρ1) => some (.nx (ρ1.set i (some (d, q))))
  | none => none
theorem y86 {K : PySem.W.Frag} {i : Nat} {D : Ends} {σ : St} {H : Hp} {te : TE} (hi : i < σ.length) (he : ∀ Q, tD K f σ H Q -> te σ H Q) (h : tDS K (x1p i f) D σ H) : te σ H fun x H1 => D.nx (σ.set i (some x)) H1 := by
  obtain ⟨ρ, w, o, g, ee, k⟩ := h
  unfold x1p at ee
  split at ee
  · rename_i d q ρ1 h1
    cases ee
    refine he _ ⟨ρ, w, 0, d, q, ρ1, g, h1, fun v H' w' F g' go' r => ?_⟩
    obtain ⟨a1, a2⟩ := g'.set hi r
    exact k _ _ _ (by rw [List.length_set]) a1 (a2 _ _ go' g.wt)
  · cases ee
theorem z4y {i : Nat} {x : Str} {pos' : Pos} (hN : X.N.Nodup) (hi : X.N[i]? = some x) (hx : Loc X.env.scope x) (he : PD X e f) (hs : swapsWith e (some (.Name x pos')) pos.line X.env = pure false := by rfl) (hf : X.fn x = true \/ X.env.scope.names.lookup x = some .local := by first | exact .inl rfl | exact .inr rfl) :
    PDS X (.Assign [.Name x pos'] e pos) (x1p i f) := by
  intro pins s σ H D I h
  have hl : i < σ.length := by rw [I.len]; exact (List.getElem?_eq_some_iff.mp hi).1
  exact z60 (te := tD X.K f) hN hi hx he hs hf pins s σ H D I (y86 hl (fun _ z => z) h)
@[simp] noncomputable def x3f (f : Den) : x1b := fun ρ => match f ρ with
  | some (_, _, ρ1) => some (.nx ρ1)
  | none => none
theorem z05 (he : PD X e f) (hs : swapsWith e none pos.line X.env = pure false := by rfl) : PDS X (.Expr e pos) (x3f f) := PS.imp (z2x he hs) fun D σ H hh0 => by
  obtain ⟨ρ, w, o, g, ee, k⟩ := hh0
  unfold x3f at ee
  split at ee
  · rename_i d q ρ1 h1
    cases ee
    exact ⟨ρ, w, 0, d, q, ρ1, g, h1, fun v H' w' F g' go' r => k σ H' (x20 0 w') rfl g'.drop (go'.drop g.wt)⟩
  · cases ee
end
structure ItOk (K : PySem.W.Frag) (J : It) (ds : List D) (P : Hp -> Wn -> Prop) : Prop where
  go : ∀ i H w, P H w -> i < ds.length -> J.go i H
  yld : ∀ i H w x H' d, P H w -> WL w H -> ds[i]? = some d -> J.yld i H x H' -> (∀ a o, H a = some o -> H' a = some o) /\ Rep K H' w .f 0 d x [] /\ P H' w
  stop : ∀ H w, P H w -> J.stop ds.length H
  st : ∀ H w H' w', P H w -> WL w H -> x8k H w H' w' -> P H' w'
noncomputable abbrev y1s := Rho -> Option (List D × Rho)
noncomputable def tDI (K : PySem.W.Frag) (f : y1s) : TI := fun σ H R => ∃ ρ w t ds ρ', Good K ρ σ H w t /\ f ρ = some (ds, ρ') /\
  ∀ J P H' w', Good K ρ' σ H' w' t -> Go H w H' w' -> ItOk K J ds P -> P H' w' -> ds.length < sizeLine -> R J H'
theorem PI.imp {X : Cx} {tg e : Expr} {t t' : TI} (h : PI X tg e t) (i : ∀ σ H R, t' σ H R -> t σ H R) : PI X tg e t' := fun pins s σ H R I q => h pins s σ H R I (i σ H R q)
noncomputable abbrev PDI (X : Cx) (tg e : Expr) (f : y1s) : Prop := PI X tg e (tDI X.K f)
theorem It.list {K : PySem.W.Frag} {a : Addr} {vs : List V} {ds : List D} (hl : ds.length = vs.length) : ItOk K (Itl K a) ds fun H w => (KL K a vs \/ (Rd H a (.lst vs) /\ w a = none)) /\ Reps K H w .f 0 ds vs [] := by
  have sq : ∀ {H : Hp} {w : Wn}, KL K a vs \/ (Rd H a (.lst vs) /\ w a = none) -> SqL K H a vs := fun h => h.elim (fun z => z.sq) fun z => .inl z.1
  refine ⟨fun i H w p hi => ⟨vs, vs[i], sq p.1, by simp [hl ▸ hi]⟩, fun i H w x H' d p wl hd y => ?_, fun H w p => ⟨vs, sq p.1, by omega⟩, fun H w H' w' p wl st => ?_⟩
  · obtain ⟨rfl, hx⟩ := y
    obtain ⟨v, hv, rv⟩ := p.2.get hd
    have := hx vs (sq p.1)
    rw [hv] at this
    cases this
    exact ⟨fun _ _ e => e, rv, p⟩
  · refine ⟨?_, Reps.go wl st p.2 (fun _ z => nomatch z)⟩
    rcases p.1 with p | ⟨p, n⟩
    · exact .inl p
    · exact .inr (RdL.go st n p)
theorem It.tup {K : PySem.W.Frag} {a : Addr} {vs : List V} {ds : List D} (hl : ds.length = vs.length) : ItOk K (Itt K a) ds fun H w => SqT K H a vs /\ Reps K H w .f 0 ds vs [] :=
  ⟨fun i H w p hi => ⟨vs, vs[i], p.1, by simp [hl ▸ hi]⟩, fun i H w x H' d p wl hd y => by
    obtain ⟨rfl, hx⟩ := y
    obtain ⟨v, hv, rv⟩ := p.2.get hd
    have := hx vs p.1
    rw [hv] at this
    cases this
    exact ⟨fun _ _ e => e, rv, p⟩, fun H w p => ⟨vs, p.1, by omega⟩, fun H w H' w' p wl st => ⟨SqT.go wl st p.1, Reps.go wl st p.2 (fun _ z => nomatch z)⟩⟩
noncomputable def x8e (n : Nat) : List V := (List.range n).map fun i => .int (Int.ofNat i)
noncomputable def x1d (n : Nat) : List D := (List.range n).map fun i => .int (Int.ofNat i)
theorem x0z (n : Nat) : (x1d n).length = n := by simp [x1d]
theorem y13 (n : Nat) : (x8e n).length = n := by simp [x8e]
theorem It.range {K : PySem.W.Frag} {n : Nat} : ItOk K (Itr 0 n) (x1d n) fun _ _ => True := by
  refine ⟨fun i H w _ hi => by rw [x0z] at hi; exact hi, fun i H w x H' d _ _ hd y => ?_, fun H w _ => by rw [x0z]; exact Nat.le_refl _, fun _ _ _ _ _ _ _ => trivial⟩
  have hi : i < n := by have := (List.getElem?_eq_some_iff.mp hd).1; rw [x0z] at this; exact this
  have e : x = .int (0 + (i : Int)) := y.2
  have ed : d = .int (Int.ofNat i) := by
    have : (x1d n)[i]? = some (.int (Int.ofNat i)) := by simp [x1d, hi]
    rw [hd] at this
    exact Option.some.inj this
  obtain ⟨rfl, _⟩ := y
  subst ed
  rw [e, Int.zero_add]
  exact ⟨fun _ _ e => e, .int _, trivial⟩
theorem x77 {K : PySem.W.Frag} {H : Hp} {w : Wn} {o : Ow} : ∀ (ns : List Int), Reps K H w o 0 (ns.map D.int) (ns.map V.int) []
  | [] => .nil
  | n :: r => .cons (F := []) (G := []) (.int n) (x77 r) (fun _ z => nomatch z)
theorem y6d {K : PySem.W.Frag} {H : Hp} {w : Wn} {o : Ow} (n : Nat) : Reps K H w o 0 (x1d n) (x8e n) [] := by
  have := x77 (K := K) (H := H) (w := w) (o := o) ((List.range n).map Int.ofNat)
  rw [List.map_map, List.map_map] at this
  exact this
section
variable {X : Cx} {tg a b c e : Expr} {fa fb fc f : Den} {ga gb gc : x29} {pos p : Pos}
@[simp] noncomputable def x17 (g : x2a) : y1s := fun ρ => match g ρ with
  | some ([.int n], ρ1) => if -1000 <= n /\ n <= 1000 then some (x1d n.toNat, ρ1) else none
  | _ => none
theorem y6m {g : x2a} (hm : X.mg "range" = none) (ha : PDA X [a] g) (hg : Gl X "range" := by rfl) (hs : starEach [a] X.env = [(false, eval a X.env)] := by rfl) : PDI X tg (.Call (.Name "range" p) [a] [] pos) (x17 g) := PI.imp (y7q hg hm ha hs) fun σ H R hh0 => by
  obtain ⟨ρ, w, t, ds, ρ', gd, ee, k⟩ := hh0
  unfold x17 at ee
  split at ee
  · rename_i n ρ1 h1
    split at ee
    · rename_i hn
      cases ee
      refine ⟨ρ, w, t, [.int n], _, gd, h1, fun vs H1 w1 g1 go1 r1 => ?_⟩
      have hv : vs = [.int n] := by
        have l := r1.length
        match vs, l with
        | [v], _ =>
          obtain ⟨v', h1, h2⟩ := r1.get (i := 0) rfl
          cases h1
          rw [x3v h2]
      subst hv
      refine ⟨n, rfl, by omega, by omega, k _ _ H1 w1 g1 go1 It.range trivial ?_⟩
      rw [x0z]
      exact x4a (by omega)
    · cases ee
  · cases ee
noncomputable def j16 (K : PySem.W.Frag) (tl : TE) : TI := fun σ H R => tl σ H fun x H1 => ∃ a, x = .ref a /\ (((∃ xs, SqL K H1 a xs) /\ R (Itl K a) H1) \/ ((∃ xs, SqT K H1 a xs) /\ R (Itt K a) H1))
theorem z7o {l : Expr} {tl : TE} (hl : PE X l tl) : PI X tg l (j16 X.K tl) := by
  intro pins s σ H R I h
  refine thn (hl pins s σ H _ I h) fun v s1 ⟨x, H1, I1, r1, q1⟩ => ?_
  obtain ⟨a, e, q⟩ := q1
  subst e
  cases r1
  rcases q with ⟨⟨xs, hq⟩, q⟩ | ⟨⟨xs, hq⟩, q⟩
  · obtain ⟨its, rv, p, hz⟩ := I1.list hq
    refine wpAny_pyIter_list p.isList ?_
    refine ⟨s1.heap.objs.size, [s1.heap.objs.size], _, _, H1, rfl, I1.kept (t' := s1.toks) fun b o e => Heap.get?_push_of_some _ e, y6r a _, ⟨_, Heap.get?_push_size _ rfl, rfl, rfl⟩, fun b hb => ?_, q⟩
    have e : b = s1.heap.objs.size := by simpa using hb
    subst e
    exact I1.fpOk (Nat.le_refl _) (I1.hok.fresh (Nat.le_refl _))
  · obtain ⟨its, rv, p, hz⟩ := I1.tuple hq
    refine wpAny_pyIter_tuple (show s1.heap.IsTuple a its.toArray from p) ?_
    refine ⟨s1.heap.objs.size, [s1.heap.objs.size], _, _, H1, rfl, I1.kept (t' := s1.toks) fun b o e => Heap.get?_push_of_some _ e, y6e a _, ⟨_, Heap.get?_push_size _ rfl, rfl, rfl⟩, fun b hb => ?_, q⟩
    have e : b = s1.heap.objs.size := by simpa using hb
    subst e
    exact I1.fpOk (Nat.le_refl _) (I1.hok.fresh (Nat.le_refl _))
@[simp] noncomputable def x5d (f : Den) : y1s := fun ρ => match f ρ with
  | some (.lst ds, _, ρ1) => if ds.length <= 1000 then some (ds, ρ1) else none
  | some (.tup ds, _, ρ1) => if ds.length <= 1000 then some (ds, ρ1) else none
  | _ => none
theorem z2t (ha : PD X a fa) : PDI X tg a (x5d fa) := PI.imp (z7o ha) fun σ H R hh0 => by
  obtain ⟨ρ, w, t, ds, ρ', gd, ee, k⟩ := hh0
  unfold x5d at ee
  split at ee
  · rename_i ds' q ρ1 h1
    split at ee
    · rename_i hl
      cases ee
      refine ⟨ρ, w, t, .lst ds, q, ρ', gd, h1, fun v H1 w1 F g1 go1 r1 => ?_⟩
      have r0 := r1.drop (o := .f) (Nat.le_refl t)
      cases r0 with
      | kl h r => exact ⟨_, rfl, .inl ⟨⟨_, h.sq⟩, k _ _ H1 (x20 t w1) g1.drop (go1.drop gd.wt) (It.list r.length) ⟨.inl h, r⟩ (x4a hl)⟩⟩
      | shr h n r => exact ⟨_, rfl, .inl ⟨⟨_, .inl h⟩, k _ _ H1 (x20 t w1) g1.drop (go1.drop gd.wt) (It.list r.length) ⟨.inr ⟨h, n⟩, r⟩ (x4a hl)⟩⟩
    · cases ee
  · rename_i ds' q ρ1 h1
    split at ee
    · rename_i hl
      cases ee
      refine ⟨ρ, w, t, .tup ds, q, ρ', gd, h1, fun v H1 w1 F g1 go1 r1 => ?_⟩
      have r0 := r1.drop (o := .f) (Nat.le_refl t)
      cases r0 with
      | tup h r => exact ⟨_, rfl, .inr ⟨⟨_, SqT.of h⟩, k _ _ H1 (x20 t w1) g1.drop (go1.drop gd.wt) (It.tup r.length) ⟨SqT.of h, r⟩ (x4a hl)⟩⟩
    · cases ee
  · cases ee
end
noncomputable abbrev x5m := D -> Rho -> Option Rho
noncomputable def tDG (K : PySem.W.Frag) (b : Nat) (pt : x5m) : TG := fun v σ H Q => ∃ d ρ w t ρ', Good K ρ σ H w t /\ Rep K H w .f 0 d v [] /\ pt d ρ = some ρ' /\ ∀ σ' H' w', σ'.length = σ.length -> (∀ i, i < b -> σ'[i]? = σ[i]?) -> Good K ρ' σ' H' w' t -> Go H w H' w' -> Q σ' H'
theorem PG.imp {X : Cx} {tg : Expr} {t t' : TG} (h : PG X tg t) (i : ∀ v σ H Q, t' v σ H Q -> t v σ H Q) : PG X tg t' := fun pins s σ H v u Q I r q => h pins s σ H v u Q I r (i v σ H Q q)
noncomputable abbrev PDG (X : Cx) (b : Nat) (tg : Expr) (pt : x5m) : Prop := PG X tg (tDG X.K b pt)
@[simp] noncomputable def x0m (i : Nat) : x5m := fun d ρ => if i < ρ.length then some (ρ.set i (some (d, y0h d))) else none
theorem Good.setV {K : PySem.W.Frag} {ρ : Rho} {σ : St} {H : Hp} {w : Wn} {t i : Nat} {d : D} {v : V} (g : Good K ρ σ H w t) (hi : i < σ.length) (r : Rep K H w .f 0 d v []) :
    Good K (ρ.set i (some (d, y0h d))) (σ.set i (some v)) H (x68 i w) t /\ Go H w H (x68 i w) := by
  have st : x8k H w H (x68 i w) := fun a x h n => ⟨h, x5v n⟩
  refine ⟨⟨fun a o h => g.wl a o (x3x h).1, fun a j h => by rw [List.length_set]; exact g.ws a j (x3x h).1, fun a j h => g.wt a j (x3x h).1, by rw [List.length_set, List.length_set]; exact g.len, fun j d' q' e' => ?_⟩, ⟨st, fun a o h n => ⟨rfl, x91 h (n i)⟩⟩⟩
  by_cases hj : i = j
  · subst hj
    rw [List.getElem?_set_self (by rw [g.len]; exact hi)] at e'
    cases e'
    exact ⟨v, [], List.getElem?_set_self hi, (Rep.go g.wl st r (fun _ z => nomatch z) : Rep K H (x68 i w) (.s i) 0 d v []).dep⟩
  · rw [List.getElem?_set_ne hj] at e'
    obtain ⟨v', F, h1, h2⟩ := g.slot j d' q' e'
    exact ⟨v', F, by rw [List.getElem?_set_ne hj]; exact h1, Rep.go g.wl st h2 fun a m => ⟨rfl, x91 (h2.owns a m) (fun z => hj (by cases z; rfl))⟩⟩
theorem z1d {X : Cx} {b i : Nat} {x : Str} {pos : Pos} (hb : b <= i) (hN : X.N.Nodup) (hi : X.N[i]? = some x) (hx : Loc X.env.scope x) (hf : X.fn x = true \/ X.env.scope.names.lookup x = some .local := by first | exact .inl rfl | exact .inr rfl) : PDG X b (.Name x pos) (x0m i) := PG.imp (z3j hN hi hx hf) fun v σ H Q hh0 => by
  obtain ⟨d, ρ, w, t, ρ', g, r, e, k⟩ := hh0
  unfold x0m at e
  split at e
  · rename_i hl
    cases e
    obtain ⟨a1, a2⟩ := g.setV (by rw [<- g.len]; exact hl) r
    exact k _ _ _ (by rw [List.length_set]) (fun j hj => List.getElem?_set_ne (by omega)) a1 a2
  · cases e
noncomputable def x8z (pt : x5m) (body : x1b) : List D -> Rho -> Option Out
  | [], ρ => some (.nx ρ)
  | d :: ds, ρ => match pt d ρ with
    | none => none
    | some ρ1 => match body ρ1 with
      | some (.nx ρ2) => x8z pt body ds ρ2
      | some (.ct ρ2) => x8z pt body ds ρ2
      | some (.bk ρ2) => some (.nx ρ2)
      | o => o
@[simp] noncomputable def x6k (it : y1s) (pt : x5m) (body : x1b) : x1b := fun ρ => match it ρ with
  | some (ds, ρ1) => x8z pt body ds ρ1
  | none => none
theorem Reps.go0 {K : PySem.W.Frag} {H H' : Hp} {w w' : Wn} {ds : List D} {vs : List V} (r : Reps K H w .f 0 ds vs []) (wl : WL w H) (st : x8k H w H' w') : Reps K H' w' .f 0 ds vs [] := Reps.go wl st r (fun _ z => nomatch z)
theorem Rep.go0 {K : PySem.W.Frag} {H H' : Hp} {w w' : Wn} {ds : D} {vs : V} (r : Rep K H w .f 0 ds vs []) (wl : WL w H) (st : x8k H w H' w') : Rep K H' w' .f 0 ds vs [] := Rep.go wl st r (fun _ z => nomatch z)
theorem Reps.drop0 {K : PySem.W.Frag} {H : Hp} {w : Wn} : ∀ {ds : List D} {vs : List V} (i : Nat), Reps K H w .f 0 ds vs [] -> Reps K H w .f 0 (ds.drop i) (vs.drop i) []
  | _, _, 0, r => r
  | ds, vs, i + 1, r => by
    generalize hF : ([] : List Addr) = F at r
    cases r with
    | nil => exact .nil
    | cons r s _ =>
      have h2 := s.zero
      have h1 := r.zero
      subst h2
      subst h1
      exact Reps.drop0 i s
theorem Good.more {K : PySem.W.Frag} {ρ : Rho} {σ : St} {H H' : Hp} {w : Wn} {t : Nat} (g : Good K ρ σ H w t) (h : ∀ a o, H a = some o -> H' a = some o) : Good K ρ σ H' w t /\ Go H w H' w := by
  have st : x8k H w H' w := fun a x e n => ⟨h a x e, n⟩
  have kp : ∀ a o, w a = some o -> H' a = H a := fun a o e => by
    obtain ⟨vs, q⟩ := g.wl a o e
    rw [q, h a _ q]
  refine ⟨⟨fun a o e => ?_, g.ws, g.wt, g.len, fun i d q e => ?_⟩, st, fun a o e _ => ⟨kp a o e, e⟩⟩
  · obtain ⟨vs, q⟩ := g.wl a o e
    exact ⟨vs, h a _ q⟩
  · obtain ⟨v, F, h1, h2⟩ := g.slot i d q e
    exact ⟨v, F, h1, Rep.go g.wl st h2 fun a m => ⟨kp a _ (h2.owns a m), h2.owns a m⟩⟩
theorem z2e {X : Cx} {tg iter : Expr} {body : List Stmt} {it : y1s} {pt : x5m} {s : x1b} {pos : Pos} (hp : PassesOwn (model X.prog X.w) X.A X.env X.xe) (hc : X.calm = true) (hi : PDI X tg iter it) (hg : PDG X 0 tg pt) (hb : y6q X body s)
    (hs : ∀ x, foldedSetIterable iter X.env x = pure x := by intro _; rfl) : PDS X (.For tg iter body [] pos) (x6k it pt s) := PS.imp (z7e hp hc hi hg hb hs) fun D σ H hh0 => by
  obtain ⟨ρ, w, o, g, ee, k⟩ := hh0
  unfold x6k at ee
  split at ee
  · rename_i ds ρ1 h1
    refine ⟨ρ, w, 0, ds, ρ1, g, h1, fun J P H1 w1 g1 go1 ok p1 hl => ?_⟩
    refine ⟨fun i m σ' H' => m = ds.length - i /\ i <= ds.length /\ σ'.length = σ.length /\ ∃ ρ' w', Good X.K ρ' σ' H' w' 0 /\ P H' w' /\ x8z pt s (ds.drop i) ρ' = some o /\ y04 X.K D σ.length H' w' o,
      ⟨ds.length, by simp, Nat.zero_le _, rfl, ρ1, w1, g1, p1, ee, k.trans go1⟩, ?_⟩
    rintro i m σ' H' ⟨rfl, hile, hσ, ρ', w', g', p', e', k'⟩
    by_cases hlt : i < ds.length
    · refine .inr ⟨ok.go i H' w' p' hlt, fun σ2 H2 => ds.length - (i + 1) = ds.length - (i + 1) /\ i + 1 <= ds.length /\ σ2.length = σ.length /\ ∃ ρ2 w2, Good X.K ρ2 σ2 H2 w2 0 /\ P H2 w2 /\ x8z pt s (ds.drop (i + 1)) ρ2 = some o /\ y04 X.K D σ.length H2 w2 o,
        fun σ2 H2 n2 => ⟨ds.length - (i + 1), by omega, n2⟩, fun x H2 hy => ?_⟩
      obtain ⟨mo, rx, p2⟩ := ok.yld i H' w' x H2 ds[i] p' g'.wl (List.getElem?_eq_getElem hlt) hy
      obtain ⟨g2, go2⟩ := g'.more mo
      have ed : ds.drop i = ds[i] :: ds.drop (i + 1) := List.drop_eq_getElem_cons hlt
      rw [ed] at e'
      unfold x8z at e'
      split at e'
      · cases e'
      · rename_i ρ3 h3
        refine ⟨ds[i], ρ', w', 0, ρ3, g2, rx, h3, fun σ4 H4 w4 l4 _ g4 go4 => ?_⟩
        have p4 := ok.st _ _ _ _ p2 g2.wl go4.stab
        have nx : ∀ {ρ5 : Rho}, x8z pt s (ds.drop (i + 1)) ρ5 = some o -> ∀ σ5 H5 w5, σ5.length = σ4.length -> Good X.K ρ5 σ5 H5 w5 0 -> Go H4 w4 H5 w5 -> ds.length - (i + 1) = ds.length - (i + 1) /\ i + 1 <= ds.length /\ σ5.length = σ.length /\ ∃ ρ2 w2, Good X.K ρ2 σ5 H5 w2 0 /\ P H5 w2 /\ x8z pt s (ds.drop (i + 1)) ρ2 = some o /\ y04 X.K D σ.length H5 w2 o := fun {ρ5} e5 σ5 H5 w5 l5 g5 go5 =>
          ⟨rfl, hlt, by rw [l5, l4, hσ], ρ5, w5, g5, ok.st _ _ _ _ p4 g4.wl go5.stab, e5, k'.trans ((go2.trans go4).trans go5)⟩
        cases h6 : s ρ3 with
        | none => rw [h6] at e'; cases e'
        | some o6 =>
          rw [h6] at e'
          refine ⟨ρ3, w4, o6, g4, h6, ?_⟩
          cases o6 with
          | nx ρ5 => exact nx e'
          | ct ρ5 => exact nx e'
          | bk ρ5 =>
            cases e'
            exact fun σ5 H5 w5 l5 g5 go5 => k' σ5 H5 w5 (by rw [l5, l4, hσ]) g5 ((go2.trans go4).trans go5)
          | rt d q =>
            cases e'
            exact fun v H5 w5 F wl5 go5 r5 => k' v H5 w5 F wl5 ((go2.trans go4).trans go5) r5
    · have hi' : i = ds.length := Nat.le_antisymm hile (Nat.not_lt.mp hlt)
      subst hi'
      refine .inl ⟨ok.stop H' w' p', ?_⟩
      have ed : ds.drop ds.length = [] := by simp
      rw [ed] at e'
      cases e'
      exact k' σ' H' w' hσ g' Go.refl
  · cases ee
@[simp] noncomputable def x7u (n : Nat) (ds : List D) : Rho := ds.map (fun d => some (d, y0h d)) ++ List.replicate (n - ds.length) none
@[simp] noncomputable def fnD (n : Nat) (body : x1b) : List D -> Option (D × Nat) := fun ds => match body (x7u n ds) with
  | some (.rt d q) => some (d, q)
  | some (.nx _) => some (.non, 9)
  | _ => none
theorem y11 {K : PySem.W.Frag} {H : Hp} {w : Wn} {N : List Str} {ds : List D} {vs : List V} (hw : ∀ a o, w a = some o -> o = .f) (wl : WL w H) (r : Reps K H w .f 0 ds vs []) : Good K (x7u N.length ds) (y03 N vs) H w 0 := by
  refine ⟨wl, (fun a i e => by cases (hw a _ e)), (fun a i e => by cases (hw a _ e)), ?_, fun i d q e => ?_⟩
  · unfold x7u L2.y03
    rw [List.length_append, List.length_append, List.length_map, List.length_map, List.length_replicate, List.length_replicate, r.length]
  · unfold x7u at e
    by_cases hi : i < ds.length
    · rw [List.getElem?_append_left (by simpa using hi), List.getElem?_map] at e
      cases h : ds[i]? with
      | none => rw [h] at e; cases e
      | some d' =>
        rw [h] at e
        cases e
        obtain ⟨v, hv, rv⟩ := r.get h
        refine ⟨v, [], ?_, (rv.any wl : Rep K H w (.s i) 0 d v []).dep⟩
        unfold L2.y03
        rw [List.getElem?_append_left (by rw [List.length_map, <- r.length]; exact hi), List.getElem?_map, hv]
        rfl
    · rw [List.getElem?_append_right (by simpa using hi), List.getElem?_replicate] at e
      split at e <;> cases e
theorem z0n {K : PySem.W.Frag} {N : List Str} {n : Nat} {body : x1b} {vs : List V} {H : Hp} {Q : VK} {E : XK} (h : spD K n (fnD N.length body) vs H Q E) : tDS K body { nx := fun _ H' => Q .non H', rt := Q } (y03 N vs) H := by
  obtain ⟨hn, ds, w, r, q, hw, wl, rs, e, k⟩ := h
  unfold fnD at e
  split at e
  · rename_i d q' h1
    cases e
    exact ⟨_, w, _, y11 hw wl rs, h1, fun v H' w' F wl' go' r' => k v H' w' F go' wl' r'⟩
  · rename_i ρ' h1
    cases e
    exact ⟨_, w, _, y11 hw wl rs, h1, fun σ' H' w' _ g' go' => k .non H' w' [] go' g'.wl .non⟩
  · cases e
theorem z8j {P : Program} {wd : World} {K : PySem.W.Frag} {mg : Str -> Option Value} {base : Heap} {x qual : Str} {st : Stmt} {f : Addr} {fd : FuncData} {N ps : List Str} {k : Nat} {body : x1b} (F : Fun K x qual st f fd) (S : FnScope N ps (x0c st))
    (h : ∀ (cdv : Value) (A : Around) (outer : List Env) (s : Shared) (H : Hp) (E : XK), Room k (A.deeper (envOfC qual (x0c st) s.heap.objs.size f cdv)) -> y6q (y74 CX0 P wd K mg base N qual (x0c st) f cdv A outer s H E).nox (x3i st) body) :
    FnOk P wd K mg base CX0 (k + 1) f fd ps (spD K ps.length (fnD N.length body)) :=
  F.ok S (fun vs H Q E h => h.1) fun cdv A outer s H vs Q E hr hsp => ⟨_, h cdv A outer s H E hr, z0n hsp⟩
noncomputable def x5e (k : Nat) (pt : x5m) (tt : x29) (te : Den) (deep : Bool) : List D -> Rho -> Option (List D × Rho)
  | [], ρ => some ([], ρ)
  | d :: ds, ρ => match pt d (ρ ++ List.replicate k none) with
    | none => none
    | some ρ1 => match tt ρ1 with
      | none => none
      | some (b, ρ2) => if b = true then (match te ρ2 with
          | none => none
          | some (v, q, ρ3) => if deep = true /\ v.isL = true /\ q ≠ 1 then none else match x5e k pt tt te deep ds (ρ3.take ρ.length) with
            | none => none
            | some (vs, ρ4) => some (v :: vs, ρ4))
        else x5e k pt tt te deep ds (ρ2.take ρ.length)
@[simp] noncomputable def x33 (k : Nat) (it : y1s) (pt : x5m) (tt : x29) (te : Den) (deep : Bool) : Den := fun ρ => match it ρ with
  | some (ds, ρ1) => match x5e k pt tt te deep ds ρ1 with
    | some (vs, ρ2) => some (.lst vs, if deep = true then 2 else 1, ρ2)
    | none => none
  | none => none
@[simp] noncomputable def x2o : x29 := fun ρ => some (true, ρ)
theorem Good.ext {K : PySem.W.Frag} {ρ : Rho} {σ : St} {H : Hp} {w : Wn} {t : Nat} (g : Good K ρ σ H w t) (k : Nat) : Good K (ρ ++ List.replicate k none) (σ ++ List.replicate k none) H w t := by
  refine ⟨g.wl, fun a i e => by rw [List.length_append]; exact Nat.lt_of_lt_of_le (g.ws a i e) (Nat.le_add_right _ _), g.wt, by rw [List.length_append, List.length_append, List.length_replicate, List.length_replicate, g.len], fun i d q e => ?_⟩
  by_cases hi : i < ρ.length
  · rw [List.getElem?_append_left hi] at e
    obtain ⟨v, F, h1, h2⟩ := g.slot i d q e
    exact ⟨v, F, by rw [List.getElem?_append_left (by rw [<- g.len]; exact hi)]; exact h1, h2⟩
  · rw [List.getElem?_append_right (by omega), List.getElem?_replicate] at e
    split at e <;> cases e
noncomputable def x3j (n : Nat) (w : Wn) : Wn := fun a => match w a with
  | some (.s i) => if n <= i then none else some (.s i)
  | x => x
theorem y1d {n : Nat} {w : Wn} {a : Addr} (h : w a = none) : x3j n w a = none := by unfold x3j; rw [h]
theorem y3u {n : Nat} {w : Wn} {a : Addr} {i : Nat} (h : w a = some (.s i)) (hi : i < n) : x3j n w a = some (.s i) := by unfold x3j; rw [h]; exact if_neg (by omega)
theorem y3m {n : Nat} {w : Wn} {a : Addr} {o : Ow} (h : w a = some o) (hn : ∀ i, o ≠ .s i) : x3j n w a = some o := by
  unfold x3j; rw [h]
  cases o with
  | s i => exact absurd rfl (hn i)
  | t i => rfl
  | f => rfl
theorem x51 {n : Nat} {w : Wn} {a : Addr} {o : Ow} (h : x3j n w a = some o) : w a = some o /\ ∀ i, o = .s i -> i < n := by
  unfold x3j at h
  cases e : w a with
  | none => rw [e] at h; cases h
  | some o' =>
    rw [e] at h
    cases o' with
    | t i => cases h; exact ⟨rfl, fun i z => nomatch z⟩
    | f => cases h; exact ⟨rfl, fun i z => nomatch z⟩
    | s i =>
      dsimp only at h
      split at h
      · cases h
      · cases h; exact ⟨rfl, fun j z => by cases z; omega⟩
theorem Good.cut {K : PySem.W.Frag} {ρ : Rho} {σ τ : St} {H : Hp} {w : Wn} {t : Nat} (g : Good K ρ (σ ++ τ) H w t) : Good K (ρ.take σ.length) σ H (x3j σ.length w) t /\ Go H w H (x3j σ.length w) := by
  have st : x8k H w H (x3j σ.length w) := fun a x h n => ⟨h, y1d n⟩
  refine ⟨⟨fun a o e => g.wl a o (x51 e).1, fun a i e => (x51 e).2 i rfl, fun a i e => g.wt a i (x51 e).1, ?_, fun i d q e => ?_⟩, ⟨st, fun a o e n => ⟨rfl, y3m e n⟩⟩⟩
  · rw [List.length_take, g.len, List.length_append]
    omega
  · by_cases hi : i < σ.length
    · rw [List.getElem?_take_of_lt hi] at e
      obtain ⟨v, F, h1, h2⟩ := g.slot i d q e
      rw [List.getElem?_append_left hi] at h1
      exact ⟨v, F, h1, Rep.go g.wl st h2 fun a m => ⟨rfl, y3u (h2.owns a m) hi⟩⟩
    · rw [List.getElem?_take_eq_none (by omega)] at e
      cases e
theorem z9c {σ σ' τ : St} (l : σ'.length = (σ ++ τ).length) (h : ∀ i, i < σ.length -> σ'[i]? = (σ ++ τ)[i]?) : ∃ τ', σ' = σ ++ τ' /\ τ'.length = τ.length := by
  refine ⟨σ'.drop σ.length, ?_, by rw [List.length_drop, l, List.length_append]; omega⟩
  have e : σ'.take σ.length = σ := by
    apply List.ext_getElem?
    intro i
    by_cases hi : i < σ.length
    · rw [List.getElem?_take_of_lt hi, h i hi, List.getElem?_append_left hi]
    · rw [List.getElem?_take_eq_none (by omega), List.getElem?_eq_none (by omega)]
  conv => lhs; rw [<- List.take_append_drop σ.length σ', e]
noncomputable def dq (deep : Bool) : Nat := if deep = true then 1 else 0
noncomputable def x65 (deep : Bool) (t : Nat) (w : Wn) : Wn := fun a => if w a = some (.t (t + 1)) then (if deep = true then some (.t t) else none) else w a
theorem j0u {K : PySem.W.Frag} {ρ : Rho} {σ : St} {H : Hp} {w : Wn} {t q : Nat} {d : D} {v : V} {F : List Addr} {deep : Bool} (g : Good K ρ σ H w (t + 2)) (r : Rep K H w (.t (t + 1)) q d v F) (hq : ¬ (deep = true /\ d.isL = true /\ q ≠ 1)) :
    Good K ρ σ H (x65 deep t w) (t + 1) /\ (∃ F', Rep K H (x65 deep t w) (.t t) (dq deep) d v F' /\ ∀ a ∈ F', w a = some (.t (t + 1))) /\ x8k H w H (x65 deep t w) /\ (∀ a o, w a = some o -> o ≠ .t (t + 1) -> x65 deep t w a = some o) := by
  have hN : ∀ a, w a = none -> x65 deep t w a = none := fun a e => by unfold x65; rw [e]; rfl
  have hO : ∀ a o, w a = some o -> o ≠ .t (t + 1) -> x65 deep t w a = some o := fun a o e n => by
    unfold x65
    rw [if_neg (by rw [e]; exact fun z => n (Option.some.inj z))]
    exact e
  have hI : ∀ a o, x65 deep t w a = some o -> (w a = some (.t (t + 1)) /\ o = .t t) \/ (w a = some o /\ o ≠ .t (t + 1)) := fun a o e => by
    unfold x65 at e
    split at e
    · split at e
      · cases e; exact .inl ⟨by assumption, rfl⟩
      · cases e
    · rename_i n; exact .inr ⟨e, fun z => n (by rw [e, z])⟩
  have st : x8k H w H (x65 deep t w) := fun a x h n => ⟨h, hN a n⟩
  refine ⟨⟨fun a o e => ?_, fun a i e => ?_, fun a i e => ?_, g.len, fun i d' q' e' => ?_⟩, ?_, st, hO⟩
  · rcases hI a o e with ⟨z, _⟩ | ⟨z, _⟩ <;> exact g.wl a _ z
  · rcases hI a _ e with ⟨_, z⟩ | ⟨z, _⟩
    · cases z
    · exact g.ws a i z
  · rcases hI a _ e with ⟨_, z⟩ | ⟨z, n⟩
    · cases z; exact Nat.lt_succ_self _
    · have := g.wt a i z
      have : i ≠ t + 1 := fun z => n (by rw [z])
      omega
  · obtain ⟨v', F', h1, h2⟩ := g.slot i d' q' e'
    exact ⟨v', F', h1, Rep.go g.wl st h2 fun a m => ⟨rfl, hO a _ (h2.owns a m) (fun z => nomatch z)⟩⟩
  · cases deep with
    | false =>
      refine ⟨[], Rep.freeze hN r fun a m => ?_, fun _ z => nomatch z⟩
      unfold x65
      rw [if_pos (r.owns a m)]
      rfl
    | true =>
      have hT : ∀ a, w a = some (.t (t + 1)) -> x65 true t w a = some (.t t) := fun a e => by unfold x65; rw [if_pos e]; rfl
      cases hl : d.isL with
      | false =>
        obtain ⟨_, hr⟩ := r.nolist hl
        exact ⟨[], Rep.go g.wl st (hr 1) (fun _ z => nomatch z), fun _ z => nomatch z⟩
      | true =>
        have : q = 1 := by
          by_cases h : q = 1
          · exact h
          · exact absurd ⟨rfl, hl, h⟩ hq
        subst this
        exact ⟨F, Rep.go g.wl st r fun a m => ⟨rfl, hT a (r.owns a m)⟩, r.owns⟩
theorem z5r {K : PySem.W.Frag} {ρ : Rho} {σ : St} {H1 : Hp} {w1 : Wn} {t q : Nat} {p : Addr} {vs : List V} {ds : List D} {F : List Addr} (g : Good K ρ σ H1 w1 (t + 1)) (hp : H1 p = none) (r : Reps K H1 w1 (.t t) q ds vs F) :
    Good K ρ σ (upd H1 p (.lst vs)) (y8u p (.t t) w1) (t + 1) /\ Go H1 w1 (upd H1 p (.lst vs)) (y8u p (.t t) w1) /\ Rep K (upd H1 p (.lst vs)) (y8u p (.t t) w1) (.t t) (q + 1) (.lst ds) (.ref p) (p :: F) := by
  have ne : ∀ a x, H1 a = some x -> a ≠ p := fun a x e => x1f e hp
  have nw : ∀ a o, w1 a = some o -> a ≠ p := fun a o e => by obtain ⟨vs, q⟩ := g.wl a o e; exact ne a _ q
  have st : x8k H1 w1 (upd H1 p (.lst vs)) (y8u p (.t t) w1) := fun a x e n => ⟨by rw [x0q (ne a x e)]; exact e, by rw [x3s (ne a x e)]; exact n⟩
  refine ⟨⟨fun a o e => ?_, fun a i e => ?_, fun a i e => ?_, g.len, fun i d q e => ?_⟩, ⟨st, fun a o e _ => ⟨x0q (nw a o e), (x3s (nw a o e)).trans e⟩⟩, ?_⟩
  · by_cases h : a = p
    · subst h; exact ⟨vs, x23⟩
    · rw [x3s h] at e
      obtain ⟨us, q⟩ := g.wl a o e
      exact ⟨us, by rw [x0q h]; exact q⟩
  · by_cases h : a = p
    · subst h; rw [x4p] at e; cases e
    · rw [x3s h] at e; exact g.ws a i e
  · by_cases h : a = p
    · subst h; rw [x4p] at e; cases e; exact Nat.lt_succ_self _
    · rw [x3s h] at e; exact g.wt a i e
  · obtain ⟨v, F, h1, h2⟩ := g.slot i d q e
    exact ⟨v, F, h1, Rep.go g.wl st h2 fun a m => ⟨x0q (nw a _ (h2.owns a m)), (x3s (nw a _ (h2.owns a m))).trans (h2.owns a m)⟩⟩
  · exact .own x23 x4p (Reps.go g.wl st r fun a m => ⟨x0q (nw a _ (r.owns a m)), (x3s (nw a _ (r.owns a m))).trans (r.owns a m)⟩) fun m => absurd rfl (nw p _ (r.owns p m))
theorem y0j {K : PySem.W.Frag} {k : Nat} {it : y1s} {pt : x5m} {tt : x29} {te : Den} {deep : Bool} : ∀ σ H Q, tD K (x33 k it pt tt te deep) σ H Q -> z19 k (tDI K it) (tDG K σ.length pt) (tDT K tt) (tD K te) σ H Q := fun σ H Q hh0 => by
  obtain ⟨ρ, w, t, r', q, ρ', g, ee, kk⟩ := hh0
  unfold x33 at ee
  split at ee
  · rename_i ds ρ1 h1
    split at ee
    · rename_i all ρ2 h2
      cases ee
      refine ⟨ρ, w, t, ds, ρ1, g, h1, fun J P H1 w1 g1 go1 ok p1 hl => ?_⟩
      refine ⟨fun i m ys H' => m = ds.length - i /\ i <= ds.length /\ ys.length <= i /\ ∃ ρ3 w3 zs F x2b, Good K ρ3 σ H' w3 (t + 1) /\ Go H w H' w3 /\ P H' w3 /\ Reps K H' w3 (.t t) (dq deep) zs ys F /\
          x5e k pt tt te deep (ds.drop i) ρ3 = some (x2b, ρ') /\ zs ++ x2b = all,
        ⟨ds.length, by simp, Nat.zero_le _, Nat.le_refl _, ρ1, w1, [], [], all, g1.up, go1, p1, .nil, h2, rfl⟩, ?_⟩
      rintro i m ys H' ⟨rfl, hile, hys, ρ3, w3, zs, F, x2b, g0, go0, p0, rz0, e3, ez⟩
      have hsz : ys.length < sizeLine := by omega
      refine ⟨Nat.le_of_lt hsz, ?_⟩
      by_cases hlt : i < ds.length
      · refine .inr ⟨ok.go i H' w3 p0 hlt, hsz, fun x H2 hy => ?_⟩
        obtain ⟨mo, rx, p3⟩ := ok.yld i H' w3 x H2 ds[i] p0 g0.wl (List.getElem?_eq_getElem hlt) hy
        obtain ⟨g3, go2⟩ := g0.more mo
        have go3 := go0.trans go2
        have rz := rz0.gone g0.wl go2
        have ed : ds.drop i = ds[i] :: ds.drop (i + 1) := List.drop_eq_getElem_cons hlt
        rw [ed] at e3
        unfold x5e at e3
        split at e3
        · cases e3
        · rename_i ρ4 h4
          split at e3
          · cases e3
          · rename_i b ρ5 h5
            have gx := g3.ext k
            have lρ : ρ3.length = σ.length := g3.len
            refine ⟨ds[i], _, w3, t + 1, ρ4, gx, rx, h4, fun σ4 H4 w4 l4 s4 g4 go4 => ?_⟩
            obtain ⟨τ, rfl, lτ⟩ := z9c l4 s4
            refine ⟨⟨τ, rfl, by rw [lτ, List.length_replicate]⟩, ρ4, w4, t + 1, b, ρ5, g4, h5, fun H5 w5 g5 go5 => ?_⟩
            have p5 := ok.st _ _ _ _ (ok.st _ _ _ _ p3 g3.wl go4.stab) g4.wl go5.stab
            have z5 : Reps K H5 w5 (.t t) (dq deep) zs ys F := (rz.gone g3.wl go4).gone g4.wl go5
            cases b with
            | false =>
              rw [if_neg (by decide)] at e3
              dsimp only
              rw [if_neg (by decide)]
              obtain ⟨gc, goc⟩ := g5.cut
              rw [lρ] at e3
              refine ⟨ds.length - (i + 1), by omega, rfl, hlt, by omega, _, _, zs, F, x2b, gc, (go3.trans go4).trans (go5.trans goc), ok.st _ _ _ _ p5 g5.wl goc.stab, z5.gone g5.wl goc, e3, ez⟩
            | true =>
              rw [if_pos rfl] at e3
              dsimp only
              rw [if_pos rfl]
              split at e3
              · cases e3
              · rename_i d6 q6 ρ6 h6
                split at e3
                · cases e3
                · rename_i hq6
                  split at e3
                  · cases e3
                  · rename_i vs7 ρ7 h7
                    cases e3
                    refine ⟨ρ5, w5, t + 1, d6, q6, ρ6, g5, h6, fun v H6 w6 F6 g6 go6 r6 => ?_⟩
                    obtain ⟨gs, ⟨F', rs, hF'⟩, sts, hOs⟩ := j0u g6 r6 hq6
                    obtain ⟨gc, goc⟩ := gs.cut
                    rw [lρ] at h7
                    have zs6 := z5.gone g5.wl go6
                    have zF : ∀ a ∈ F, w6 a = some (.t t) := zs6.owns
                    have zs7 : Reps K H6 (x65 deep t w6) (.t t) (dq deep) zs ys F := Reps.go g6.wl sts zs6 fun a m => ⟨rfl, hOs a _ (zF a m) (by intro z; cases z)⟩
                    have gos : Go H w H6 (x65 deep t w6) := by
                      have go : Go H w H6 w6 := (go3.trans go4).trans (go5.trans go6)
                      refine ⟨fun a x h n => ⟨(go.stab a x h n).1, (sts a x (go.stab a x h n).1 (go.stab a x h n).2).2⟩, fun a o h n => ⟨(go.keep a o h n).1, hOs a o (go.keep a o h n).2 fun z => ?_⟩⟩
                      subst z
                      have := g.wt a _ h
                      omega
                    refine ⟨ds.length - (i + 1), by omega, rfl, hlt, by rw [List.length_append]; simp; omega, _, _, zs ++ [d6], F ++ F', vs7, gc, gos.trans goc, ok.st _ _ _ _ (ok.st _ _ _ _ p5 g5.wl go6.stab |> fun q => ok.st _ _ _ _ q g6.wl sts) gs.wl goc.stab,
                      ?_, h7, by rw [List.append_assoc]; exact ez⟩
                    refine (Reps.snoc rs zs7 fun a m m' => ?_).gone gs.wl goc
                    have h1 := zF a m
                    rw [hF' a m'] at h1
                    cases h1
      · have hi' : i = ds.length := Nat.le_antisymm hile (Nat.not_lt.mp hlt)
        subst hi'
        refine .inl ⟨ok.stop H' w3 p0, fun p hp => ?_⟩
        have ed : ds.drop ds.length = [] := by simp
        rw [ed] at e3
        cases e3
        rw [List.append_nil] at ez
        subst ez
        obtain ⟨a1, a2, a3⟩ := z5r g0 hp rz0
        refine kk _ _ _ (p :: F) a1 (go0.trans a2) ?_
        cases deep <;> exact a3
    · cases ee
  · cases ee
section
variable {X : Cx} {k : Nat} {N' : List Str} {scope : Scope} {elt tg iter : Expr} {ifs : List Expr} {pos : Pos} {it : y1s} {pt : x5m} {tt : x29} {te : Den}
noncomputable abbrev z66 (X : Cx) (ifs : List Expr) (f : x29) : Prop := PTs X ifs (tDT X.K f)
theorem z0b : z66 X [] x2o := fun pins s σ H Q I hh0 => by
  obtain ⟨ρ, w, t, b, ρ', gd, ee, k⟩ := hh0
  cases ee
  exact z4g pins s σ H Q I (k H w gd Go.refl)
theorem z14 {c : Expr} {g : x29} (h : PDT X c g) : z66 X [c] g := z4e h
theorem z4u (deep : Bool) (hc : X.calm = true) (S : CompOk X k N' scope) (hi : PDI X tg iter it) (hg : ∀ C s H fp, PDG (x1w X N' scope C s H fp) X.N.length tg pt) (ht : ∀ C s H fp, z66 (x1w X N' scope C s H fp) ifs tt) (he : ∀ C s H fp, PD (x1w X N' scope C s H fp) elt te)
    (hs : ∀ x, foldedSetIterable iter X.env x = pure x := by intro _; rfl) : PD X (.ListComp elt [⟨tg, iter, ifs, 0⟩] scope pos) (x33 k it pt tt te deep) := by
  intro pins s σ H Q I h
  have := y0j σ H Q h
  rw [I.len] at this
  exact z2c (N' := N') hc S hi hg ht he hs pins s σ H Q I this
theorem z0o {i : Nat} {y : Str} {py spos : Pos} (deep : Bool) (hN : X.N.Nodup) (hy : X.N[i]? = some y) (hx : Loc X.env.scope y) (hsw : swapsWith (.ListComp elt [⟨tg, iter, ifs, 0⟩] scope pos) (some (.Name y py)) spos.line X.env = pure true)
    (hc : X.calm = true) (S : CompOk X k N' scope) (hi : PDI X tg iter it) (hg : ∀ C s H fp, PDG (x1w X N' scope C s H fp) X.N.length tg pt) (ht : ∀ C s H fp, z66 (x1w X N' scope C s H fp) ifs tt) (he : ∀ C s H fp, PD (x1w X N' scope C s H fp) elt te)
    (hs : ∀ x, foldedSetIterable iter X.env x = pure x := by intro _; rfl) (hf : X.fn y = true \/ X.env.scope.names.lookup y = some .local := by first | exact .inl rfl | exact .inr rfl | assumption) :
    PDS X (.Assign [.Name y py] (.ListComp elt [⟨tg, iter, ifs, 0⟩] scope pos) spos) (x1p i (x33 k it pt tt te deep)) := by
  intro pins s σ H D I h
  have hl : i < σ.length := by rw [I.len]; exact (List.getElem?_eq_some_iff.mp hy).1
  refine z47 (N' := N') (te := tD X.K te) (tt := tDT X.K tt) (g := tDG X.K X.N.length pt) (wi := tDI X.K it) hN hy hx hsw hc S hi hg ht he hs hf pins s σ H D I ?_
  have z := y86 (te := z19 k (tDI X.K it) (tDG X.K σ.length pt) (tDT X.K tt) (tD X.K te)) hl (fun Q q => y0j σ H Q q) h
  rw [I.len] at z
  exact z
end
mutual
noncomputable def toP : D -> PyData
  | .non => .none
  | .bl b => .bool b
  | .int i => .int i
  | .str x => .str x
  | .tup ds => .tuple (x6a ds)
  | .lst ds => .list (x6a ds)
  | .dic _ _ => .none
  | .exc _ => .none
noncomputable def x6a : List D -> List PyData
  | [] => []
  | d :: ds => toP d :: x6a ds
end
mutual
noncomputable def x7f : D -> Bool
  | .dic _ _ => false
  | .exc _ => false
  | .tup ds => x9q ds
  | .lst ds => x9q ds
  | _ => true
noncomputable def x9q : List D -> Bool
  | [] => true
  | d :: ds => x7f d && x9q ds
end
noncomputable def okD (d : D) : Bool := x7f d && SeqAt.shaped (toP d)
theorem y2f {d : D} (h : okD d = true) : x7f d = true := (Bool.and_eq_true_iff.mp h).1
theorem y35 {d : D} (h : okD d = true) : SeqAt.shaped (toP d) = true := (Bool.and_eq_true_iff.mp h).2
noncomputable def eqD (d e : D) : Bool := PyData.eqv (toP d) (toP e)
section
variable {X : Cx} {pins : List (Addr × Obj)} {σ : St} {H : Hp} {s : Shared}
theorem Rep.reads (I : Inv X pins σ H s) {w : Wn} {o : Ow} : ∀ {q : Nat} {d : D} {v : V} {F : List Addr} {u : Value}, Rep X.K H w o q d v F -> x3r v u -> x7f d = true -> ∃ as, Reads s.heap u (toP d) as := by
  intro q d v F u r
  refine (Rep.rec (motive_1 := fun q d v F _ => ∀ u, x3r v u -> x7f d = true -> ∃ as, Reads s.heap u (toP d) as) (motive_2 := fun q ds vs F _ => ∀ us, x2p vs us -> x9q ds = true -> ∃ as, ReadsAll s.heap us (x6a ds) as) ?_ ?_ ?_ ?_ ?_ ?_ ?_ ?_ ?_ ?_ ?_ ?_ r : ∀ u, x3r v u -> x7f d = true -> ∃ as, Reads s.heap u (toP d) as) u
  · intro q u ru hn; cases ru; exact ⟨_, by unfold toP; exact .none⟩
  · intro q b u ru hn; cases ru; exact ⟨_, by unfold toP; exact .bool b⟩
  · intro q i u ru hn; obtain ⟨t, rfl⟩ := ru; exact ⟨_, by unfold toP; exact .int i t⟩
  · intro q x u ru hn; obtain ⟨t, rfl⟩ := ru; exact ⟨_, by unfold toP; exact .str x t⟩
  · intro q a vs ds h r ih u ru hn
    cases ru
    obtain ⟨its, rv, p, hz⟩ := I.tuple (SqT.of h)
    obtain ⟨as, ra⟩ := ih its rv (by unfold x7f at hn; exact hn)
    obtain ⟨ob, ho, hc, n, hd⟩ := p
    exact ⟨_, by unfold toP; exact .tuple ho hc hd ra⟩
  · intro q a ks vs ds h r ih u ru hn; cases hn
  · intro q a nm ob v h x n u ru hn; cases hn
  · intro a vs ds h r ih u ru hn
    cases ru
    obtain ⟨its, rv, p, hz⟩ := I.list h.sq
    obtain ⟨as, ra⟩ := ih its rv (by unfold x7f at hn; exact hn)
    obtain ⟨ob, ho, hc, n, hd⟩ := p.isList
    exact ⟨_, by unfold toP; exact .list ho hc hd ra⟩
  · intro a vs ds h n0 r ih u ru hn
    cases ru
    obtain ⟨its, rv, p, hz⟩ := I.list (.inl h)
    obtain ⟨as, ra⟩ := ih its rv (by unfold x7f at hn; exact hn)
    obtain ⟨ob, ho, hc, n, hd⟩ := p.isList
    exact ⟨_, by unfold toP; exact .list ho hc hd ra⟩
  · intro q a vs ds F h e r ne ih u ru hn
    cases ru
    obtain ⟨its, rv, p, hz⟩ := I.list (SqL.of h)
    obtain ⟨as, ra⟩ := ih its rv (by unfold x7f at hn; exact hn)
    obtain ⟨ob, ho, hc, n, hd⟩ := p.isList
    exact ⟨_, by unfold toP; exact .list ho hc hd ra⟩
  · intro q us ru hn; cases ru; exact ⟨_, by unfold x6a; exact .nil⟩
  · intro q d v ds vs F G r s' ne ih1 ih2 us ru hn
    cases ru with
    | cons rv rvs =>
      unfold x9q at hn
      obtain ⟨as, ra⟩ := ih1 _ rv (Bool.and_eq_true_iff.mp hn).1
      obtain ⟨bs, rb⟩ := ih2 _ rvs (Bool.and_eq_true_iff.mp hn).2
      exact ⟨_, by unfold x6a; exact .cons ra rb⟩
end
noncomputable def Is (K : PySem.W.Frag) (H : Hp) (d : D) (v : V) : Prop := ∃ w o q F, Rep K H w o q d v F
noncomputable def j0n (K : PySem.W.Frag) : R2 := fun x y H Q => ∃ d e, Is K H d x /\ Is K H e y /\ okD d = true /\ okD e = true /\ Q (.bl (eqD d e)) H
noncomputable def j0h (K : PySem.W.Frag) : R2 := fun x y H Q => ∃ d e, Is K H d x /\ Is K H e y /\ okD d = true /\ okD e = true /\ Q (.bl (!eqD d e)) H
noncomputable def inD (d : D) : D -> Option Bool
  | .lst ds => some ((x6a ds).any fun y => PyData.eqv y (toP d))
  | .tup ds => some ((x6a ds).any fun y => PyData.eqv y (toP d))
  | _ => none
noncomputable def j0g (K : PySem.W.Frag) (neg : Bool) : R2 := fun x y H Q => ∃ d e b, Is K H d x /\ Is K H e y /\ okD d = true /\ okD e = true /\ inD d e = some b /\ Q (.bl (if neg then !b else b)) H
section
variable {X : Cx} {a b c e : Expr} {fa fb fc f : Den} {pos : Pos}
theorem z1r (hu : X.A.units + 64 < cLine) : OpR X (compareOp .Eq) (j0n X.K) := by
  intro pins s σ H x y v u Q I rx ry ⟨d, e, ⟨w, o, q, F, h1⟩, ⟨w', o', q', F', h2⟩, k1, k2, hq⟩
  obtain ⟨as, ra⟩ := h1.reads I rx (y2f k1)
  obtain ⟨bs, rb⟩ := h2.reads I ry (y2f k2)
  exact eq_dataH ra rb (y35 k1) (y35 k2) hu ⟨.bl _, H, I, rfl, hq⟩
theorem z5i (hu : X.A.units + 64 < cLine) : OpR X (compareOp .NotEq) (j0h X.K) := by
  intro pins s σ H x y v u Q I rx ry ⟨d, e, ⟨w, o, q, F, h1⟩, ⟨w', o', q', F', h2⟩, k1, k2, hq⟩
  obtain ⟨as, ra⟩ := h1.reads I rx (y2f k1)
  obtain ⟨bs, rb⟩ := h2.reads I ry (y2f k2)
  exact ne_dataH ra rb (y35 k1) (y35 k2) hu ⟨.bl _, H, I, rfl, hq⟩
theorem z6v (hu : X.A.units + 65 < cLine) : OpR X (compareOp .In) (j0g X.K false) := by
  intro pins s σ H x y v u Q I rx ry ⟨d, e, b, ⟨w, o, q, F, h1⟩, ⟨w', o', q', F', h2⟩, k1, k2, hb, hq⟩
  obtain ⟨as, ra⟩ := h1.reads I rx (y2f k1)
  obtain ⟨bs, rb⟩ := h2.reads I ry (y2f k2)
  replace k1 := y35 k1
  replace k2 := y35 k2
  cases e with
  | lst ds =>
    cases hb
    unfold toP at rb k2
    exact SeqAt.in_list_reads rb ra (SeqAt.canLay_of_shaped k2) (SeqAt.canLay_of_shaped k1) (room_in_shaped k1 hu) ⟨.bl _, H, I, rfl, hq⟩
  | tup ds =>
    cases hb
    unfold toP at rb k2
    exact SeqAt.in_tuple_reads rb ra (SeqAt.canLay_of_shaped k2) (SeqAt.canLay_of_shaped k1) (room_in_shaped k1 hu) ⟨.bl _, H, I, rfl, hq⟩
  | _ => cases hb
noncomputable def dEq (x y : D) : Option D := if okD x = true /\ okD y = true then some (.bl (eqD x y)) else none
noncomputable def dNe (x y : D) : Option D := if okD x = true /\ okD y = true then some (.bl (!eqD x y)) else none
noncomputable def dIn (x y : D) : Option D := if okD x = true /\ okD y = true then (inD x y).map fun b => .bl b else none
theorem hEq {K : PySem.W.Frag} : ∀ σ H Q, tD K (e2 dEq fa fb) σ H Q -> tOp (j0n K) (tD K fa) (tD K fb) σ H Q := y2g fun x y d h => by
  unfold dEq at h
  split at h
  · rename_i hk
    cases h
    exact ⟨_, rfl, fun H w o o' q q' u u' F F' r1 r2 _ Q hq => ⟨x, y, ⟨_, _, _, _, r1⟩, ⟨_, _, _, _, r2⟩, hk.1, hk.2, hq⟩⟩
  · cases h
theorem hNe {K : PySem.W.Frag} : ∀ σ H Q, tD K (e2 dNe fa fb) σ H Q -> tOp (j0h K) (tD K fa) (tD K fb) σ H Q := y2g fun x y d h => by
  unfold dNe at h
  split at h
  · rename_i hk
    cases h
    exact ⟨_, rfl, fun H w o o' q q' u u' F F' r1 r2 _ Q hq => ⟨x, y, ⟨_, _, _, _, r1⟩, ⟨_, _, _, _, r2⟩, hk.1, hk.2, hq⟩⟩
  · cases h
theorem hIn {K : PySem.W.Frag} : ∀ σ H Q, tD K (e2 dIn fa fb) σ H Q -> tOp (j0g K false) (tD K fa) (tD K fb) σ H Q := y2g fun x y d h => by
  unfold dIn at h
  split at h
  · rename_i hk
    cases hi : inD x y with
    | none => rw [hi] at h; cases h
    | some b =>
      rw [hi] at h
      cases h
      exact ⟨_, rfl, fun H w o o' q q' u u' F F' r1 r2 _ Q hq => ⟨x, y, b, ⟨_, _, _, _, r1⟩, ⟨_, _, _, _, r2⟩, hk.1, hk.2, hi, hq⟩⟩
  · cases h
theorem z9a {k : Nat} (hr : Room k X.A) (ha : PD X a fa) (hb : PD X b fb) : PD X (.Compare a [.Eq] [b] pos) (e2 dEq fa fb) := z89 (z1r hr.units) hEq ha hb (y16 _)
theorem z8d {k : Nat} (hr : Room k X.A) (ha : PD X a fa) (hb : PD X b fb) : PDT X (.Compare a [.Eq] [b] pos) (x37 (e2 dEq fa fb)) := x85 (z1r hr.units) hEq ha hb (y16 _)
theorem z7s {k : Nat} (hr : Room k X.A) (ha : PD X a fa) (hb : PD X b fb) : PDT X (.Compare a [.NotEq] [b] pos) (x37 (e2 dNe fa fb)) := x85 (z5i hr.units) hNe ha hb (y16 _)
theorem u65 {k : Nat} {A : Around} (r : Room k A) : A.units + 65 < cLine := by have := r.un; omega
theorem z5y {k : Nat} (hr : Room k X.A) (ha : PD X a fa) (hb : PD X b fb) (hm : behindInMarks .In b = false := by with_unfolding_all rfl) : PDT X (.Compare a [.In] [b] pos) (x37 (e2 dIn fa fb)) := x85 (z6v (u65 hr)) hIn ha hb hm
end
@[simp] noncomputable def eB (h : List D -> Option D) (g : x2a) : Den := fun ρ => match g ρ with
  | some (ds, ρ1) => match h ds with
    | some d => some (d, 9, ρ1)
    | none => none
  | none => none
section
variable {X : Cx} {a b c e : Expr} {es : List Expr} {fa fb fc f : Den} {g : x2a} {pos p p1 p2 : Pos}
theorem y8j {K : PySem.W.Frag} {h : List D -> Option D} {r : List V -> Hp -> VK -> Prop} (hh : ∀ ds d, h ds = some d -> ∃ v, y1j d = some v /\ ∀ H w vs, WL w H -> Reps K H w .f 0 ds vs [] -> ∀ Q : VK, Q v H -> r vs H Q) :
    ∀ σ H Q, tD K (eB h g) σ H Q -> tCB r (tDA K g) σ H Q := fun σ H Q hh0 => by
  obtain ⟨ρ, w, t, r', q, ρ', gd, ee, k⟩ := hh0
  unfold eB at ee
  split at ee
  · rename_i ds ρ1 h1
    split at ee
    · rename_i d hd
      cases ee
      obtain ⟨v, hv, hr⟩ := hh ds _ hd
      exact ⟨ρ, w, t, ds, _, gd, h1, fun vs H1 w1 g1 go1 r1 => hr H1 w1 vs g1.wl r1 Q (k v H1 w1 [] g1.up go1 (y1r hv))⟩
    · cases ee
  · cases ee
theorem one {K : PySem.W.Frag} {H : Hp} {w : Wn} {o : Ow} {d : D} {vs : List V} (r : Reps K H w o 0 [d] vs []) : ∃ v, vs = [v] /\ Rep K H w o 0 d v [] := by
  have l := r.length
  match vs, l with
  | [v], _ =>
    obtain ⟨v', h1, h2⟩ := r.get (i := 0) rfl
    cases h1
    exact ⟨v, rfl, h2⟩
theorem two {K : PySem.W.Frag} {H : Hp} {w : Wn} {o : Ow} {d d' : D} {vs : List V} (r : Reps K H w o 0 [d, d'] vs []) : ∃ v v', vs = [v, v'] /\ Rep K H w o 0 d v [] /\ Rep K H w o 0 d' v' [] := by
  have l := r.length
  match vs, l with
  | [v, v'], _ =>
    obtain ⟨u, h1, h2⟩ := r.get (i := 0) rfl
    obtain ⟨u', h3, h4⟩ := r.get (i := 1) rfl
    cases h1
    cases h3
    exact ⟨v, v', rfl, h2, h4⟩
noncomputable def x8r : D -> Option Nat
  | .lst ds => some ds.length
  | .tup ds => some ds.length
  | _ => none
@[simp] noncomputable def z0q : List D -> Option D
  | [d] => (x8r d).map fun n => .int (Int.ofNat n)
  | _ => none
theorem Rep.len {K : PySem.W.Frag} {H : Hp} {w : Wn} {o : Ow} {q : Nat} {d : D} {v : V} {F : List Addr} {n : Nat} (r : Rep K H w o q d v F) (h : x8r d = some n) : ∃ p ys, v = .ref p /\ (SqL K H p ys \/ SqT K H p ys) /\ ys.length = n := by
  cases d with
  | lst ds =>
    cases h
    obtain ⟨p, vs, q', G, rfl, hq, rs⟩ := r.seqL
    exact ⟨p, vs, rfl, .inl hq, rs.length.symm⟩
  | tup ds =>
    cases h
    obtain ⟨p, vs, rfl, hq, rs⟩ := r.seqT
    exact ⟨p, vs, rfl, .inr hq, rs.length.symm⟩
  | _ => cases h
theorem z7f (hm : X.mg "len" = none) (ha : PDA X [a] g) (hg : Gl X "len" := by rfl) (he : starEach [a] X.env = (false, eval a X.env) :: starEach [] X.env := by rfl) (hpl : (backTo pos (starEach [] X.env)).any (·.1) = false := by rfl) : PD X (.Call (.Name "len" p) [a] [] pos) (eB z0q g) :=
  PE.imp (x5u x5p hg hm PySem.boot_len ha (by decide) (by decide) he hpl) (y8j fun ds d h => by
    match ds, h with
    | [d0], h =>
      cases hl : x8r d0 with
      | none => simp only [z0q, hl, Option.map_none] at h; cases h
      | some n =>
        simp only [z0q, hl, Option.map_some, Option.some.injEq] at h
        subst h
        refine ⟨_, rfl, fun H w vs wl r Q hq => ?_⟩
        obtain ⟨v, rfl, rv⟩ := one r
        obtain ⟨p, ys, rfl, hs, hn⟩ := rv.len hl
        exact ⟨p, ys, rfl, hs, by rw [hn]; exact hq⟩)
@[simp] noncomputable def x14 (i : Nat) : Den := fun ρ => match ρ[i]? with
  | some (some (d, _)) => match x8r d with
    | some n => some (.int (Int.ofNat n), 9, ρ)
    | none => none
  | _ => none
theorem z2r {i : Nat} {x : Str} (hm : X.mg "len" = none) (h : PE X (.Name x p1) (x9j i)) (hg : Gl X "len" := by rfl) (he : starEach [.Name x p1] X.env = (false, eval (.Name x p1) X.env) :: starEach [] X.env := by rfl) (hpl : (backTo pos (starEach [] X.env)).any (·.1) = false := by rfl) : PD X (.Call (.Name "len" p) [.Name x p1] [] pos) (x14 i) :=
  PE.imp (x5u x5p hg hm PySem.boot_len (x6o h y0o he) (by decide) (by decide) he hpl) fun σ H Q hh0 => by
  obtain ⟨ρ, w, t, r', q, ρ', gd, ee, k⟩ := hh0
  unfold x14 at ee
  split at ee
  · rename_i d q0 e0
    split at ee
    · rename_i n hn
      cases ee
      obtain ⟨v, F, h1, h2⟩ := gd.slot i d q0 e0
      obtain ⟨p, ys, rfl, hs, hl⟩ := h2.len hn
      exact ⟨_, h1, p, ys, rfl, hs, by rw [hl]; exact k _ H w [] gd.up Go.refl (.int _)⟩
    · cases ee
  · cases ee
@[simp] noncomputable def z7l : List D -> Option D
  | [.int i, .int j] => some (.int (if j > i then j else i))
  | _ => none
theorem z3p (hc : X.calm = true) (hm : X.mg "max" = none) (hb : bootBuiltins "max" = some (.builtin "max")) (ha : PDA X (a :: es) g) (hg : Gl X "max" := by rfl) (he : starEach (a :: es) X.env = (false, eval a X.env) :: starEach es X.env := by rfl) (hpl : (backTo pos (starEach es X.env)).any (·.1) = false := by rfl) : PD X (.Call (.Name "max" p) (a :: es) [] pos) (eB z7l g) :=
  PE.imp (x5u (y8h hc) hg hm hb ha (by decide) (by decide) he hpl) (y8j fun ds d h => by
    unfold z7l at h
    split at h
    · rename_i i j
      cases h
      refine ⟨_, rfl, fun H w vs wl r Q hq => ?_⟩
      obtain ⟨v, v', rfl, r1, r2⟩ := two r
      exact ⟨i, j, by rw [x3v r1, x3v r2], hq⟩
    · cases h)
@[simp] noncomputable def x6l (g : x2a) : Den := fun ρ => match g ρ with
  | some ([.lst ds], ρ1) => some (.lst ds, 1, ρ1)
  | some ([.tup ds], ρ1) => some (.lst ds, 1, ρ1)
  | _ => none
theorem y8f (hm : X.mg "list" = none) (hb : bootBuiltins "list" = some (.type "list")) (ha : PDA X [a] g) (hg : Gl X "list" := by rfl) (he : starEach [a] X.env = (false, eval a X.env) :: starEach [] X.env := by rfl) (hpl : (backTo pos (starEach [] X.env)).any (·.1) = false := by rfl) : PD X (.Call (.Name "list" p) [a] [] pos) (x6l g) :=
  PE.imp (x6y y2k hg hm hb ha (by decide) (by decide) he hpl) fun σ H Q hh0 => by
  obtain ⟨ρ, w, t, r', q, ρ', gd, ee, k⟩ := hh0
  unfold x6l at ee
  split at ee
  · rename_i ds ρ1 h1
    cases ee
    refine ⟨ρ, w, t, _, _, gd, h1, fun vs H1 w1 g1 go1 r1 => ?_⟩
    obtain ⟨v, rfl, rv⟩ := one r1
    obtain ⟨p, ys, rfl, hs, rs⟩ := rv.seqL0
    refine ⟨p, ys, rfl, .inl hs, fun l hl => ?_⟩
    obtain ⟨a1, a2, a3⟩ := y6l g1 hl rs
    exact k _ _ _ _ a1 (go1.trans a2) a3
  · rename_i ds ρ1 h1
    cases ee
    refine ⟨ρ, w, t, _, _, gd, h1, fun vs H1 w1 g1 go1 r1 => ?_⟩
    obtain ⟨v, rfl, rv⟩ := one r1
    obtain ⟨p, ys, rfl, hs, rs⟩ := rv.seqT
    refine ⟨p, ys, rfl, .inr hs, fun l hl => ?_⟩
    obtain ⟨a1, a2, a3⟩ := y6l g1 hl rs
    exact k _ _ _ _ a1 (go1.trans a2) a3
  · cases ee
@[simp] noncomputable def x2e (g : x2a) : Den := fun ρ => match g ρ with
  | some ([.lst ds], ρ1) => some (.tup ds, 9, ρ1)
  | some ([.tup ds], ρ1) => some (.tup ds, 9, ρ1)
  | _ => none
theorem z0m (hm : X.mg "tuple" = none) (hb : bootBuiltins "tuple" = some (.type "tuple")) (ha : PDA X [a] g) (hg : Gl X "tuple" := by rfl) (he : starEach [a] X.env = (false, eval a X.env) :: starEach [] X.env := by rfl) (hpl : (backTo pos (starEach [] X.env)).any (·.1) = false := by rfl) : PD X (.Call (.Name "tuple" p) [a] [] pos) (x2e g) :=
  PE.imp (x6y y25 hg hm hb ha (by decide) (by decide) he hpl) fun σ H Q hh0 => by
  obtain ⟨ρ, w, t, r', q, ρ', gd, ee, k⟩ := hh0
  unfold x2e at ee
  split at ee
  · rename_i ds ρ1 h1
    cases ee
    refine ⟨ρ, w, t, _, _, gd, h1, fun vs H1 w1 g1 go1 r1 => ?_⟩
    obtain ⟨v, rfl, rv⟩ := one r1
    obtain ⟨p, ys, rfl, hs, rs⟩ := rv.seqL0
    refine ⟨p, ys, rfl, .inl ⟨hs, fun l hl => ?_⟩⟩
    obtain ⟨a1, a2, a3⟩ := y14 g1 hl rs
    exact k _ _ _ _ a1 (go1.trans a2) a3
  · rename_i ds ρ1 h1
    cases ee
    refine ⟨ρ, w, t, _, _, gd, h1, fun vs H1 w1 g1 go1 r1 => ?_⟩
    obtain ⟨v, rfl, rv⟩ := one r1
    have rr := rv
    obtain ⟨p, ys, rfl, hs, rs⟩ := rv.seqT
    refine ⟨p, ys, rfl, .inr ⟨hs, ?_⟩⟩
    exact k _ H1 w1 [] g1.up go1 (((rr.nolist rfl).2 9).any g1.wl)
  · cases ee
noncomputable def z1v (ta : TA) : TE := fun σ H Q => ta σ H fun vs H1 => ∃ j : Int, vs = [.int j] /\ -(2 ^ 62) <= j /\ j < 2 ^ 62 /\ ∀ p, H1 p = none -> Q (.ref p) (upd H1 p (.rng 0 j))
theorem y52 {ta : TA} (hg : Gl X "range") (hm : X.mg "range" = none) (ha : PA X [a] ta) (hs : starEach [a] X.env = [(false, eval a X.env)] := by rfl) : PE X (.Call (.Name "range" p) [a] [] pos) (z1v ta) := by
  intro pins s σ H Q I h
  refine Call_ (y0m I hg hm boot_range (PyProof.Rows.callWith_type1 (thn (ha pos pins s σ H _ I h) fun us s1 ⟨vs, H1, I1, r1, q1⟩ => ?_) hs rfl))
  obtain ⟨j, e, q1, q2, q⟩ := q1
  subst e
  cases r1 with
  | cons r rr =>
    cases rr
    obtain ⟨t, rfl⟩ := r
    refine call_range_1 ?_
    exact ⟨.ref s1.heap.objs.size, upd H1 s1.heap.objs.size (.rng 0 j), I1.laid (fun b u e => Heap.get?_push_of_some _ e) (Nat.le_refl _) ⟨_, _, _, Heap.get?_push_size _ rfl⟩, rfl, q _ (I1.hok.fresh (Nat.le_refl _))⟩
end
end L3
namespace L3
open PySem PySem.Spec PyProof.Rows L2
theorem x9p {j : Int} (h1 : -(2 ^ 62) <= j) (h2 : j < 2 ^ 62) : Builtin.Range.small 0 j 1 = true := by
  have hs : Builtin.Range.rangeSize 0 j 1 = ((j.toNat : Nat) : Int) := by
    simp [Builtin.Range.rangeSize] <;> split <;> omega
  simp only [Builtin.Range.small, hs, Builtin.Range.rangeFitsLong]
  simp
  omega
theorem y0t (j : Int) : Builtin.Range.rangeSize 0 j 1 = ((j.toNat : Nat) : Int) := by
  simp [Builtin.Range.rangeSize] <;> split <;> omega
theorem y0k {n : Nat} {acc : Array Value} (h : ItemsOf (fun i v => ∃ t, v = Value.int (0 + (i : Nat) * 1) t) acc n) : x2p (x8e n) acc.toList := by
  have key : ∀ (us : List Value) (k : Nat), (∀ j v, us[j]? = some v -> ∃ t, v = Value.int (((k + j : Nat)) : Int) t) -> x2p ((List.range' k us.length).map fun i => V.int (Int.ofNat i)) us := by
    intro us
    induction us with
    | nil => intro k _; exact .nil
    | cons u r ih =>
      intro k hk
      obtain ⟨t, e⟩ := hk 0 u rfl
      refine .cons ⟨t, by rw [e]; rfl⟩ (ih (k + 1) fun j v hv => ?_)
      obtain ⟨t', e'⟩ := hk (j + 1) v (by simpa using hv)
      exact ⟨t', by rw [e']; congr 2; omega⟩
  have := key acc.toList 0 fun j v hv => by
    obtain ⟨t, e⟩ := h.2 j v (by simpa using hv)
    exact ⟨t, by rw [e]; congr 1; omega⟩
  have hl : acc.toList.length = n := by simpa using h.1
  rw [hl] at this
  unfold x8e
  rw [List.range_eq_range']
  exact this
section
variable {prog : Program} {w : World} {A : Around} {E : Value -> Shared -> Prop} {s : Shared}
open AutoSeq1 (wpAny_loadPart')
theorem y1t {Q : List Value -> Shared -> Prop} {r : Addr} {a b c : Int} {t u v : Tok} {n : Nat} (hh : A.handled = none) (hr : IsRange s.heap r a b c t u v) (hsmall : Builtin.Range.small a b c = true) (hn : Builtin.Range.rangeSize a b c = n) (hlen : n <= 2 ^ 24)
    (hQ : ∀ h' tk acc', (∀ b o', s.heap.get? b = some o' -> h'.get? b = some o') -> ItemsOf (fun i v => ∃ t, v = .int (a + i * c) t) acc' n -> Q acc'.toList { s with heap := h', toks := tk }) :
    wpAny (model prog w) A (collect (.ref r)) Q E s := by
  unfold collect
  refine wpAny_bind (wpAny_runValue (codeAny_builtin F.entry_proto_collect ?_))
  rw [Around.under_plainId F.plain_proto_collect _]
  show wpAny _ A.in1 (newList [] >>= fun l => again (.builtin "list.__iadd__" ⟨[l, .ref r], []⟩)) _ _ s
  refine wpAny_bind (wpAny_newObj_type ?_)
  refine wpAny_pure ⟨plainId_quiet F.plain_list_iadd _, codeAny_builtin F.entry_list_iadd ?_⟩
  rw [Around.under_plainId F.plain_list_iadd _]
  show wpAny _ A.in1 (Builtin.List.listExtendWith (.ref s.heap.objs.size) (.ref r) (.ref s.heap.objs.size)) _ _ _
  have hS : (s.heap.push { cls := .type "list", data := .seq ([] : List Value).toArray }).get? s.heap.objs.size = some { cls := .type "list", data := .seq #[] 0 } := Heap.get?_push_size _ rfl
  have fin' : ∀ (h' : Heap) (tk : Nat) (acc' : Array Value) (c' : Nat), (∀ b o, b ≠ s.heap.objs.size -> (s.heap.push { cls := .type "list", data := .seq ([] : List Value).toArray }).get? b = some o -> h'.get? b = some o) ->
      h'.get? s.heap.objs.size = some { cls := .type "list", dict := none, data := .seq acc' c', slots := #[] } -> ItemsOf (fun i v => ∃ t, v = .int (a + i * c) t) acc' n -> wpAny (model prog w) A (match Value.ref s.heap.objs.size with
      | Value.ref a => do
        match (<- load a).data with
          | Data.seq xs _ => pure xs.toList
          | _ => unsupported "internal:collect"
      | _ => unsupported "internal:collect") Q E { s with heap := h', toks := tk } := fun h' tk acc' c' hk hS' hacc => by
    show wpAny _ A (load s.heap.objs.size >>= _) _ _ _
    refine wpAny_bind (wpAny_load hS' ?_)
    refine wpAny_pure (hQ h' tk acc' (fun b o' hb => ?_) hacc)
    exact hk b o' (Nat.ne_of_lt (Heap.lt_size hb)) (Heap.get?_push_of_some _ hb)
  refine wpAny_mono (wpAny_extend_range (A := A) (R := fun rs s' => rs = .ok (.ret (.ref s.heap.objs.size)) /\ ∃ h' tk acc' c', s' = { s with heap := h', toks := tk } /\ (∀ b o, b ≠ s.heap.objs.size -> (s.heap.push { cls := .type "list", data := .seq ([] : List Value).toArray }).get? b = some o -> h'.get? b = some o) /\
      h'.get? s.heap.objs.size = some { cls := .type "list", dict := none, data := .seq acc' c', slots := #[] } /\ ItemsOf (fun i v => ∃ t, v = .int (a + i * c) t) acc' n)
    (s := { s with heap := s.heap.push { cls := .type "list", data := .seq ([] : List Value).toArray } }) hh (Heap.get?_push_of_some _ hr) hsmall hn hlen s.heap.objs.size (.ref s.heap.objs.size) 0 hS (fun h' tk acc' c' hk hS' hacc => ⟨rfl, h', tk, acc', c', rfl, hk, hS', hacc⟩)) (fun fin s' h => ?_) (fun e s' h => ?_)
  · cases fin with
    | done f =>
      obtain ⟨e, h', tk, acc', c', rfl, hk, hS', hacc⟩ := h
      cases e
      exact fin' h' tk acc' c' hk hS' hacc
    | again c' => exact ⟨h.1, codeAny_mono h.2 fun r s'' hr => by
        obtain ⟨rfl, h', tk, acc', c', rfl, hk, hS', hacc⟩ := hr
        exact fin' h' tk acc' c' hk hS' hacc⟩
  · exact absurd h.1 (by simp)
end
theorem x5j (r : Addr) (a b c : Int) (t u v : Tok) (n : Nat) (hsmall : Builtin.Range.small a b c = true) (hn : Builtin.Range.rangeSize a b c = n) (hlen : n <= 2 ^ 24) :
    Meets (Builtin.«tuple.__new__» ⟨[.type "tuple", .ref r], []⟩)
      (fun A R s => A.handled = none /\ IsRange s.heap r a b c t u v /\ ∀ (h' : Heap) tk acc', (∀ b o', s.heap.get? b = some o' -> h'.get? b = some o') -> ItemsOf (fun i v => ∃ t, v = .int (a + i * c) t) acc' n -> R (.ok (.ret (.ref h'.objs.size))) { s with heap := h'.push { cls := .type "tuple", data := .seq acc' }, toks := tk }) :=
  .of_wp fun prog w A R s h => by
    obtain ⟨hp, g, d, tk, os⟩ := s; obtain ⟨hh, hr, h⟩ := h
    have hsub := sub_tuple_self
    have hinit := init_tuple_lookup
    have hmh := madeHere_tuple
    have hT : Shared.TypeIs ⟨hp, g, d, tk, os⟩ (.ref r) "range" := ⟨_, hr, rfl⟩
    have hh1 : A.in1.handled = none := hh
    wp_walk using AutoSeq1.wpAny_loadPart' hr, wpAny_typeOf hT, y1t hh1 hr hsmall hn hlen
    intro h' tk' acc' hk hacc
    show wpAny _ _ (Builtin.Tuple.tupleExact acc'.toList.toArray >>= fun v => ret v) _ _ _
    unfold Builtin.Tuple.tupleExact
    have hsz : acc'.size <= sizeLine := by rw [hacc.1]; exact hlen
    refine wpAny_bind (wpAny_newObj_type ?_ (by show acc'.toList.toArray.size <= sizeLine; simpa using hsz))
    refine wpAny_pure ⟨_, rfl, ?_⟩
    have e : acc'.toList.toArray = acc' := by simp
    rw [e]
    exact h h' tk' acc' hk hacc
theorem x8s {prog : Program} {w : World} {A : Around} {E : Value -> Shared -> Prop} {s : Shared} {r : Addr} {a b c : Int} {t u v : Tok} {n : Nat} {Q : Value -> Shared -> Prop} (hh : A.handled = none) (hr : IsRange s.heap r a b c t u v) (hsmall : Builtin.Range.small a b c = true) (hn : Builtin.Range.rangeSize a b c = n) (hlen : n <= 2 ^ 24)
    (h : ∀ (h' : Heap) tk acc', (∀ b o', s.heap.get? b = some o' -> h'.get? b = some o') -> ItemsOf (fun i v => ∃ t, v = .int (a + i * c) t) acc' n -> Q (.ref h'.objs.size) { s with heap := h'.push { cls := .type "tuple", data := .seq acc' }, toks := tk }) :
    wpAny (model prog w) A (call (.type "tuple") [.ref r]) Q E s :=
  callType_new F.called_tuple (by decide) (F.typeCall_tuple_1 _) (F.newCall_tuple_1 _) (fun obj => F.args_object_init_2 obj _) F.entry_tuple_new
    (x5j r a b c t u v n hsmall hn hlen) ⟨hh, hr, fun h' tk acc' hk hacc => ⟨⟨_, Heap.get?_push_size _ rfl, rfl⟩, h h' tk acc' hk hacc⟩⟩
section
variable {X : Cx}
noncomputable def j07 (mk : List V -> HO) : List V -> Hp -> VK -> Prop := fun xs H Q => ∃ a j, xs = [.ref a] /\ H a = some (.rng 0 j) /\ -1000 <= j /\ j <= 1000 /\ ∀ p, H p = none -> Q (.ref p) (upd H p (mk (x8e j.toNat)))
theorem y1c (hc : X.calm = true) : y0c X (.type "list") (j07 .lst) := by
  intro pins s σ H xs us Q I r h
  obtain ⟨a, j, rfl, hr, j1, j2, q⟩ := h
  obtain ⟨u, rfl, rx⟩ := y4g r
  cases rx
  obtain ⟨t, u, v, ho⟩ := (show x2y X.prog X.w H s.heap a (.rng 0 j) from I.hok a _ hr)
  refine call_list_range (I.ok.hd hc) ho (x9p (by omega) (by omega)) (y0t j) (by omega) fun h' tk acc' c' hk hS' hacc => ?_
  refine ⟨.ref s.heap.objs.size, _, I.laid (t' := tk) (o := .lst (x8e j.toNat)) hk (Nat.le_refl _) ⟨by rw [y13]; exact Nat.le_trans (by omega : j.toNat <= 1000) (by decide), acc'.toList, c', y0k hacc, by simpa using hS'⟩, rfl, q _ (I.hok.fresh (Nat.le_refl _))⟩
theorem y0f (hc : X.calm = true) : y0c X (.type "tuple") (j07 .tup) := by
  intro pins s σ H xs us Q I r h
  obtain ⟨a, j, rfl, hr, j1, j2, q⟩ := h
  obtain ⟨u, rfl, rx⟩ := y4g r
  cases rx
  obtain ⟨t, u, v, ho⟩ := (show x2y X.prog X.w H s.heap a (.rng 0 j) from I.hok a _ hr)
  refine x8s (I.ok.hd hc) ho (x9p (by omega) (by omega)) (y0t j) (by omega) fun h' tk acc' hk hacc => ?_
  have I1 : Inv X pins σ H { s with heap := h', toks := tk } := I.kept hk
  have I2 : Inv X pins σ (upd H h'.objs.size (.tup (x8e j.toNat))) { s with heap := h'.push { cls := .type "tuple", data := .seq acc' }, toks := tk } :=
    I1.laid (t' := tk) (fun b o e => Heap.get?_push_of_some _ e) (Nat.le_refl _) (show x2y X.prog X.w _ _ _ (.tup _) from ⟨by rw [y13]; exact Nat.le_trans (by omega : j.toNat <= 1000) (by decide), acc'.toList, y0k hacc, by simpa using x4u.new h' acc'⟩)
  exact ⟨.ref h'.objs.size, _, I2, rfl, q _ (I1.hok.fresh (Nat.le_refl _))⟩
variable {a : Expr} {g : x2a} {pos p p1 pos1 : Pos}
@[simp] noncomputable def x8m (g : x2a) : Den := fun ρ => match x17 g ρ with
  | some (ds, ρ1) => some (.lst ds, 1, ρ1)
  | none => none
@[simp] noncomputable def z45 (g : x2a) : Den := fun ρ => match x17 g ρ with
  | some (ds, ρ1) => some (.tup ds, 9, ρ1)
  | none => none
theorem y2w {K : PySem.W.Frag} {mk : List V -> HO} {q0 : Nat} {md : List D -> D} (al : ∀ {ρ : Rho} {σ : St} {H1 : Hp} {w1 : Wn} {t : Nat} {p : Addr} {vs : List V} {ds : List D}, Good K ρ σ H1 w1 t -> H1 p = none -> Reps K H1 w1 .f 0 ds vs [] -> ∃ w' F, Good K ρ σ (upd H1 p (mk vs)) w' (t + 1) /\ Go H1 w1 (upd H1 p (mk vs)) w' /\ Rep K (upd H1 p (mk vs)) w' (.t t) q0 (md ds) (.ref p) F) :
    ∀ σ H Q, tD K (fun ρ => match x17 g ρ with
      | some (ds, ρ1) => some (md ds, q0, ρ1)
      | none => none) σ H Q -> tCB (j07 mk) (z5w (z1v (tDA K g)) j0p) σ H Q := fun σ H Q hh0 => by
  obtain ⟨ρ, w, t, r', q, ρ', gd, ee, k⟩ := hh0
  dsimp only at ee
  split at ee
  · rename_i ds ρ1 h1
    cases ee
    unfold x17 at h1
    split at h1
    · rename_i n ρ2 h2
      split at h1
      · rename_i hn
        cases h1
        refine ⟨ρ, w, t, _, _, gd, h2, fun vs H1 w1 g1 go1 r1 => ?_⟩
        obtain ⟨v, rfl, rv⟩ := one r1
        have hv := x3v rv
        subst hv
        refine ⟨n, rfl, by omega, by omega, fun p hp => ⟨p, n, rfl, x23, hn.1, hn.2, fun l hl => ?_⟩⟩
        have ne : ∀ a x, H1 a = some x -> a ≠ p := fun a x e => x1f e hp
        have st : x8k H1 w1 (upd H1 p (.rng 0 n)) w1 := fun a x e nn => ⟨by rw [x0q (ne a x e)]; exact e, nn⟩
        have nw : ∀ a o, w1 a = some o -> a ≠ p := fun a o e => by obtain ⟨vs, q⟩ := g1.wl a o e; exact ne a _ q
        have g2 : Good K ρ' σ (upd H1 p (.rng 0 n)) w1 t := ⟨fun a o e => by
          obtain ⟨us, q⟩ := g1.wl a o e
          exact ⟨us, by rw [x0q (nw a o e)]; exact q⟩, g1.ws, g1.wt, g1.len, fun i d q e => by
          obtain ⟨v, F, h1, h2⟩ := g1.slot i d q e
          exact ⟨v, F, h1, Rep.go g1.wl st h2 fun a m => ⟨x0q (nw a _ (h2.owns a m)), h2.owns a m⟩⟩⟩
        have go2 : Go H1 w1 (upd H1 p (.rng 0 n)) w1 := ⟨st, fun a o e _ => ⟨x0q (nw a o e), e⟩⟩
        obtain ⟨w', F, a1, a2, a3⟩ := al g2 hl (y6d n.toNat)
        exact k _ _ _ _ a1 ((go1.trans go2).trans a2) a3
      · cases h1
    · cases h1
  · cases ee
theorem y9a (hc : X.calm = true) (hm : X.mg "list" = none) (hb : bootBuiltins "list" = some (.type "list")) (hmr : X.mg "range" = none) (ha : PDA X [a] g) (hg : Gl X "list" := by rfl) (hgr : Gl X "range" := by rfl) (hs : starEach [a] X.env = [(false, eval a X.env)] := by rfl)
    (he : starEach [.Call (.Name "range" p1) [a] [] pos1] X.env = (false, eval (.Call (.Name "range" p1) [a] [] pos1) X.env) :: starEach [] X.env := by rfl) (hpl : (backTo pos (starEach [] X.env)).any (·.1) = false := by rfl) : PD X (.Call (.Name "list" p) [.Call (.Name "range" p1) [a] [] pos1] [] pos) (x8m g) :=
  PE.imp (x6y (y1c hc) hg hm hb (x6o (y52 hgr hmr ha hs) y0o he) (by decide) (by decide) he hpl) (y2w fun g hp r => by
    obtain ⟨a1, a2, a3⟩ := y6l g hp r
    exact ⟨_, _, a1, a2, a3⟩)
theorem z3l (hc : X.calm = true) (hm : X.mg "tuple" = none) (hb : bootBuiltins "tuple" = some (.type "tuple")) (hmr : X.mg "range" = none) (ha : PDA X [a] g) (hg : Gl X "tuple" := by rfl) (hgr : Gl X "range" := by rfl) (hs : starEach [a] X.env = [(false, eval a X.env)] := by rfl)
    (he : starEach [.Call (.Name "range" p1) [a] [] pos1] X.env = (false, eval (.Call (.Name "range" p1) [a] [] pos1) X.env) :: starEach [] X.env := by rfl) (hpl : (backTo pos (starEach [] X.env)).any (·.1) = false := by rfl) : PD X (.Call (.Name "tuple" p) [.Call (.Name "range" p1) [a] [] pos1] [] pos) (z45 g) :=
  PE.imp (x6y (y0f hc) hg hm hb (x6o (y52 hgr hmr ha hs) y0o he) (by decide) (by decide) he hpl) (y2w fun g hp r => by
    obtain ⟨a1, a2, a3⟩ := y14 g hp r
    exact ⟨_, _, a1, a2, a3⟩)
end
end L3
namespace L3
open PySem PySem.Spec PyProof.Rows L2
theorem x8y {M : Model} {A : Around} {E : Value -> Shared -> Prop} {s : Shared} {β : Type} {n : Nat} (f : Nat -> β -> Sem (ForInStep β)) (I : List Nat -> β -> Shared -> Prop) (Q : β -> Shared -> Prop) (b : β)
    (turn : ∀ x x2b b s, I (x :: x2b) b s -> wpAny M A (f x b) (fun r s' => match r with | .yield b' => I x2b b' s' | .done b' => Q b' s') E s)
    (fin : ∀ b s, I [] b s -> Q b s) (h : I (List.range' 0 n 1) b s) : wpAny M A (forIn [0:n] b f) Q E s := by
  rw [Std.Legacy.Range.forIn_eq_forIn_range']
  refine wpAny_forIn_list f I Q turn fin _ b ?_
  have e : (Std.Legacy.Range.size [0:n]) = n := by simp [Std.Legacy.Range.size]
  show I (List.range' 0 (Std.Legacy.Range.size [0:n]) 1) b s
  rw [e]
  exact h
open AutoSeq1 (wpAny_loadPart') in
theorem y1y (l : Addr) (items : Array Value) (n : Nat) (dd : Option Addr) (sl : Array (Option Value)) (x : Value) (e : Value -> Bool) (j : Nat) (hj : j < items.size) (hit : e items[j] = true) (hno : ∀ m (hm : m < items.size), m < j -> e items[m] = false) :
    Meets (Builtin.«tuple.index» ⟨[.ref l, x], []⟩)
      (fun A R s => s.heap.get? l = some { cls := .type "tuple", dict := dd, data := .seq items n, slots := sl } /\ (∀ y, y ∈ items -> SeqAt.EqAt A.in1 s y x (e y)) /\ R (.ok (.ret (.int j s.toks))) { s with toks := s.toks + 1 }) :=
  .of_wp fun prog w A R s h => by
    obtain ⟨hp, g, d, tk, os⟩ := s; obtain ⟨hl, he, h⟩ := h
    wp_walk using wpAny_loadPart' hl, x8y _ (fun x2b b s' => b.1 = none /\ s' = ⟨hp, g, d, tk, os⟩ /\ ∃ i k, x2b = List.range' i k 1 /\ i + k = items.size /\ i <= j) _
    case turn =>
      rintro y x2b b s' ⟨hb, rfl, i, k, hr, hik, hij⟩
      cases k with
      | zero => simp at hr
      | succ k =>
        rw [List.range'_succ] at hr
        obtain ⟨rfl, rfl⟩ := List.cons.inj hr
        have hlt : y < items.size := by omega
        have hget : items[y]? = some items[y] := by simp [hlt]
        rw [hget]
        refine wpAny_bind (he _ (Array.getElem_mem hlt) prog w _ _ ?_)
        by_cases hyj : y = j
        · subst hyj
          rw [hit]
          wp_walk
          exact ⟨_, rfl, h⟩
        · rw [hno y hlt (by omega)]
          wp_walk
          exact ⟨rfl, rfl, y + 1, k, rfl, by omega, by omega⟩
    case fin =>
      rintro ⟨b1, b2⟩ s' ⟨hb, rfl, i, k, hr, hik, hij⟩
      cases k with
      | zero => omega
      | succ k => simp [List.range'_succ] at hr
    case h =>
      exact ⟨rfl, rfl, 0, items.size, by simp, by omega, by omega⟩
end L3
namespace L3
open PySem PySem.Spec PyProof.Rows L2
noncomputable def z8v (d : D) (ds : List D) : Option Nat := (x6a ds).findIdx? fun y => PyData.eqv y (toP d)
noncomputable def z3e (K : PySem.W.Frag) : V -> List V -> Hp -> VK -> Prop := fun x xs H Q => ∃ ds d y j, xs = [y] /\ Is K H (.tup ds) x /\ Is K H d y /\ okD (.tup ds) = true /\ okD d = true /\ z8v d ds = some j /\ Q (.int (Int.ofNat j)) H
section
variable {X : Cx} {a b c e : Expr} {es : List Expr} {fa fb fc f : Den} {g : x2a} {pos p p1 p2 cpos apos : Pos}
theorem y87 (hu : X.A.units + 65 < cLine) : MtR X "tuple.index" (z3e X.K) := by
  intro pins s σ H x xs v us Q I rx rs ⟨ds, d, y, j, e, ⟨w, o, q, F, h1⟩, ⟨w', o', q', F', h2⟩, k1, k2, hj, hq⟩
  subst e
  obtain ⟨u, rfl, ru⟩ := y4g rs
  obtain ⟨as, ra⟩ := h1.reads I rx (y2f k1)
  obtain ⟨bs, rb⟩ := h2.reads I ru (y2f k2)
  replace k1 := y35 k1
  replace k2 := y35 k2
  unfold toP at ra k1
  have hc1 : PyData.canLayAll0 (x6a ds) = true := SeqAt.canLay_of_shaped k1
  have hc2 := SeqAt.canLay_of_shaped k2
  cases ra with
  | @tuple a ob vs n _ _ ho hcl hd hrs =>
    obtain ⟨cls, dd, data, sl⟩ := ob
    simp only at hcl hd
    subst hcl hd
    have hmap := SeqAt.readsAll_map _ _ _ hc1 hrs
    have hfi := List.findIdx?_eq_some_iff_getElem.mp hj
    obtain ⟨hjl, hjt, hjf⟩ := hfi
    have hlen : vs.size = (x6a ds).length := by rw [<- hmap]; simp
    have hat : ∀ m (hm : m < vs.size) (hm' : m < (x6a ds).length), SeqAt.readOf s.heap vs[m] = (x6a ds)[m] := fun m hm hm' => by
      have : (vs.toList.map (SeqAt.readOf s.heap))[m]? = (x6a ds)[m]? := by rw [hmap]
      simpa [hm, hm'] using this
    refine call_meets PySem.F.slot_tuple_index ⟨_, ho, rfl⟩ PySem.F.entry_tuple_index (PySem.F.args_tuple_index_2 _ _)
      (y1y a vs n dd sl u (fun y => PyData.eqv (SeqAt.readOf s.heap y) (toP d)) j (by omega) (by rw [hat j (by omega) hjl]; simpa using hjt) (fun m hm hmj => by rw [hat m hm (by omega)]; simpa using hjf m hmj)) ⟨ho, SeqAt.items_eqAt hrs rb hc1 hc2 (room_in_shaped k2 hu), ?_⟩
    exact ⟨.int (Int.ofNat j), H, I.tok _, ⟨_, rfl⟩, hq⟩
@[simp] noncomputable def y5m (fo : Den) (g : x2a) : Den := fun ρ => match fo ρ with
  | some (.tup ds, _, ρ1) => match g ρ1 with
    | some ([d], ρ2) => if okD (.tup ds) = true /\ okD d = true then match z8v d ds with
      | some j => some (.int (Int.ofNat j), 9, ρ2)
      | none => none
      else none
    | _ => none
  | _ => none
theorem z0y {k : Nat} (hr : Room k X.A) (ho : PD X a fa) (ha : PDA X [e] g)
    (hbase : attributeBase a "index" X.env (eval a X.env) = eval a X.env := by rfl)
    (hfew : ((backTo cpos (starEach [e] X.env)).all (fun x => !x.1) && (backToKw cpos (keywordEach [] X.env)).all (fun x => x.1.isSome)
      && decide ([e].length + ([] : List Keyword).length + (if ([] : List Keyword).isEmpty then 0 else 1) < 30)) = true := by rfl)
    (hline : (apos.endLine == cpos.line) = true := by rfl) (hs : starEach [e] X.env = (false, eval e X.env) :: starEach [] X.env := by rfl) (hplain : (backTo cpos (starEach [] X.env)).any (·.1) = false := by rfl) :
    PD X (.Call (.Attribute a "index" apos) [e] [] cpos) (y5m fa g) :=
  PE.imp (z2j PySem.F.plainAttrs_tuple PySem.F.slot_tuple_index PySem.F.type_tuple_index (y87 (u65 hr)) ho ha hbase hfew hline hs hplain) fun σ H Q hh0 => by
  obtain ⟨ρ, w, t, r', q, ρ', gd, ee, k⟩ := hh0
  unfold y5m at ee
  split at ee
  · rename_i ds q1 ρ1 h1
    split at ee
    · rename_i d ρ2 h2
      split at ee
      · rename_i hok
        split at ee
        · rename_i j hj
          cases ee
          refine ⟨ρ, w, t, _, _, _, gd, h1, fun v H1 w1 F1 g1 go1 r1 => ?_⟩
          have r0 := r1.drop (o := .f) (Nat.le_refl t)
          have gg := g1.drop (t' := t)
          obtain ⟨p0, vs, rfl, hq, rs⟩ := r0.tupAt
          refine ⟨?_, ρ1, x20 t w1, t, _, _, gg, h2, fun vs2 H2 w2 g2 go2 r2 => ?_⟩
          · exact .inr (.inl ⟨rfl, .inr ⟨_, hq⟩⟩)
          · obtain ⟨v2, rfl, rv2⟩ := one r2
            have r3 : Rep X.K H2 w2 .f 0 (.tup ds) (.ref p0) [] := r0.go0 gg.wl go2.stab
            exact ⟨ds, d, v2, j, rfl, ⟨_, _, _, _, r3⟩, ⟨_, _, _, _, rv2⟩, hok.1, hok.2, hj, k _ H2 w2 [] g2.up ((go1.drop gd.wt).trans go2) (.int _)⟩
        · cases ee
      · cases ee
    · cases ee
  · cases ee
theorem Good.mut {K : PySem.W.Frag} {ρ : Rho} {σ : St} {H : Hp} {w : Wn} {t i : Nat} {ds : List D} (g : Good K ρ σ H w t) (e : ρ[i]? = some (some (.lst ds, 1))) :
    ∃ l vs, σ[i]? = some (some (.ref l)) /\ H l = some (.lst vs) /\ Reps K H w .f 0 ds vs [] /\ ∀ ds' vs', Reps K H w .f 0 ds' vs' [] ->
      Good K (ρ.set i (some (.lst ds', 1))) σ (upd H l (.lst vs')) w t /\ Go H w (upd H l (.lst vs')) w := by
  obtain ⟨v, F, h1, h2⟩ := g.slot i _ _ e
  cases h2 with
  | @own _ l vs _ F' hl hw rs ne =>
    have hF := rs.zero
    subst hF
    refine ⟨l, vs, h1, hl, rs.any g.wl, fun ds' vs' r' => ?_⟩
    have nl : ∀ a o, w a = some o -> o ≠ .s i -> a ≠ l := fun a o e n z => by subst z; rw [hw] at e; exact n (Option.some.inj e).symm
    have nn : ∀ a, w a = none -> a ≠ l := fun a e z => by subst z; rw [hw] at e; cases e
    have st : x8k H w (upd H l (.lst vs')) w := fun a x h n => ⟨by rw [x0q (nn a n)]; exact h, n⟩
    refine ⟨⟨fun a o h => ?_, g.ws, g.wt, by rw [List.length_set]; exact g.len, fun j d' q' e' => ?_⟩, ⟨st, fun a o h n => ⟨x0q (nl a o h (n i)), h⟩⟩⟩
    · by_cases z : a = l
      · subst z; exact ⟨_, x23⟩
      · obtain ⟨us, q⟩ := g.wl a o h
        exact ⟨us, by rw [x0q z]; exact q⟩
    · by_cases hj : i = j
      · subst hj
        rw [List.getElem?_set_self (List.getElem?_eq_some_iff.mp e).1] at e'
        cases e'
        exact ⟨_, _, h1, .own x23 hw (Reps.go g.wl st r' (fun _ z => nomatch z)) (fun z => nomatch z)⟩
      · rw [List.getElem?_set_ne hj] at e'
        obtain ⟨v', F', h1', h2'⟩ := g.slot j d' q' e'
        exact ⟨v', F', h1', Rep.go g.wl st h2' fun a m => ⟨x0q (nl a _ (h2'.owns a m) (fun z => hj (by cases z; rfl))), h2'.owns a m⟩⟩
@[simp] noncomputable def y8m : Option (Option (D × Nat)) -> Bool
  | some (some (.lst _, _)) => true
  | _ => false
theorem Good.isL {K : PySem.W.Frag} {ρ : Rho} {σ : St} {H : Hp} {w : Wn} {t i : Nat} (g : Good K ρ σ H w t) (h : y8m ρ[i]? = true) : ∃ l, σ[i]? = some (some (.ref l)) /\ ∃ vs, SqL K H l vs := by
  unfold y8m at h
  split at h
  · rename_i ds q e
    obtain ⟨v, F, h1, h2⟩ := g.slot i _ _ e
    obtain ⟨p, vs, _, _, rfl, hq, _⟩ := h2.seqL
    exact ⟨p, h1, vs, hq⟩
  · cases h
@[simp] noncomputable def x7v (i : Nat) (g : x2a) : Den := fun ρ => if y8m ρ[i]? = true then match g ρ with
  | some ([d], ρ1) => match ρ1[i]? with
    | some (some (.lst ds, 1)) => if ds.length <= 1000 then some (.non, 9, ρ1.set i (some (.lst (ds ++ [d]), 1))) else none
    | _ => none
  | _ => none
  else none
theorem y6s {i : Nat} {x : Str} (h : PE X (.Name x p1) (x9j i)) (ha : PDA X [e] g)
    (hbase : attributeBase (.Name x p1) "append" X.env (eval (.Name x p1) X.env) = eval (.Name x p1) X.env := by rfl)
    (hfew : ((backTo cpos (starEach [e] X.env)).all (fun x => !x.1) && (backToKw cpos (keywordEach [] X.env)).all (fun x => x.1.isSome)
      && decide ([e].length + ([] : List Keyword).length + (if ([] : List Keyword).isEmpty then 0 else 1) < 30)) = true := by rfl)
    (hline : (apos.endLine == cpos.line) = true := by rfl) (hs : starEach [e] X.env = (false, eval e X.env) :: starEach [] X.env := by rfl) (hplain : (backTo cpos (starEach [] X.env)).any (·.1) = false := by rfl) :
    PD X (.Call (.Attribute (.Name x p1) "append" apos) [e] [] cpos) (x7v i g) :=
  PE.imp (z2j PySem.F.plainAttrs_list PySem.F.slot_list_append PySem.F.type_list_append y79 h ha hbase hfew hline hs hplain) fun σ H Q hh0 => by
  obtain ⟨ρ, w, t, r', q, ρ', gd, ee, k⟩ := hh0
  unfold x7v at ee
  split at ee
  · rename_i hl
    obtain ⟨l, hσ, us, hq⟩ := gd.isL hl
    split at ee
    · rename_i d ρ1 h1
      split at ee
      · rename_i ds e1
        split at ee
        · rename_i hlen
          cases ee
          refine ⟨_, hσ, .inl ⟨rfl, us, hq⟩, ρ, w, t, _, _, gd, h1, fun vs H1 w1 g1 go1 r1 => ?_⟩
          obtain ⟨v, rfl, rv⟩ := one r1
          obtain ⟨l', ws, hσ', hH, rs, mk⟩ := g1.mut e1
          rw [hσ] at hσ'
          cases hσ'
          have r2 : Reps X.K H1 w1 .f 0 (ds ++ [d]) (ws ++ [v]) [] := Reps.snoc (F := []) (G := []) rv rs (fun _ z => nomatch z)
          obtain ⟨m1, m2⟩ := mk _ _ r2
          refine ⟨l, ws, v, rfl, rfl, hH, by rw [<- rs.length]; exact x4a hlen, ?_⟩
          exact k .non _ w1 [] m1.up (go1.trans m2) .non
        · cases ee
      · cases ee
    · cases ee
  · cases ee
theorem Reps.eraseIdx {K : PySem.W.Frag} {H : Hp} {w : Wn} : ∀ {ds : List D} {vs : List V} (i : Nat), Reps K H w .f 0 ds vs [] -> Reps K H w .f 0 (ds.eraseIdx i) (vs.eraseIdx i) []
  | ds, vs, i, r => by
    generalize hF : ([] : List Addr) = F at r
    cases r with
    | nil => exact .nil
    | @cons _ d v ds vs F G r s _ =>
      have h1 : F = [] := r.zero
      have h2 : G = [] := s.zero
      subst h1 h2
      cases i with
      | zero => exact s
      | succ j => exact .cons (F := []) (G := []) r (Reps.eraseIdx j s) (fun _ z => nomatch z)
@[simp] noncomputable def z51 (i : Nat) (g : x2a) : Den := fun ρ => if y8m ρ[i]? = true then match g ρ with
  | some ([.int n], ρ1) => match ρ1[i]? with
    | some (some (.lst ds, 1)) => if -1000 <= n /\ n <= 1000 then match seqIndex? n ds.length with
      | some j => match ds[j]? with
        | some d => some (d, y0h d, ρ1.set i (some (.lst (ds.eraseIdx j), 1)))
        | none => none
      | none => none
      else none
    | _ => none
  | _ => none
  else none
theorem z5x {i : Nat} {x : Str} (h : PE X (.Name x p1) (x9j i)) (ha : PDA X [e] g)
    (hbase : attributeBase (.Name x p1) "pop" X.env (eval (.Name x p1) X.env) = eval (.Name x p1) X.env := by rfl)
    (hfew : ((backTo cpos (starEach [e] X.env)).all (fun x => !x.1) && (backToKw cpos (keywordEach [] X.env)).all (fun x => x.1.isSome)
      && decide ([e].length + ([] : List Keyword).length + (if ([] : List Keyword).isEmpty then 0 else 1) < 30)) = true := by rfl)
    (hline : (apos.endLine == cpos.line) = true := by rfl) (hs : starEach [e] X.env = (false, eval e X.env) :: starEach [] X.env := by rfl) (hplain : (backTo cpos (starEach [] X.env)).any (·.1) = false := by rfl) :
    PD X (.Call (.Attribute (.Name x p1) "pop" apos) [e] [] cpos) (z51 i g) :=
  PE.imp (z2j PySem.F.plainAttrs_list PySem.F.slot_list_pop PySem.F.type_list_pop z00 h ha hbase hfew hline hs hplain) fun σ H Q hh0 => by
  obtain ⟨ρ, w, t, r', q, ρ', gd, ee, k⟩ := hh0
  unfold z51 at ee
  split at ee
  · rename_i hl
    obtain ⟨l, hσ, us, hq⟩ := gd.isL hl
    split at ee
    · rename_i n ρ1 h1
      split at ee
      · rename_i ds e1
        split at ee
        · rename_i hn
          split at ee
          · rename_i j hj
            split at ee
            · rename_i d hd
              cases ee
              refine ⟨_, hσ, .inl ⟨rfl, us, hq⟩, ρ, w, t, _, _, gd, h1, fun vs H1 w1 g1 go1 r1 => ?_⟩
              obtain ⟨v, rfl, rv⟩ := one r1
              have hv := x3v rv
              subst hv
              obtain ⟨l', ws, hσ', hH, rs, mk⟩ := g1.mut e1
              rw [hσ] at hσ'
              cases hσ'
              obtain ⟨y, hy, ry⟩ := rs.get hd
              obtain ⟨m1, m2⟩ := mk _ _ (rs.eraseIdx j)
              refine ⟨l, ws, n, j, y, rfl, rfl, hH, by omega, by omega, by rw [<- rs.length]; exact hj, hy, ?_⟩
              have ry' : Rep X.K _ w1 (.t t) 0 r' y [] := Rep.go g1.wl m2.stab ry (fun _ z => nomatch z)
              exact k y _ w1 [] m1.up (go1.trans m2) ry'.dep
            · cases ee
          · cases ee
        · cases ee
      · cases ee
    · cases ee
  · cases ee
end
theorem Reps.getQ {K : PySem.W.Frag} {H : Hp} {w : Wn} {o : Ow} {q : Nat} : ∀ {ds : List D} {vs : List V} {F : List Addr} {i : Nat} {d : D}, Reps K H w o q ds vs F -> ds[i]? = some d -> ∃ v G, vs[i]? = some v /\ Rep K H w o q d v G /\ ∀ a ∈ G, a ∈ F
  | _, _, _, _, _, .nil, e => by simp at e
  | _, _, _, 0, _, .cons r _ _, e => by
    simp at e; subst e; exact ⟨_, _, rfl, r, fun a m => List.mem_append_left _ m⟩
  | _, _, _, i + 1, d, .cons _ s _, e => by
    obtain ⟨v, G, h1, h2, h3⟩ := Reps.getQ (i := i) (d := d) s (by simpa using e)
    exact ⟨v, G, by simpa using h1, h2, fun a m => List.mem_append_right _ (h3 a m)⟩
theorem Reps.atQ {K : PySem.W.Frag} {H : Hp} {w : Wn} {o : Ow} {q : Nat} {ds : List D} {vs : List V} {F : List Addr} {i : Int} {d : D} (r : Reps K H w o q ds vs F) (h : L2.atI ds i = some d) : ∃ v G, L2.atI vs i = some v /\ Rep K H w o q d v G /\ ∀ a ∈ G, a ∈ F := by
  unfold L2.atI at h ⊢
  rw [<- r.length]
  cases e : ixN ds.length i with
  | none => rw [e] at h; cases h
  | some j =>
    rw [e] at h
    exact r.getQ h
@[simp] noncomputable def x1k (n : Nat) (fb : Den) : Den := fun ρ => match ρ[n]? with
  | some (some _) => match fb ρ with
    | some (.int i, _, ρ2) => match ρ2[n]? with
      | some (some (x, q)) => match atD x i with
        | some d => if d.isL = true /\ 1 < q /\ x.isL = true then none else some (d, y0h d, ρ2)
        | none => none
      | _ => none
    | _ => none
  | _ => none
section
variable {X : Cx} {a b c e : Expr} {es : List Expr} {fa fb fc f : Den} {g : x2a} {pos p p1 p2 cpos apos : Pos}
theorem z6d {n : Nat} {x : Str} (h : PE X (.Name x p1) (x9j n)) (hb : PD X b fb) (hs : x45 b := by exact fun _ _ => rfl) : PD X (.Subscript (.Name x p1) b pos) (x1k n fb) := PE.imp (y82 y2b h hb hs) fun σ H Q hh0 => by
  obtain ⟨ρ, w, t, r', q, ρ', gd, ee, k⟩ := hh0
  unfold x1k at ee
  split at ee
  · rename_i z0 e0
    obtain ⟨d0, q0⟩ := z0
    obtain ⟨v, F, hσ, _⟩ := gd.slot n d0 q0 e0
    split at ee
    · rename_i i q2 ρ2 h2
      split at ee
      · rename_i x q e2
        split at ee
        · rename_i d hd
          split at ee
          · cases ee
          · rename_i hn
            cases ee
            refine ⟨v, hσ, ρ, w, t, _, _, _, gd, h2, fun y H2 w2 F2 g2 go r2 => ?_⟩
            have hy := x3v r2
            subst hy
            have gg := g2.drop (t' := t)
            obtain ⟨v', F', hσ', rr⟩ := gg.slot n x q e2
            rw [hσ] at hσ'
            cases hσ'
            have fin : ∀ u, Rep X.K H2 (x20 t w2) (.t t) 0 r' u [] -> Q u H2 := fun u ru => k u H2 (x20 t w2) [] gg.up (go.drop gd.wt) ru.dep
            cases x with
            | lst ds =>
              by_cases hq0 : q = 0
              · subst hq0
                obtain ⟨p0, vs, rfl, hq, rs⟩ := rr.seqL0
                obtain ⟨u, hu, ru⟩ := rs.atI hd
                exact .inl ⟨p0, vs, i, u, rfl, rfl, hq, hu, fin u (ru.any gg.wl)⟩
              · by_cases hq1 : q = 1
                · subst hq1
                  cases rr with
                  | own h0 _ rs _ =>
                    have z0 := rs.zero
                    subst z0
                    obtain ⟨u, hu, ru⟩ := rs.atI hd
                    exact .inl ⟨_, _, i, u, rfl, rfl, SqL.of h0, hu, fin u (ru.any gg.wl)⟩
                · obtain ⟨p0, vs, q', G, rfl, hq, rs⟩ := rr.seqL
                  obtain ⟨u, G', hu, ru, _⟩ := rs.atQ hd
                  refine .inl ⟨p0, vs, i, u, rfl, rfl, hq, hu, fin u ?_⟩
                  cases hL : r'.isL with
                  | false => exact ((ru.nolist hL).2 0).any gg.wl
                  | true => exact absurd ⟨hL, by omega, rfl⟩ hn
            | tup ds =>
              obtain ⟨p0, vs, rfl, hq, rs⟩ := rr.seqT
              obtain ⟨u, hu, ru⟩ := rs.atI hd
              exact .inr (.inl ⟨p0, vs, i, u, rfl, rfl, hq, hu, fin u (ru.any gg.wl)⟩)
            | _ => cases hd
        · cases ee
      · cases ee
    · cases ee
  · cases ee
@[simp] noncomputable def x9a (fa fb : Den) : Den := fun ρ => match fa ρ with
  | some (.lst ds, 1, ρ1) => match fb ρ1 with
    | some (.int n, _, ρ2) => if -1000 <= n /\ n <= 1000 /\ ds.length * n.toNat <= 1000 then some (.lst (List.replicate n.toNat ds).flatten, 1, ρ2) else none
    | _ => none
  | _ => none
theorem Reps.app {K : PySem.W.Frag} {H : Hp} {w : Wn} {es : List D} {us : List V} (s : Reps K H w .f 0 es us []) : ∀ {ds : List D} {vs : List V}, Reps K H w .f 0 ds vs [] -> Reps K H w .f 0 (ds ++ es) (vs ++ us) []
  | ds, vs, r => by
    generalize hF : ([] : List Addr) = F at r
    cases r with
    | nil => rw [<- hF]; exact s
    | @cons _ d v ds vs F G r t _ =>
      have h1 : F = [] := r.zero
      have h2 : G = [] := t.zero
      subst h1 h2
      exact .cons (F := []) (G := []) r (Reps.app s t) (fun _ z => nomatch z)
theorem Reps.times {K : PySem.W.Frag} {H : Hp} {w : Wn} {ds : List D} {vs : List V} (r : Reps K H w .f 0 ds vs []) : ∀ n : Nat, Reps K H w .f 0 (List.replicate n ds).flatten (List.replicate n vs).flatten []
  | 0 => .nil
  | n + 1 => by
    rw [List.replicate_succ, List.replicate_succ, List.flatten_cons, List.flatten_cons]
    exact Reps.app (Reps.times r n) r
theorem z3x (ha : PD X a fa) (hb : PD X b fb) : PD X (.BinOp a .Mult b pos) (x9a fa fb) := PE.imp (y21 z6a ha hb) fun σ H Q hh0 => by
  obtain ⟨ρ, w, t, r', q, ρ', gd, ee, k⟩ := hh0
  unfold x9a at ee
  split at ee
  · rename_i ds ρ1 h1
    split at ee
    · rename_i n q2 ρ2 h2
      split at ee
      · rename_i hn
        cases ee
        refine z2u gd h1 h2 fun u u' H2 w2 F1 F2 g2 go r1 r2 => ?_
        have hu' := x3v r2
        subst hu'
        cases r1 with
        | @own _ l vs _ F hl hw rs ne =>
          have hF := rs.zero
          subst hF
          have gg := g2.drop (t' := t)
          have rs' : Reps X.K H2 (x20 t w2) .f 0 ds vs [] := Reps.go g2.wl (fun a x h n => ⟨h, x5t n⟩) rs (fun _ z => nomatch z)
          refine ⟨l, n, vs, rfl, rfl, hl, by omega, by omega, ?_, fun p hp => ?_⟩
          · rw [<- rs.length]; exact x9g hn.2.2
          · obtain ⟨a1, a2, a3⟩ := y6l gg hp (rs'.times n.toNat)
            exact k _ _ _ _ a1 ((go.drop gd.wt).trans a2) a3
      · cases ee
    · cases ee
  · cases ee
end
theorem Reps.row {K : PySem.W.Frag} {H : Hp} {w : Wn} {o : Ow} (wl : WL w H) : ∀ {rows : List D} {vs : List V} {F : List Addr} {i : Nat} {row : List D}, Reps K H w o 1 rows vs F -> rows[i]? = some (.lst row) ->
    ∃ b ws, vs[i]? = some (.ref b) /\ H b = some (.lst ws) /\ w b = some o /\ b ∈ F /\ Reps K H w .f 0 row ws [] /\
      ∀ row' ws', Reps K H w .f 0 row' ws' [] -> Reps K (upd H b (.lst ws')) w o 1 (rows.set i (.lst row')) vs F
  | _, _, _, _, _, .nil, e => by simp at e
  | _, _, _, 0, row, .cons r s ne, e => by
    simp at e
    subst e
    cases r with
    | @own _ b ws _ F' hb hw rs nb =>
      have hF := rs.zero
      subst hF
      refine ⟨b, ws, rfl, hb, hw, by simp, rs.any wl, fun row' ws' r' => ?_⟩
      have nn : ∀ a, w a = none -> a ≠ b := fun a e z => by subst z; rw [hw] at e; cases e
      have st : x8k H w (upd H b (.lst ws')) w := fun a x h n => ⟨by rw [x0q (nn a n)]; exact h, n⟩
      refine .cons (.own x23 hw (Reps.go wl st r' (fun _ z => nomatch z)) (fun z => nomatch z)) (Reps.go wl st s fun a m => ⟨x0q fun z => ?_, s.owns a m⟩) ne
      subst z
      exact ne a (by simp) m
  | _, _, _, i + 1, row, .cons (d := d) (v := v) (F := F) (G := G) r s ne, e => by
    obtain ⟨b, ws, h1, h2, h3, h4, h5, mk⟩ := Reps.row wl (i := i) (row := row) s (by simpa using e)
    refine ⟨b, ws, by simpa using h1, h2, h3, List.mem_append_right _ h4, h5, fun row' ws' r' => ?_⟩
    have nn : ∀ a, w a = none -> a ≠ b := fun a e z => by subst z; rw [h3] at e; cases e
    have st : x8k H w (upd H b (.lst ws')) w := fun a x h n => ⟨by rw [x0q (nn a n)]; exact h, n⟩
    refine .cons (Rep.go wl st r fun a m => ⟨x0q fun z => ?_, r.owns a m⟩) (mk row' ws' r') ne
    subst z
    exact ne a m h4
theorem Good.mut2 {K : PySem.W.Frag} {ρ : Rho} {σ : St} {H : Hp} {w : Wn} {t i m : Nat} {rows row : List D} (g : Good K ρ σ H w t) (e : ρ[i]? = some (some (.lst rows, 2))) (em : rows[m]? = some (.lst row)) :
    ∃ l vs b ws, σ[i]? = some (some (.ref l)) /\ SqL K H l vs /\ vs.length = rows.length /\ vs[m]? = some (.ref b) /\ H b = some (.lst ws) /\ Reps K H w .f 0 row ws [] /\ ∀ row' ws', Reps K H w .f 0 row' ws' [] ->
      Good K (ρ.set i (some (.lst (rows.set m (.lst row')), 2))) σ (upd H b (.lst ws')) w t /\ Go H w (upd H b (.lst ws')) w := by
  obtain ⟨v, F, h1, h2⟩ := g.slot i _ _ e
  cases h2 with
  | @own _ l vs _ F' hl hw rs nl =>
    obtain ⟨b, ws, b1, b2, b3, b4, b5, mk⟩ := Reps.row g.wl rs em
    have hbl : l ≠ b := fun z => by subst z; exact nl b4
    refine ⟨l, vs, b, ws, h1, SqL.of hl, rs.length.symm, b1, b2, b5, fun row' ws' r' => ?_⟩
    have nl' : ∀ a o, w a = some o -> o ≠ .s i -> a ≠ b := fun a o e n z => by subst z; rw [b3] at e; exact n (Option.some.inj e).symm
    have nn : ∀ a, w a = none -> a ≠ b := fun a e z => by subst z; rw [b3] at e; cases e
    have st : x8k H w (upd H b (.lst ws')) w := fun a x h n => ⟨by rw [x0q (nn a n)]; exact h, n⟩
    refine ⟨⟨fun a o h => ?_, g.ws, g.wt, by rw [List.length_set]; exact g.len, fun j d' q' e' => ?_⟩, ⟨st, fun a o h n => ⟨x0q (nl' a o h (n i)), h⟩⟩⟩
    · by_cases z : a = b
      · subst z; exact ⟨_, x23⟩
      · obtain ⟨us, q⟩ := g.wl a o h
        exact ⟨us, by rw [x0q z]; exact q⟩
    · by_cases hj : i = j
      · subst hj
        rw [List.getElem?_set_self (List.getElem?_eq_some_iff.mp e).1] at e'
        cases e'
        exact ⟨_, _, h1, .own (by rw [x0q hbl]; exact hl) hw (mk row' ws' r') nl⟩
      · rw [List.getElem?_set_ne hj] at e'
        obtain ⟨v', F', h1', h2'⟩ := g.slot j d' q' e'
        exact ⟨v', F', h1', Rep.go g.wl st h2' fun a m => ⟨x0q (nl' a _ (h2'.owns a m) (fun z => hj (by cases z; rfl))), h2'.owns a m⟩⟩
theorem Reps.set0 {K : PySem.W.Frag} {H : Hp} {w : Wn} {d : D} {v : V} (rv : Rep K H w .f 0 d v []) : ∀ {ds : List D} {vs : List V} (i : Nat), Reps K H w .f 0 ds vs [] -> Reps K H w .f 0 (ds.set i d) (vs.set i v) []
  | ds, vs, i, r => by
    generalize hF : ([] : List Addr) = F at r
    cases r with
    | nil => rw [<- hF]; exact .nil
    | @cons _ d' v' ds vs F G r s _ =>
      have h1 : F = [] := r.zero
      have h2 : G = [] := s.zero
      subst h1 h2
      cases i with
      | zero => exact .cons (F := []) (G := []) rv s (fun _ z => nomatch z)
      | succ j => exact .cons (F := []) (G := []) r (Reps.set0 rv j s) (fun _ z => nomatch z)
noncomputable abbrev x9z := Rho -> Option Int
noncomputable def tQ (K : PySem.W.Frag) (f : x9z) : TE := fun σ H Q => ∃ ρ w t i, Good K ρ σ H w t /\ f ρ = some i /\ Q (.int i) H
noncomputable abbrev PQ (X : Cx) (e : Expr) (f : x9z) : Prop := PE X e (tQ X.K f)
@[simp] noncomputable def y6p (n : Nat) : x9z := fun ρ => match ρ[n]? with
  | some (some (.int i, _)) => some i
  | _ => none
@[simp] noncomputable def qIx (n : Nat) (f : x9z) : x9z := fun ρ => match f ρ with
  | some i => match ρ[n]? with
    | some (some (x, _)) => match atD x i with
      | some (.int j) => some j
      | _ => none
    | _ => none
  | none => none
section
variable {X : Cx} {a b c e : Expr} {es : List Expr} {fa fb fc f : Den} {qa qb : x9z} {g : x2a} {pos p p1 p2 cpos apos : Pos}
theorem z58 {n : Nat} {x : Str} (h : PE X (.Name x p1) (x9j n)) : PQ X (.Name x p1) (y6p n) := PE.imp h fun σ H Q hh0 => by
  obtain ⟨ρ, w, t, i, gd, ee, k⟩ := hh0
  unfold y6p at ee
  split at ee
  · rename_i j q e0
    cases ee
    obtain ⟨v, F, h1, h2⟩ := gd.slot n _ _ e0
    rw [x3v h2] at h1
    exact ⟨_, h1, k⟩
  · cases ee
theorem z9d {n : Nat} {x : Str} (h : PE X (.Name x p1) (x9j n)) (hb : PQ X b qb) (hs : x45 b := by exact fun _ _ => rfl) : PQ X (.Subscript (.Name x p1) b pos) (qIx n qb) := PE.imp (y82 y2b h hb hs) fun σ H Q hh0 => by
  obtain ⟨ρ, w, t, i, gd, ee, k⟩ := hh0
  unfold qIx at ee
  split at ee
  · rename_i i0 h0
    split at ee
    · rename_i x q e0
      split at ee
      · rename_i j hj
        cases ee
        obtain ⟨v, F, h1, h2⟩ := gd.slot n _ _ e0
        refine ⟨v, h1, ρ, w, t, i0, gd, h0, ?_⟩
        cases x with
        | lst ds =>
          obtain ⟨p0, vs, q', G, rfl, hq, rs⟩ := h2.seqL
          obtain ⟨u, G', hu, ru, _⟩ := rs.atQ hj
          rw [x3v ru] at hu
          exact .inl ⟨p0, vs, i0, _, rfl, rfl, hq, hu, k⟩
        | tup ds =>
          obtain ⟨p0, vs, rfl, hq, rs⟩ := h2.seqT
          obtain ⟨u, hu, ru⟩ := rs.atI hj
          rw [x3v ru] at hu
          exact .inr (.inl ⟨p0, vs, i0, _, rfl, rfl, hq, hu, k⟩)
        | _ => cases hj
      · cases ee
    · cases ee
  · cases ee
@[simp] noncomputable def y68 (n : Nat) (qi qj : x9z) (fe : Den) : x1b := fun ρ => match fe ρ with
  | some (d, _, ρ1) => match qi ρ1, qj ρ1, ρ1[n]? with
    | some i, some j, some (some (.lst rows, 2)) => match ixN rows.length i with
      | some m => match rows[m]? with
        | some (.lst row) => match ixN row.length j with
          | some k => some (.nx (ρ1.set n (some (.lst (rows.set m (.lst (row.set k d))), 2))))
          | none => none
        | _ => none
      | none => none
    | _, _, _ => none
  | none => none
theorem z1b {n : Nat} {x : Str} (h : PE X (.Name x p1) (x9j n)) (ha : PQ X a qa) (hb : PQ X b qb) (he : PD X e f) (hi : x45 a := by exact fun _ _ => rfl)
    (hasg : ∀ v, assign (.Subscript (.Subscript (.Name x p1) a p2) b p) X.env v = (do
      let ov <- holding [v] (eval (.Subscript (.Name x p1) a p2) X.env)
      let iv <- holding [v, ov] (eval b X.env)
      standAt p
      holding [v, ov, iv] (setItem ov iv v)
      release [v, ov, iv] []) := by exact fun _ => rfl)
    (hs : swapsWithSole [.Subscript (.Subscript (.Name x p1) a p2) b p] e pos.line X.env = pure false := by rfl) :
    PDS X (.Assign [.Subscript (.Subscript (.Name x p1) a p2) b p] e pos) (y68 n qa qb f) := by
  refine PS.imp (z1p he (z1s (y82 y2b h ha hi) hb y4v hasg) hs) fun D σ H ⟨ρ, w, o, gd, ee, k⟩ => ?_
  unfold y68 at ee
  split at ee
  · rename_i d q0 ρ1 h1
    split at ee
    · rename_i i j rows hi hj er
      split at ee
      · rename_i m hm
        split at ee
        · rename_i row erow
          split at ee
          · rename_i kk hk
            cases ee
            refine ⟨ρ, w, 0, d, q0, ρ1, gd, h1, fun v H1 w1 F1 g1 go1 r1 => ?_⟩
            have rv := r1.drop (o := .f) (Nat.le_refl 0)
            have gg := g1.drop (t' := 0)
            obtain ⟨l, vs, b0, ws, m1, m2, m3, m4, m5, m6, mk⟩ := gg.mut2 er erow
            refine ⟨_, m1, ρ1, x20 0 w1, 0, i, gg, hi, .inl ⟨l, vs, i, .ref b0, rfl, rfl, m2, ?_, ρ1, x20 0 w1, 0, j, gg, hj, b0, ws, j, kk, rfl, rfl, m5, ?_, ?_⟩⟩
            · unfold atI; rw [m3, hm]; exact m4
            · rw [<- m6.length]; exact hk
            · obtain ⟨n1, n2⟩ := mk _ _ (m6.set0 rv kk)
              exact k _ _ _ rfl n1 ((go1.drop gd.wt).trans n2)
          · cases ee
        · cases ee
      · cases ee
    · cases ee
  · cases ee
end
@[simp] noncomputable def z2v (fa fb : Den) : Den := fun ρ => match fa ρ with
  | some (.bl b, _, ρ1) => if b = true then fb ρ1 else some (.bl false, 9, ρ1)
  | _ => none
@[simp] noncomputable def z8s (fa : Den) : Den := fun ρ => match fa ρ with
  | some (.bl b, _, ρ1) => some (.bl (!b), 9, ρ1)
  | _ => none
section
variable {X : Cx} {a b c e : Expr} {es x2b : List Expr} {fa fb fc f : Den} {g : x2a} {pos p p1 p2 cpos apos : Pos}
theorem z5v {op} (h : PD X a fa) : PD X (.BoolOp op [a] pos) fa := z6p h
theorem z8i (ha : PD X a fa) (hb : PD X (.BoolOp .And (b :: x2b) pos) fb) : PD X (.BoolOp .And (a :: b :: x2b) pos) (z2v fa fb) := PE.imp (z78 ha hb) fun σ H Q hh0 => by
  obtain ⟨ρ, w, t, r', q, ρ', gd, ee, k⟩ := hh0
  unfold z2v at ee
  split at ee
  · rename_i b' q1 ρ1 h1
    refine ⟨ρ, w, t, _, _, _, gd, h1, fun v H1 w1 F1 g1 go1 r1 => ?_⟩
    cases r1
    refine ⟨b', rfl, ?_⟩
    split at ee
    · rename_i hb; rw [if_pos hb]
      exact ⟨ρ1, x20 t w1, t, r', q, ρ', g1.drop, ee, fun v H2 w2 F g2 go2 => k v H2 w2 F g2 ((go1.drop gd.wt).trans go2)⟩
    · rename_i hb; rw [if_neg hb]
      cases ee
      exact k _ H1 w1 [] g1 go1 (.bl false)
  · cases ee
theorem z5b (ha : PD X a fa) : PD X (.UnaryOp .Not a pos) (z8s fa) := PE.imp (z6l ha) fun σ H Q hh0 => by
  obtain ⟨ρ, w, t, r', q, ρ', gd, ee, k⟩ := hh0
  unfold z8s at ee
  split at ee
  · rename_i b' q1 ρ1 h1
    cases ee
    refine ⟨ρ, w, t, _, _, _, gd, h1, fun v H1 w1 F1 g1 go1 r1 => ?_⟩
    cases r1
    exact ⟨b', rfl, k _ H1 w1 [] g1 go1 (.bl _)⟩
  · cases ee
end
section
variable {es x2b : List Expr} {a b c e : Expr} {pos : Pos} {env : Env}
theorem x1a {op} : starEach (.BinOp a op b pos :: x2b) env = (false, eval (.BinOp a op b pos) env) :: starEach x2b env := by simp only [starEach]
theorem y1n : starEach (.IfExp a b c pos :: x2b) env = (false, eval (.IfExp a b c pos) env) :: starEach x2b env := by simp only [starEach]
theorem x3c {g sc} : starEach (.ListComp a g sc pos :: x2b) env = (false, eval (.ListComp a g sc pos) env) :: starEach x2b env := by simp only [starEach]
theorem x0o {k} : starEach (.Call a es k pos :: x2b) env = (false, eval (.Call a es k pos) env) :: starEach x2b env := by simp only [starEach]
theorem x08 {v k} : starEach (.Constant v k pos :: x2b) env = (false, eval (.Constant v k pos) env) :: starEach x2b env := by simp only [starEach]
theorem x0s : starEach (.Subscript a b pos :: x2b) env = (false, eval (.Subscript a b pos) env) :: starEach x2b env := by simp only [starEach]
theorem x04 {x} : starEach (.Name x pos :: x2b) env = (false, eval (.Name x pos) env) :: starEach x2b env := by simp only [starEach]
theorem x9c : starEach (.List es pos :: x2b) env = (false, eval (.List es pos) env) :: starEach x2b env := by simp only [starEach]
theorem x54 {k} : starEach (.Tuple es k pos :: x2b) env = (false, eval (.Tuple es k pos) env) :: starEach x2b env := by simp only [starEach]
end
noncomputable def At (K : PySem.W.Frag) (mg : Str -> Option Value) (x : Str) (st : Stmt) (ps : List Str) : Prop :=
  ∃ f fd, Fun K x x st f fd /\ mg x = some (.ref f) /\ y2d K fd ps []
noncomputable def Cal (P : Program) (w : World) (K : PySem.W.Frag) (mg : Str -> Option Value) (base : Heap) (k : Nat) (x : Str) (n : Nat) (F : List D -> Option (D × Nat)) : Prop :=
  ∃ f fd ps, FnOk P w K mg base CX0 k f fd ps (spD K n F) /\ mg x = some (.ref f) /\ PySem.W.keepIn K (.ref f) = true /\ y2d K fd ps []
theorem Cal.mk {P : Program} {w : World} {K : PySem.W.Frag} {mg : Str -> Option Value} {base : Heap} {k : Nat} {x : Str} {st : Stmt} {N ps : List Str} {body : x1b} (a : At K mg x st ps) (S : FnScope N ps (x0c st))
    (h : ∀ (f : Addr) (cdv : Value) (A : Around) (outer : List Env) (s : Shared) (H : Hp) (E : XK), Room k (A.deeper (envOfC x (x0c st) s.heap.objs.size f cdv)) -> y6q (y74 CX0 P w K mg base N x (x0c st) f cdv A outer s H E).nox (x3i st) body) :
    Cal P w K mg base (k + 1) x ps.length (fnD N.length body) := by
  obtain ⟨f, fd, F, m, b⟩ := a
  exact ⟨f, fd, ps, z8j F S (h f), m, F.kp, b⟩
section
variable {X : Cx} {a b c e : Expr} {es x2b : List Expr} {fa fb fc f : Den} {g : x2a} {pos p p1 p2 cpos apos : Pos}
theorem z0h {j k n : Nat} {x : Str} {F : List D -> Option (D × Nat)} (C : Cal X.prog X.w X.K X.mg X.base k x n F) (hr : Room j X.A) (hk : k <= j) (ha : PDA X (e :: es) g)
    (hg : Gl X x := by rfl) (hdb : (x == ("__debug__" : Str)) = false := by decide) (he : starEach (e :: es) X.env = (false, eval e X.env) :: starEach es X.env := by rfl) (hpl : (backTo pos (starEach es X.env)).any (·.1) = false := by rfl) :
    PD X (.Call (.Name x p) (e :: es) [] pos) (x0g F n g) := by
  obtain ⟨f, fd, ps, G, hm, hkp, hb⟩ := C
  exact y95 G (hr.mono hk) hm hkp hb z93 ha hg hdb he hpl
end
theorem z7v {K : PySem.W.Frag} {F : List D -> Option (D × Nat)} (h : ∀ ns : List Int, ns.length <= 63 -> ∃ q, F [.lst (ns.map D.int)] = some (.bl true, q)) {H : Hp} {a : Addr} {ns : List Int} (hl : ns.length <= 63) (hS : SqL K H a (ns.map V.int)) {E : XK} :
    spD K 1 F [.ref a] H (fun v _ => v = .bl true) E := by
  obtain ⟨q, e⟩ := h ns hl
  have r : Rep K H (fun _ => none) .f 0 (.lst (ns.map D.int)) (.ref a) [] := by
    rcases SqL.cases hS with z | z
    · exact .shr z rfl (x77 ns)
    · exact .kl z (x77 ns)
  exact ⟨rfl, [.lst (ns.map D.int)], fun _ => none, .bl true, q, (fun a o z => nomatch z), (fun a o z => nomatch z), .cons (F := []) (G := []) r .nil (fun _ z => nomatch z), e, fun v H' w' Fo _ _ rr => by cases rr; rfl⟩
theorem z7c {P : Program} {w : World} {K : PySem.W.Frag} {mg : Str -> Option Value} {base : Heap} {k : Nat} {x : Str} {st : Stmt} {N ps : List Str} {body : x1b} {f : Addr} {fd : FuncData} (F : Fun K x x st f fd) (S : FnScope N ps (x0c st))
    (h : ∀ (f : Addr) (cdv : Value) (A : Around) (outer : List Env) (s : Shared) (H : Hp) (E : XK), Room k (A.deeper (envOfC x (x0c st) s.heap.objs.size f cdv)) -> y6q (y74 CX0 P w K mg base N x (x0c st) f cdv A outer s H E).nox (x3i st) body) :
    FnOk P w K mg base CX0 (k + 1) f fd ps (spD K ps.length (fnD N.length body)) := z8j F S (h f)
section
variable {prog : Program} {w : World} {A : Around} {E : Value -> Shared -> Prop} {s : Shared}
theorem x88 {j p : Addr} {n : Nat} {vs : Array Value} {v : Value} {Q : Value -> Shared -> Prop} (a : s.heap.IsTupleIter j p n) (b : s.heap.IsTuple p vs) (c : vs[n]? = some v)
    (k : ∀ g : Heap, g.IsTupleIter j p (n + 1) -> Heap.SameBut j s.heap g -> Q v { s with heap := g }) : wpAny (model prog w) A (Builtin.SmallTypes.nextOf (.ref j)) Q E s := by
  obtain ⟨oj, ej, kj, dj⟩ := id a
  obtain ⟨op, ep, _, mp, dp⟩ := b
  unfold Builtin.SmallTypes.nextOf
  refine wpAny_bind (wpAny_callSpecial?_slot (name := Str.ofString "__next__") a.typeIs F.slot_tuple_iterator_next (wpAny_call_entry F.slot_tuple_iterator_next a.typeIs F.entry_tuple_iterator_next ?_ (F.args_tuple_iterator_next_1 _)))
  show wpAny _ _ (field (.ref j) 0 >>= _) _ _ s
  refine wpAny_bind (wpAny_field ej dj (x := .ref p) rfl ?_)
  show wpAny _ _ (if (Value.ref p == Value.none) = true then _ else _) _ _ s
  rw [if_neg (show ¬ ((Value.ref p == Value.none) = true) from Bool.false_ne_true)]
  show wpAny _ _ (field (.ref j) 1 >>= _) _ _ s
  refine wpAny_bind (wpAny_field ej dj (x := .int n 0) rfl ?_)
  show wpAny _ _ (seqItems? (.ref p) >>= _) _ _ s
  refine wpAny_bind (wpAny_seqItems ep dp ?_)
  simp only [Int.toNat_natCast, c]
  refine wpAny_bind (wpAny_setField ej dj (by simp) (wpAny_pure ⟨v, rfl, wpAny_pure (k _ ⟨_, Heap.get?_update_self _ ej (Obj.isFreed_of_fields (Obj.data_mapFields dj _)), (Obj.cls_mapFields ..).trans kj, ?_⟩ (Heap.SameBut.update ..))⟩))
  rw [Obj.data_mapFields dj]
  simp [rawInt]
theorem y2z {j p : Addr} {n : Nat} {vs : Array Value} {Q : Value -> Shared -> Prop} (hh : A.handled = none) (a : s.heap.IsTupleIter j p n) (b : s.heap.IsTuple p vs) (c : vs[n]? = none)
    (k : ∀ (g : Heap) x, Heap.ExtBut j s.heap g -> (∃ o, g.get? x = some o /\ o.cls = .type "StopIteration") -> E (.ref x) { s with heap := g }) : wpAny (model prog w) A (Builtin.SmallTypes.nextOf (.ref j)) Q E s := by
  obtain ⟨oj, ej, kj, dj⟩ := id a
  obtain ⟨op, ep, _, mp, dp⟩ := b
  unfold Builtin.SmallTypes.nextOf
  refine wpAny_bind (wpAny_callSpecial?_slot (name := Str.ofString "__next__") a.typeIs F.slot_tuple_iterator_next (wpAny_call_entry F.slot_tuple_iterator_next a.typeIs F.entry_tuple_iterator_next ?_ (F.args_tuple_iterator_next_1 _)))
  show wpAny _ _ (field (.ref j) 0 >>= _) _ _ s
  refine wpAny_bind (wpAny_field ej dj (x := .ref p) rfl ?_)
  show wpAny _ _ (if (Value.ref p == Value.none) = true then _ else _) _ _ s
  rw [if_neg (show ¬ ((Value.ref p == Value.none) = true) from Bool.false_ne_true)]
  show wpAny _ _ (field (.ref j) 1 >>= _) _ _ s
  refine wpAny_bind (wpAny_field ej dj (x := .int n 0) rfl ?_)
  show wpAny _ _ (seqItems? (.ref p) >>= _) _ _ s
  refine wpAny_bind (wpAny_seqItems ep dp ?_)
  simp only [Int.toNat_natCast, c]
  refine wpAny_bind (wpAny_rule (wpAny_bind (wpAny_setField ej dj (by simp) ?_)))
  show wpAny _ _ (newExc (.type "StopIteration") [] >>= _) _ _ _; refine wpAny_bind ?_; simp only [newExc, newTuple]
  refine wpAny_bind (wpAny_newObj_type ?_ (by size_fits)); refine wpAny_bind (m := firstArgMember _ _) (wpAny_of_eq (a := Value.none) (by first | rfl | (simp only [firstArgMember]; rfl)) (wpAny_newObj_type ?_ (by size_fits)))
  simp only [raiseNew]
  refine wpAny_bind (wpAny_handled ?_); first | rw [show A.in1.handled = none from hh] | rw [hh]
  exact wpAny_bind (wpAny_pure (wpAny_throw (k _ _ (((Heap.SameBut.update ..).extBut.push _).push _) ⟨_, Heap.get?_push_size _ rfl, rfl⟩)))
structure ZT (h : Heap) (z u o i1 i2 p1 p2 : Addr) (f0 : Value) (k1 k2 : Nat) : Prop where
  hz : IsZip h z u o f0
  hu : IsPair h u (.ref i1) (.ref i2)
  ho : ∃ a b, IsPair h o a b
  h1 : h.IsTupleIter i1 p1 k1
  h2 : h.IsTupleIter i2 p2 k2
noncomputable def zfp (z u o i1 i2 : Addr) : List Addr := [z, u, o, i1, i2]
structure ZA (z u o i1 i2 : Addr) : Prop where
  nd : (zfp z u o i1 i2).Nodup
theorem ZA.ne {z u o i1 i2 : Addr} (d : ZA z u o i1 i2) : z ≠ u /\ z ≠ o /\ z ≠ i1 /\ z ≠ i2 /\ u ≠ o /\ u ≠ i1 /\ u ≠ i2 /\ o ≠ i1 /\ o ≠ i2 /\ i1 ≠ i2 := by
  have := d.nd
  simp only [zfp, List.nodup_cons, List.mem_cons, List.not_mem_nil, or_false, not_or] at this
  obtain ⟨⟨a, b, c, d⟩, ⟨e, f, g⟩, ⟨h, i⟩, j, _⟩ := this
  exact ⟨a, b, c, d, e, f, g, h, i, j⟩
theorem y29 {g : Heap} {o : Addr} {a b x : Value} {n : Nat} {Q : Unit -> Shared -> Prop} (e : IsPair s.heap o a b)
    (k : ∀ g : Heap, g.get? o = some { cls := .type "tuple", data := .seq ((#[a, b] : Array Value).setIfInBounds n x) } -> Heap.SameBut o s.heap g -> Q () { s with heap := g }) : wpAny (model prog w) A (updateSeq o (·.setIfInBounds n x)) Q E s := by
  refine wpAny_updateSeq e rfl (k _ ?_ (Heap.SameBut.update ..))
  rw [Heap.get?_update_self _ e rfl]; simp [Obj.mapSeq]
theorem y73 {z u o i1 i2 p1 p2 : Addr} {n : Nat} {xs ys : Array Value} {x y : Value} {Q : Option Value -> Shared -> Prop} (d : ZA z u o i1 i2) (Z : ZT s.heap z u o i1 i2 p1 p2 .none n n) (t1 : s.heap.IsTuple p1 xs) (t2 : s.heap.IsTuple p2 ys)
    (n1 : p1 ∉ zfp z u o i1 i2) (n2 : p2 ∉ zfp z u o i1 i2) (ex : xs[n]? = some x) (ey : ys[n]? = some y)
    (k : ∀ g : Heap, ZT g z u o i1 i2 p1 p2 (rawInt s.heap.objs.size) (n + 1) (n + 1) -> IsPair g s.heap.objs.size x y -> (∀ c q, c ∉ zfp z u o i1 i2 -> s.heap.get? c = some q -> g.get? c = some q) -> Q (some (.ref s.heap.objs.size)) { s with heap := g }) :
    wpAny (model prog w) A (pyNext (.ref z)) Q E s := by
  obtain ⟨zu, zo, z1, z2, uo, u1, u2, o1, o2, i12⟩ := d.ne
  obtain ⟨hz, hu, ⟨a, b, ho⟩, h1, h2⟩ := Z
  have nz : ∀ p, p ∉ zfp z u o i1 i2 -> p ≠ z /\ p ≠ o /\ p ≠ i1 /\ p ≠ i2 := fun p h => by
    simp only [zfp, List.mem_cons, List.not_mem_nil, or_false, not_or] at h
    exact ⟨h.1, h.2.2.1, h.2.2.2.1, h.2.2.2.2⟩
  obtain ⟨az, ao, a1, a2⟩ := nz p1 n1
  obtain ⟨bz, bo, b1, b2⟩ := nz p2 n2
  have ty : s.TypeIs (.ref z) "zip" := ⟨_, hz, rfl⟩
  unfold pyNext
  refine wpAny_bind (wpAny_attempt (wpAny_callSpecial?_slot (name := Str.ofString "__next__") ty F.slot_zip_next (wpAny_call_entry F.slot_zip_next ty F.entry_zip_next ?_ (F.args_zip_next_1 _))))
  show wpAny _ _ (field (.ref z) 2 >>= _) _ _ _; refine wpAny_bind (wpAny_field hz rfl (x := .bool false) rfl ?_)
  show wpAny _ _ (field (.ref z) 3 >>= _) _ _ _; refine wpAny_bind (wpAny_field hz rfl (x := .ref u) rfl (wpAny_bind (wpAny_seqItems hu rfl ?_)))
  show wpAny _ _ (Builtin.SmallTypes.ownedTupleIsFree (.ref z) >>= _) _ _ _; refine wpAny_bind ?_; unfold Builtin.SmallTypes.ownedTupleIsFree
  refine wpAny_bind (wpAny_field hz rfl (x := .none) rfl (wpAny_pure ?_)); simp only [if_true]
  refine wpAny_bind (wpAny_rule (wpAny_bind (wpAny_field hz rfl (x := .ref o) rfl (wpAny_bind (wpAny_setField_rec hz (by simp) fun g1 e1 b1' => ?_)))))
  replace e1 : IsZip g1 z u o .ellipsis := e1
  refine wpAny_bind ?_; simp only [List.zipIdx_cons, List.zipIdx_nil, List.forIn_cons, List.forIn_nil]
  -- the first
  refine wpAny_bind (wpAny_bind (wpAny_onRaise ?_)); show wpAny _ _ (Builtin.SmallTypes.nextOf (.ref i1) >>= _) _ _ _
  refine wpAny_bind (x88 (h1.extBut b1'.extBut (Ne.symm z1)) (t1.extBut b1'.extBut az) ex fun g2 e2 c2 => wpAny_pure ?_)
  have q2 : IsPair g2 o a b := c2.extBut _ _ o1 (b1'.extBut _ _ (Ne.symm zo) ho)
  refine wpAny_bind (wpAny_seqItems q2 rfl (wpAny_bind (y29 (g := g2) q2 fun g3 e3 c3 => wpAny_bind (wpAny_letGo (wpAny_pure ?_)))))
  replace e3 : IsPair g3 o x b := e3
  -- the second
  refine wpAny_bind (wpAny_bind (wpAny_onRaise ?_)); show wpAny _ _ (Builtin.SmallTypes.nextOf (.ref i2) >>= _) _ _ _
  refine wpAny_bind (x88 (((h2.extBut b1'.extBut (Ne.symm z2)).extBut c2.extBut (Ne.symm i12)).extBut c3.extBut (Ne.symm o2)) (((t2.extBut b1'.extBut bz).extBut c2.extBut b1).extBut c3.extBut bo) ey fun g4 e4 c4 => wpAny_pure ?_)
  have q4 : IsPair g4 o x b := c4.extBut _ _ o2 e3
  refine wpAny_bind (wpAny_seqItems q4 rfl (wpAny_bind (y29 (g := g4) q4 fun g5 e5 c5 => wpAny_bind (wpAny_letGo (wpAny_pure (wpAny_pure ?_))))))
  replace e5 : IsPair g5 o x y := e5
  refine wpAny_bind (wpAny_seqItems e5 rfl (wpAny_bind (wpAny_newTuple ?_)))
  have sz : g5.objs.size = s.heap.objs.size := by rw [c5.1, c4.1, c3.1, c2.1, b1'.1]
  have z5 : IsZip g5 z u o .ellipsis := c5.extBut _ _ zo (c4.extBut _ _ z2 (c3.extBut _ _ zo (c2.extBut _ _ z1 e1)))
  have kp : ∀ c q, c ≠ z -> c ≠ o -> c ≠ i1 -> c ≠ i2 -> s.heap.get? c = some q -> g5.get? c = some q := fun c q x1 x2 x3 x4 e => c5.extBut _ _ x2 (c4.extBut _ _ x4 (c3.extBut _ _ x2 (c2.extBut _ _ x3 (b1'.extBut _ _ x1 e))))
  have w1 : g5.IsTupleIter i1 p1 (n + 1) := ((e2.extBut c3.extBut (Ne.symm o1)).extBut c4.extBut i12).extBut c5.extBut (Ne.symm o1)
  have w2 : g5.IsTupleIter i2 p2 (n + 1) := e4.extBut c5.extBut (Ne.symm o2)
  have zl : z < g5.objs.size := Heap.lt_size z5
  show wpAny _ _ (Builtin.SmallTypes.ownedTupleHandOut (.ref z) (.ref g5.objs.size) >>= _) _ _ _; refine wpAny_bind ?_; unfold Builtin.SmallTypes.ownedTupleHandOut
  have z6 : IsZip (g5.push { cls := .type "tuple", data := .seq #[x, y] }) z u o .ellipsis := Heap.get?_push_of_some _ z5
  refine wpAny_bind (wpAny_setField_rec z6 (by simp) fun g7 e7 c7 => ?_)
  replace e7 : IsZip g7 z u o (rawInt g5.objs.size) := e7
  refine wpAny_setField_rec e7 (by simp) fun g8 e8 c8 => ?_
  replace e8 : IsZip g8 z u o (rawInt g5.objs.size) := e8
  have up : ∀ c q, c ≠ z -> g5.get? c = some q -> g8.get? c = some q := fun c q h e => c8.extBut _ _ h (c7.extBut _ _ h (Heap.get?_push_of_some _ e))
  have nw : IsPair g8 g5.objs.size x y := c8.extBut _ _ (Nat.ne_of_gt zl) (c7.extBut _ _ (Nat.ne_of_gt zl) (Heap.get?_push_size _ rfl))
  rw [sz] at e8 nw
  refine wpAny_pure ⟨_, rfl, wpAny_pure ?_⟩
  show Q (some (.ref g5.objs.size)) _
  rw [sz]
  refine k g8 ⟨e8, up _ _ (Ne.symm zu) (kp _ _ (Ne.symm zu) uo u1 u2 hu), ⟨x, y, up _ _ (Ne.symm zo) e5⟩, w1.at fun q e => up _ q (Ne.symm z1) e, w2.at fun q e => up _ q (Ne.symm z2) e⟩ nw fun c q h e => ?_
  obtain ⟨y1, y2, y3, y4⟩ := nz c h
  exact up c q y1 (kp c q y1 y2 y3 y4 e)
theorem y9g {z u o i1 i2 p1 p2 : Addr} {n : Nat} {xs ys : Array Value} {Q : Option Value -> Shared -> Prop} (hh : A.handled = none) (d : ZA z u o i1 i2) (Z : ZT s.heap z u o i1 i2 p1 p2 .none n n) (t1 : s.heap.IsTuple p1 xs) (t2 : s.heap.IsTuple p2 ys)
    (n1 : p1 ∉ zfp z u o i1 i2) (n2 : p2 ∉ zfp z u o i1 i2) (en : xs[n]? = none \/ ys[n]? = none)
    (k : ∀ g : Heap, (∀ c q, c ∉ zfp z u o i1 i2 -> s.heap.get? c = some q -> g.get? c = some q) -> Q none { s with heap := g }) :
    wpAny (model prog w) A (pyNext (.ref z)) Q E s := by
  obtain ⟨zu, zo, z1, z2, uo, u1, u2, o1, o2, i12⟩ := d.ne
  obtain ⟨hz, hu, ⟨a, b, ho⟩, h1, h2⟩ := Z
  have nz : ∀ p, p ∉ zfp z u o i1 i2 -> p ≠ z /\ p ≠ o /\ p ≠ i1 /\ p ≠ i2 := fun p h => by
    simp only [zfp, List.mem_cons, List.not_mem_nil, or_false, not_or] at h
    exact ⟨h.1, h.2.2.1, h.2.2.2.1, h.2.2.2.2⟩
  obtain ⟨az, ao, a1, a2⟩ := nz p1 n1
  obtain ⟨bz, bo, b1, b2⟩ := nz p2 n2
  have ty : s.TypeIs (.ref z) "zip" := ⟨_, hz, rfl⟩
  unfold pyNext
  refine wpAny_bind (wpAny_attempt (wpAny_callSpecial?_slot (name := Str.ofString "__next__") ty F.slot_zip_next (wpAny_call_entry F.slot_zip_next ty F.entry_zip_next ?_ (F.args_zip_next_1 _))))
  show wpAny _ _ (field (.ref z) 2 >>= _) _ _ _; refine wpAny_bind (wpAny_field hz rfl (x := .bool false) rfl ?_)
  show wpAny _ _ (field (.ref z) 3 >>= _) _ _ _; refine wpAny_bind (wpAny_field hz rfl (x := .ref u) rfl (wpAny_bind (wpAny_seqItems hu rfl ?_)))
  show wpAny _ _ (Builtin.SmallTypes.ownedTupleIsFree (.ref z) >>= _) _ _ _; refine wpAny_bind ?_; unfold Builtin.SmallTypes.ownedTupleIsFree
  refine wpAny_bind (wpAny_field hz rfl (x := .none) rfl (wpAny_pure ?_)); simp only [if_true]
  refine wpAny_bind (wpAny_rule (wpAny_bind (wpAny_field hz rfl (x := .ref o) rfl (wpAny_bind (wpAny_setField_rec hz (by simp) fun g1 e1 b1' => ?_)))))
  replace e1 : IsZip g1 z u o .ellipsis := e1
  refine wpAny_bind ?_; simp only [List.zipIdx_cons, List.zipIdx_nil, List.forIn_cons, List.forIn_nil]
  have away : ∀ (g : Heap) x, IsZip g z u o .ellipsis -> (∃ q, g.get? x = some q /\ q.cls = .type "StopIteration") -> x ≠ z := fun g x e ⟨q, e', c'⟩ h => by
    subst h; rw [e] at e'; cases e'; simp at c'
  refine wpAny_bind (wpAny_bind (wpAny_onRaise ?_)); show wpAny _ _ (Builtin.SmallTypes.nextOf (.ref i1) >>= _) _ _ _
  cases ex : xs[n]? with
  | none =>
    refine wpAny_bind (y2z hh (h1.extBut b1'.extBut (Ne.symm z1)) (t1.extBut b1'.extBut az) ex fun g2 x c2 hx => ?_)
    have e2 : IsZip g2 z u o .ellipsis := c2 _ _ z1 e1
    have xz := away g2 x e2 hx
    obtain ⟨q, hq, cq⟩ := hx
    refine wpAny_setField_rec e2 (by simp) fun g3 _ c3 => ?_
    refine wpAny_bind (wpAny_isInstance (T := "StopIteration") (b := true) ⟨q, c3.extBut _ _ xz hq, cq⟩ isSubtype_stop (wpAny_pure (k g3 fun c r h e => ?_)))
    obtain ⟨y1, y2, y3, y4⟩ := nz c h
    exact c3.extBut _ _ y1 (c2 _ _ y3 (b1'.extBut _ _ y1 e))
  | some x =>
    have ey : ys[n]? = none := by rcases en with h | h; rw [ex] at h; cases h; exact h
    refine wpAny_bind (x88 (h1.extBut b1'.extBut (Ne.symm z1)) (t1.extBut b1'.extBut az) ex fun g2 e2 c2 => wpAny_pure ?_)
    have q2 : IsPair g2 o a b := c2.extBut _ _ o1 (b1'.extBut _ _ (Ne.symm zo) ho)
    refine wpAny_bind (wpAny_seqItems q2 rfl (wpAny_bind (y29 (g := g2) q2 fun g3 e3 c3 => wpAny_bind (wpAny_letGo (wpAny_pure ?_)))))
    refine wpAny_bind (wpAny_bind (wpAny_onRaise ?_)); show wpAny _ _ (Builtin.SmallTypes.nextOf (.ref i2) >>= _) _ _ _
    refine wpAny_bind (y2z hh (((h2.extBut b1'.extBut (Ne.symm z2)).extBut c2.extBut (Ne.symm i12)).extBut c3.extBut (Ne.symm o2)) (((t2.extBut b1'.extBut bz).extBut c2.extBut b1).extBut c3.extBut bo) ey fun g4 x' c4 hx => ?_)
    have e4 : IsZip g4 z u o .ellipsis := c4 _ _ z2 (c3.extBut _ _ zo (c2.extBut _ _ z1 e1))
    have xz := away g4 x' e4 hx
    obtain ⟨q, hq, cq⟩ := hx
    refine wpAny_setField_rec e4 (by simp) fun g5 _ c5 => ?_
    refine wpAny_bind (wpAny_isInstance (T := "StopIteration") (b := true) ⟨q, c5.extBut _ _ xz hq, cq⟩ isSubtype_stop (wpAny_pure (k g5 fun c r h e => ?_)))
    obtain ⟨y1, y2, y3, y4⟩ := nz c h
    exact c5.extBut _ _ y1 (c4 _ _ y4 (c3.extBut _ _ y2 (c2.extBut _ _ y3 (b1'.extBut _ _ y1 e))))
theorem y97 {p1 p2 : Addr} {xs ys : Array Value} {Q : Value -> Shared -> Prop} (t1 : s.heap.IsTuple p1 xs) (t2 : s.heap.IsTuple p2 ys)
    (k : ∀ g : Heap, ZT g (s.heap.objs.size + 4) (s.heap.objs.size + 2) (s.heap.objs.size + 3) s.heap.objs.size (s.heap.objs.size + 1) p1 p2 .none 0 0 -> (∀ c q, s.heap.get? c = some q -> g.get? c = some q) -> Q (.ref (s.heap.objs.size + 4)) { s with heap := g }) :
    wpAny (model prog w) A (call (.type "zip") [.ref p1, .ref p2]) Q E s := by
  let g1 := s.heap.push { cls := .type "tuple_iterator", data := .fields #[.ref p1, .int 0 0] }
  let g2 := g1.push { cls := .type "tuple_iterator", data := .fields #[.ref p2, .int 0 0] }
  let g3 := g2.push { cls := .type "tuple", data := .seq #[.ref s.heap.objs.size, .ref g1.objs.size] }
  let g4 := g3.push { cls := .type "tuple", data := .seq #[.none, .none] }
  let g5 := g4.push { cls := .type "zip", data := .fields #[.none, .bool false, .bool false, .ref g2.objs.size, .ref g3.objs.size] }
  have mt : Meets (Builtin.«zip.__new__» ⟨[.type "zip", .ref p1, .ref p2], []⟩) (fun _ R s' => s' = s /\ R (.ok (.ret (.ref g4.objs.size))) { s with heap := g5 }) := .of_wp fun prog w A R s' h => by
    obtain ⟨rfl, h⟩ := h
    have hsub := sub_zip
    obtain ⟨hp, gn, dr, tk, os⟩ := s'
    have q1 : Heap.IsTuple (Shared.heap ⟨hp, gn, dr, tk, os⟩) p1 xs := t1
    have q2 : Heap.IsTuple (Shared.heap ⟨hp.push { cls := .type "tuple_iterator", data := .fields #[.ref p1, .int 0 0] }, gn, dr, tk, os⟩) p2 ys := t2.push _
    wp_walk using wpAny_pyIter_tuple q1, wpAny_pyIter_tuple q2
    exact ⟨_, rfl, h⟩
  refine callType_new F.called_zip (by decide) (F.typeCall_zip_2 _ _) (F.newCall_zip_2 _ _) (fun obj => F.args_object_init_3 obj _ _) F.entry_zip_new mt ⟨rfl, ?_⟩
  have s1 : g1.objs.size = s.heap.objs.size + 1 := Heap.size_push ..
  have s2 : g2.objs.size = s.heap.objs.size + 2 := by rw [Heap.size_push, s1]
  have s3 : g3.objs.size = s.heap.objs.size + 3 := by rw [Heap.size_push, s2]
  have s4 : g4.objs.size = s.heap.objs.size + 4 := by rw [Heap.size_push, s3]
  have a5 : g5.get? g4.objs.size = some { cls := .type "zip", data := .fields #[.none, .bool false, .bool false, .ref g2.objs.size, .ref g3.objs.size] } := Heap.get?_push_size _ rfl
  have up4 : ∀ {c q}, g3.get? c = some q -> g5.get? c = some q := fun e => Heap.get?_push_of_some _ (Heap.get?_push_of_some _ e)
  have a4 : g5.get? g3.objs.size = some { cls := .type "tuple", data := .seq #[.none, .none] } := Heap.get?_push_of_some _ (Heap.get?_push_size _ rfl)
  have a3 : g5.get? g2.objs.size = some { cls := .type "tuple", data := .seq #[.ref s.heap.objs.size, .ref g1.objs.size] } := up4 (Heap.get?_push_size _ rfl)
  have a2 : g5.get? g1.objs.size = some { cls := .type "tuple_iterator", data := .fields #[.ref p2, .int 0 0] } := up4 (Heap.get?_push_of_some _ (Heap.get?_push_size _ rfl))
  have a1 : g5.get? s.heap.objs.size = some { cls := .type "tuple_iterator", data := .fields #[.ref p1, .int 0 0] } := up4 (Heap.get?_push_of_some _ (Heap.get?_push_of_some _ (Heap.get?_push_size _ rfl)))
  rw [s2, s3, s4] at a5
  rw [s3] at a4
  rw [s1, s2] at a3
  rw [s1] at a2
  show _ /\ _
  rw [s4]
  exact ⟨⟨_, a5, rfl⟩, k g5 ⟨a5, a3, ⟨_, _, a4⟩, ⟨_, a1, rfl, rfl⟩, ⟨_, a2, rfl, rfl⟩⟩ fun c q e => up4 (Heap.get?_push_of_some _ (Heap.get?_push_of_some _ (Heap.get?_push_of_some _ e)))⟩
end
theorem y7f {X : Cx} {pins : List (Addr × Obj)} {σ : St} {H : Hp} {s : Shared} {h' : Heap} {t' : Nat} {ch : List Addr} (I : Inv X pins σ H s) (k : ∀ b o, b ∉ ch -> s.heap.get? b = some o -> h'.get? b = some o) (hf : ∀ b ∈ ch, y6u X pins H b) :
    Inv X pins σ H { s with heap := h', toks := t' } := by
  have nit : ∀ b u, H b = some u -> b ∉ ch := fun b u e z => by rw [(hf b z).1] at e; cases e
  refine I.step (g' := s.gens) (d' := s.drawn) (ch := ch) (fun b hb => ?_) (fun b o _ _ hc e _ => k b o hc e) (fun b o _ _ hc e _ => ⟨o.slots, k b o hc e⟩) (fun _ _ _ _ n => n)
    (fun b o hc e => ⟨o, k b o hc e⟩) (fun _ _ e => e) (fun _ _ _ e => e) (fun b ps e => ⟨#[], by rw [e]; simp⟩) (fun m hm => ?_) (fun b u e => ?_) I.bare
  · obtain ⟨f0, f1, f2, f3, f4, f5⟩ := hf b hb
    exact ⟨f3, f1, f4, f5⟩
  · obtain ⟨o, es, ep, ho, r⟩ := hm
    exact ⟨o, es, ep, k _ o (fun z => (hf _ z).2.1 rfl) ho, r⟩
  · refine (I.hok b u e).stay (fun c v hc q => k c v ?_ q) (fun _ q => q) fun _ _ q => q
    rcases hc with z | z
    · rw [z]; exact nit b u e
    · exact nit c _ z
noncomputable def Itz (K : PySem.W.Frag) (p1 p2 : Addr) : It :=
  ⟨fun i H => ∃ xs ys x y, SqT K H p1 xs /\ SqT K H p2 ys /\ xs[i]? = some x /\ ys[i]? = some y,
   fun i H v H' => ∃ T x y, v = .ref T /\ H T = none /\ (∀ xs, SqT K H p1 xs -> xs[i]? = some x) /\ (∀ ys, SqT K H p2 ys -> ys[i]? = some y) /\ H' = upd H T (.tup [x, y]),
   fun i H => ∃ xs ys, SqT K H p1 xs /\ SqT K H p2 ys /\ (xs.length <= i \/ ys.length <= i)⟩
theorem y9p {P : Program} {w : World} {K : PySem.W.Frag} {elts : List Expr} {kt : Nat} {tp : Pos} (z u o i1 i2 p1 p2 : Addr) (d : ZA z u o i1 i2) (n1 : p1 ∉ zfp z u o i1 i2) (n2 : p2 ∉ zfp z u o i1 i2) :
    Turn P w K (.Tuple elts kt tp) (Itz K p1 p2) (zfp z u o i1 i2) z (fun i h => ZT h z u o i1 i2 p1 p2 .none i i) where
  mem := by simp [zfp]
  obj := fun i h st b hb => by
    obtain ⟨hz, hu, ⟨a, c, ho⟩, ⟨o1, e1, c1, d1⟩, ⟨o2, e2, c2, d2⟩⟩ := st
    simp only [zfp, List.mem_cons, List.not_mem_nil, or_false] at hb
    rcases hb with rfl | rfl | rfl | rfl | rfl
    · exact ⟨_, hz, fun v e => nomatch e⟩
    · exact ⟨_, hu, fun v e => nomatch e⟩
    · exact ⟨_, ho, fun v e => nomatch e⟩
    · exact ⟨_, e1, fun v e => by rw [d1] at e; cases e⟩
    · exact ⟨_, e2, fun v e => by rw [d2] at e; cases e⟩
  keep := fun i h h' st k => by
    obtain ⟨hz, hu, ⟨a, c, ho⟩, h1, h2⟩ := st
    exact ⟨k z (by simp [zfp]) _ hz, k u (by simp [zfp]) _ hu, ⟨a, c, k o (by simp [zfp]) _ ho⟩, h1.at fun q e => k i1 (by simp [zfp]) q e, h2.at fun q e => k i2 (by simp [zfp]) q e⟩
  item := by
    intro X hP hw hK hc i pins s σ H E I hf st hg
    subst hP hw hK
    obtain ⟨xs, ys, x, y, q1, q2, ex, ey⟩ := hg
    obtain ⟨as, ra, ta, _⟩ := I.tuple q1
    obtain ⟨bs, rb, tb, _⟩ := I.tuple q2
    obtain ⟨ux, hx, rx⟩ := ra.get ex
    obtain ⟨uy, hy, ry⟩ := rb.get ey
    refine y73 d st (show s.heap.IsTuple p1 as.toArray from ta) (show s.heap.IsTuple p2 bs.toArray from tb) n1 n2 (by simpa using hx) (by simpa using hy) fun g Z nw kp => ?_
    refine ⟨_, rfl, wpAny_letOwnedTupleGo_zip (s := { s with heap := g }) Z.hz fun g' hz' sb => ?_⟩
    have fr : H s.heap.objs.size = none := I.hok.fresh (Nat.le_refl _)
    have I1 : Inv X pins σ (upd H s.heap.objs.size (.tup [x, y])) { s with heap := s.heap.push { cls := .type "tuple", data := .seq #[ux, uy] } } :=
      I.laid (t' := s.toks) (fun b q e => Heap.get?_push_of_some _ e) (Nat.le_refl _) (show x2y X.prog X.w _ _ _ (.tup _) from ⟨(by show 2 <= sizeLine; decide), [ux, uy], .cons rx (.cons ry .nil), x4u.new _ _⟩)
    have lt : ∀ b ∈ zfp z u o i1 i2, b < s.heap.objs.size := fun b hb => by
      obtain ⟨hz, hu, ⟨a, c, ho⟩, ⟨o1, e1, _⟩, ⟨o2, e2, _⟩⟩ := st
      simp only [zfp, List.mem_cons, List.not_mem_nil, or_false] at hb
      rcases hb with rfl | rfl | rfl | rfl | rfl
      · exact Heap.lt_size hz
      · exact Heap.lt_size hu
      · exact Heap.lt_size ho
      · exact Heap.lt_size e1
      · exact Heap.lt_size e2
    have hn : ∀ b ∈ zfp z u o i1 i2, upd H s.heap.objs.size (.tup [x, y]) b = none := fun b hb => by rw [x0q (Nat.ne_of_lt (lt b hb))]; exact (hf b hb).1
    have I2 : Inv X pins σ (upd H s.heap.objs.size (.tup [x, y])) { s with heap := g' } := y7f (s := { s with heap := s.heap.push { cls := .type "tuple", data := .seq #[ux, uy] } }) (t' := s.toks) (ch := zfp z u o i1 i2) I1 (fun b q nb e => by
      have bz : b ≠ z := fun h => nb (by simp [zfp, h])
      rcases Heap.get?_push_cases e with ⟨rfl, rfl⟩ | e'
      · exact sb.extBut _ _ bz nw
      · exact sb.extBut _ _ bz (kp b q nb e')) fun b hb => by
          obtain ⟨f0, f1, f2, f3, f4, f5⟩ := hf b hb
          exact ⟨hn b hb, f1, f2, f3, f4, f5⟩
    refine ⟨.ref s.heap.objs.size, _, I2, rfl, ⟨s.heap.objs.size, x, y, rfl, fr, fun zs hz => ?_, fun zs hz => ?_, rfl⟩, ?_, hn⟩
    · rw [I.tuple_inj hz q1]; exact ex
    · rw [I.tuple_inj hz q2]; exact ey
    · obtain ⟨_, hu, ⟨a, c, ho⟩, h1, h2⟩ := Z
      obtain ⟨zu, zo, z1, z2, _⟩ := d.ne
      exact ⟨hz', sb.extBut _ _ (Ne.symm zu) hu, ⟨a, c, sb.extBut _ _ (Ne.symm zo) ho⟩, h1.extBut sb.extBut (Ne.symm z1), h2.extBut sb.extBut (Ne.symm z2)⟩
  done := by
    intro X hP hw hK hc i pins s σ H E I hf st hg
    subst hP hw hK
    obtain ⟨xs, ys, q1, q2, hx⟩ := hg
    obtain ⟨as, ra, ta, _⟩ := I.tuple q1
    obtain ⟨bs, rb, tb, _⟩ := I.tuple q2
    have la := ra.length
    have lb := rb.length
    refine y9g (I.ok.hd hc) d st (show s.heap.IsTuple p1 as.toArray from ta) (show s.heap.IsTuple p2 bs.toArray from tb) n1 n2 (by rcases hx with h | h; exact .inl (by simp; omega); exact .inr (by simp; omega)) fun g kp => ⟨rfl, ?_⟩
    exact y7f (t' := s.toks) (ch := zfp z u o i1 i2) I (fun b q nb e => kp b q nb e) hf
  self := fun _ _ _ _ _ st h => wpAny_pyIter_zip st.hz h
section
variable {X : Cx} {a b c e : Expr} {es elts : List Expr} {fa fb fc f : Den} {g : x2a} {pos p p1 p2 tp : Pos} {kt : Nat}
noncomputable def j1a (K : PySem.W.Frag) (ta : TA) : TI := fun σ H R => ta σ H fun vs H1 => ∃ p1 p2, vs = [.ref p1, .ref p2] /\ (∃ xs, SqT K H1 p1 xs) /\ (∃ ys, SqT K H1 p2 ys) /\ R (Itz K p1 p2) H1
theorem z6c {ta : TA} (hg : Gl X "zip") (hm : X.mg "zip" = none) (ha : PA X [a, b] ta) (hs : starEach [a, b] X.env = [(false, eval a X.env), (false, eval b X.env)] := by rfl) (hs2 : starEach [b] X.env = [(false, eval b X.env)] := by rfl) :
    PI X (.Tuple elts kt tp) (.Call (.Name "zip" p) [a, b] [] pos) (j1a X.K ta) := by
  intro pins s σ H R I h
  refine Call_ (y0m I hg hm boot_zip (PyProof.Rows.callWith_type1 (thn (ha pos pins s σ H _ I h) fun us s1 ⟨vs, H1, I1, r1, q1⟩ => ?_) (by rw [hs, hs2]) (by rw [hs2]; rfl)))
  obtain ⟨p1, p2, e, ⟨xs, hx⟩, ⟨ys, hy⟩, q⟩ := q1
  subst e
  cases r1 with
  | cons r rr =>
    cases rr with
    | cons r' rr =>
      cases rr
      cases r
      cases r'
      obtain ⟨as, ra, ta', _⟩ := I1.tuple hx
      obtain ⟨bs, rb, tb, _⟩ := I1.tuple hy
      have l1 : p1 < s1.heap.objs.size := by obtain ⟨_, e, _⟩ := ta'; exact Heap.lt_size e
      have l2 : p2 < s1.heap.objs.size := by obtain ⟨_, e, _⟩ := tb; exact Heap.lt_size e
      refine y97 (show s1.heap.IsTuple p1 as.toArray from ta') (show s1.heap.IsTuple p2 bs.toArray from tb) fun g Z kp => ?_
      have I2 : Inv X pins σ H1 { s1 with heap := g } := I1.kept (t' := s1.toks) kp
      refine wpAny_pyIter_zip Z.hz ?_
      have dd : ZA (s1.heap.objs.size + 4) (s1.heap.objs.size + 2) (s1.heap.objs.size + 3) s1.heap.objs.size (s1.heap.objs.size + 1) := ⟨by
        generalize s1.heap.objs.size = n
        unfold zfp
        simp only [List.nodup_cons, List.mem_cons, List.not_mem_nil, or_false, not_or, not_false_eq_true, List.nodup_nil, and_true]
        have ne : ∀ {x y : Nat}, x ≠ y -> (x : Addr) ≠ (y : Addr) := fun h => h
        refine ⟨⟨ne ?_, ne ?_, ne ?_, ne ?_⟩, ⟨ne ?_, ne ?_, ne ?_⟩, ⟨ne ?_, ne ?_⟩, ne ?_⟩ <;> (intro h; have h' : (_ : Nat) = (_ : Nat) := h; omega)⟩
      have far : ∀ b ∈ zfp (s1.heap.objs.size + 4) (s1.heap.objs.size + 2) (s1.heap.objs.size + 3) s1.heap.objs.size (s1.heap.objs.size + 1), s1.heap.objs.size <= b := fun b hb => by
        simp only [zfp, List.mem_cons, List.not_mem_nil, or_false] at hb
        rcases hb with rfl | rfl | rfl | rfl | rfl <;> first | exact Nat.le_refl _ | exact Nat.le_add_right _ _
      refine ⟨s1.heap.objs.size + 4, zfp (s1.heap.objs.size + 4) (s1.heap.objs.size + 2) (s1.heap.objs.size + 3) s1.heap.objs.size (s1.heap.objs.size + 1), _, _, H1, rfl, I2, y9p _ _ _ _ _ p1 p2 dd (fun h => absurd (far _ h) (Nat.not_le_of_lt l1)) (fun h => absurd (far _ h) (Nat.not_le_of_lt l2)), Z, fun b hb => ?_, q⟩
      exact I1.fpOk (far b hb) (I1.hok.fresh (far b hb))
@[simp] noncomputable def y88 (g : x2a) : y1s := fun ρ => match g ρ with
  | some ([.tup ds, .tup es], ρ1) => if ds.length <= 1000 then some ((ds.zip es).map fun x => .tup [x.1, x.2], ρ1) else none
  | _ => none
theorem It.zip {K : PySem.W.Frag} {p1 p2 : Addr} {vs us : List V} {ds es : List D} (l1 : ds.length = vs.length) (l2 : es.length = us.length) : ItOk K (Itz K p1 p2) ((ds.zip es).map fun x => .tup [x.1, x.2]) fun H w => SqT K H p1 vs /\ SqT K H p2 us /\ Reps K H w .f 0 ds vs [] /\ Reps K H w .f 0 es us [] := by
  refine ⟨fun i H w p hi => ?_, fun i H w x H' d p wl hd y => ?_, fun H w p => ⟨vs, us, p.1, p.2.1, ?_⟩, fun H w H' w' p wl st => ⟨SqT.go wl st p.1, SqT.go wl st p.2.1, Reps.go wl st p.2.2.1 (fun _ z => nomatch z), Reps.go wl st p.2.2.2 (fun _ z => nomatch z)⟩⟩
  · have hi' : i < vs.length /\ i < us.length := by simp [List.length_zip] at hi; omega
    exact ⟨vs, us, vs[i]'hi'.1, us[i]'hi'.2, p.1, p.2.1, by simp [hi'.1], by simp [hi'.2]⟩
  · obtain ⟨T, v, u, rfl, hT, hv, hu, rfl⟩ := y
    obtain ⟨q1, q2, r1, r2⟩ := p
    rw [List.getElem?_map] at hd
    cases hz : (ds.zip es)[i]? with
    | none => rw [hz] at hd; cases hd
    | some de =>
      rw [hz] at hd
      cases hd
      obtain ⟨e1, e2⟩ := List.getElem?_zip_eq_some.mp hz
      obtain ⟨v', hv', rv⟩ := r1.get e1
      obtain ⟨u', hu', ru⟩ := r2.get e2
      have ev : v' = v := by have := hv vs q1; rw [hv'] at this; exact Option.some.inj this
      have eu : u' = u := by have := hu us q2; rw [hu'] at this; exact Option.some.inj this
      subst ev eu
      have mo : ∀ a o, H a = some o -> upd H T (.tup [v', u']) a = some o := fun a o e => by rw [x0q (x1f e hT)]; exact e
      have st : x8k H w (upd H T (.tup [v', u'])) w := fun a x e n => ⟨mo a x e, n⟩
      exact ⟨mo, .tup x23 (.cons (F := []) (G := []) (Rep.go0 rv wl st) (.cons (F := []) (G := []) (Rep.go0 ru wl st) .nil (fun _ z => nomatch z)) (fun _ z => nomatch z)), SqT.go wl st q1, SqT.go wl st q2, r1.go0 wl st, r2.go0 wl st⟩
  · simp [List.length_zip]; omega
theorem z3v (hm : X.mg "zip" = none) (ha : PDA X [a, b] g) (hg : Gl X "zip" := by rfl) (hs : starEach [a, b] X.env = [(false, eval a X.env), (false, eval b X.env)] := by rfl) (hs2 : starEach [b] X.env = [(false, eval b X.env)] := by rfl) :
    PDI X (.Tuple elts kt tp) (.Call (.Name "zip" p) [a, b] [] pos) (y88 g) := PI.imp (z6c hg hm ha hs hs2) fun σ H R hh0 => by
  obtain ⟨ρ, w, t, ds, ρ', gd, ee, k⟩ := hh0
  unfold y88 at ee
  split at ee
  · rename_i d1 d2 ρ1 h1
    split at ee
    · rename_i hl
      cases ee
      refine ⟨ρ, w, t, _, _, gd, h1, fun vs H1 w1 g1 go1 r1 => ?_⟩
      obtain ⟨v, v', rfl, rv, rv'⟩ := two r1
      obtain ⟨p1, as, rfl, q1, s1⟩ := rv.seqT
      obtain ⟨p2, bs, rfl, q2, s2⟩ := rv'.seqT
      refine ⟨p1, p2, rfl, ⟨_, q1⟩, ⟨_, q2⟩, k _ _ H1 w1 g1 go1 (It.zip s1.length s2.length) ⟨q1, q2, s1, s2⟩ (x4a ?_)⟩
      simp [List.length_zip]; omega
    · cases ee
  · cases ee
end
noncomputable abbrev x8w := List D -> Rho -> Option Rho
noncomputable def j1i (K : PySem.W.Frag) (b : Nat) (pt : x8w) : TGs := fun vs σ H Q => ∃ ds ρ w t ρ', Good K ρ σ H w t /\ Reps K H w .f 0 ds vs [] /\ pt ds ρ = some ρ' /\ ∀ σ' H' w', σ'.length = σ.length -> (∀ i, i < b -> σ'[i]? = σ[i]?) -> Good K ρ' σ' H' w' t -> Go H w H' w' -> Q σ' H'
theorem PGs.imp {X : Cx} {tg : List Expr} {t t' : TGs} (h : PGs X tg t) (i : ∀ v σ H Q, t' v σ H Q -> t v σ H Q) : PGs X tg t' := fun pins s σ H v u Q I r q => h pins s σ H v u Q I r (i v σ H Q q)
noncomputable abbrev z6z (X : Cx) (b : Nat) (tg : List Expr) (pt : x8w) : Prop := PGs X tg (j1i X.K b pt)
@[simp] noncomputable def x66 : x8w := fun ds ρ => match ds with
  | [] => some ρ
  | _ => none
@[simp] noncomputable def x15 (pt : x5m) (ps : x8w) : x8w := fun ds ρ => match ds with
  | [] => none
  | d :: r => match pt d ρ with
    | some ρ1 => ps r ρ1
    | none => none
@[simp] noncomputable def y3j (ps : x8w) : x5m := fun d ρ => match d with
  | .tup ds => ps ds ρ
  | _ => none
section
variable {X : Cx} {k b : Nat} {e : Expr} {es : List Expr} {pt : x5m} {ps : x8w} {pos : Pos}
theorem z0e : z6z X b [] x66 := PGs.imp z3i fun v σ H Q hh0 => by
  obtain ⟨ds, ρ, w, t, ρ', g, r, e, k⟩ := hh0
  unfold x66 at e
  split at e
  · cases e
    generalize hF : ([] : List Addr) = F at r
    cases r
    exact ⟨rfl, k σ H w rfl (fun _ _ => rfl) g Go.refl⟩
  · cases e
theorem y7j (h1 : PDG X b e pt) (h2 : z6z X b es ps) (hs : (assignEach (e :: es) X.env).map (·.2) = assign e X.env :: (assignEach es X.env).map (·.2) := by rfl) : z6z X b (e :: es) (x15 pt ps) := PGs.imp (z16 h1 h2 hs) fun v σ H Q hh0 => by
  obtain ⟨ds, ρ, w, t, ρ', g, r, e, k⟩ := hh0
  unfold x15 at e
  split at e
  · cases e
  · rename_i d x2b
    split at e
    · rename_i ρ1 h1
      generalize hF : ([] : List Addr) = F at r
      cases r with
      | cons ra rb _ =>
        have z1 := ra.zero
        have z2 := rb.zero
        subst z1 z2
        refine ⟨_, _, rfl, d, ρ, w, t, ρ1, g, ra, h1, fun σ1 H1 w1 l1 s1 g1 go1 => ⟨x2b, ρ1, w1, t, ρ', g1, rb.go0 g.wl go1.stab, e, fun σ2 H2 w2 l2 s2 g2 go2 => k σ2 H2 w2 (l2.trans l1) (fun i hi => (s2 i hi).trans (s1 i hi)) g2 (go1.trans go2)⟩⟩
    · cases e
theorem z3b {n : Nat} (hc : X.calm = true) (h : z6z X b es ps) (hl : ∀ ds ρ ρ', ps ds ρ = some ρ' -> ds.length = n) (hn : (assignEach es X.env).length = n := by rfl) (hst : (assignEach es X.env).findIdx? (·.1) = none := by rfl) : PDG X b (.Tuple es k pos) (y3j ps) := PG.imp (z69 hc h hn hst) fun v σ H Q hh0 => by
  obtain ⟨d, ρ, w, t, ρ', g, r, e, k⟩ := hh0
  unfold y3j at e
  split at e
  · rename_i ds
    obtain ⟨a, vs, rfl, hq, rs⟩ := r.seqT
    exact ⟨a, vs, rfl, hq, by rw [<- rs.length]; exact hl _ _ _ e, ds, ρ, w, t, ρ', g, rs, e, k⟩
  · cases e
theorem y8s {p q : x5m} : ∀ ds ρ ρ', x15 p (x15 q x66) ds ρ = some ρ' -> ds.length = 2 := fun ds ρ ρ' h => by
  match ds with
  | [] => cases h
  | [_] => unfold x15 at h; simp at h; split at h <;> cases h
  | [_, _] => rfl
  | _ :: _ :: _ :: _ =>
    exfalso
    unfold x15 at h
    simp at h
    split at h
    · split at h <;> cases h
    · cases h
end
theorem y2o : ∀ {bs : List Bool} {us : List Value}, x2p (bs.map V.bl) us -> LSm.BoolsAre us bs
  | [], _, h => by cases h; exact .nil
  | b :: bs, _, h => by
    cases h with
    | cons r rr =>
      cases r
      exact .cons b (y2o rr)
section
variable {X : Cx} {a b c e : Expr} {es : List Expr} {fa fb fc f : Den} {g : x2a} {pos p p1 p2 : Pos}
theorem y9m (hc : X.calm = true) : y0c X (.builtin "all") (fun xs H Q => ∃ (a : Addr) (bs : List Bool), xs = [.ref a] /\ SqL X.K H a (bs.map V.bl) /\ Q (.bl (bs.all id)) H) := by
  intro pins s σ H xs us Q I r h
  obtain ⟨l, bs, rfl, hq, q⟩ := h
  obtain ⟨u, rfl, ru⟩ := y4g r
  cases ru
  obtain ⟨its, rv, pl, hz⟩ := I.list hq
  have hb := y2o rv
  have hl : s.heap.IsList l its.toArray := pl.isList
  have lt : l < s.heap.objs.size := by obtain ⟨_, e, _⟩ := hl; exact Heap.lt_size e
  refine call_all_walk (wpAny_pyIter_list hl ⟨s.heap.objs.size, [s.heap.objs.size, l], [s.heap.objs.size], its.toArray.size, _, _, fun i => (bs[i]?).getD true, rfl, Walks.list (A := X.A.in1) (I.ok.hd hc) _ l (Nat.ne_of_lt lt) its.toArray,
    ⟨⟨_, Heap.get?_push_size _ rfl, rfl, rfl⟩, hl.push _⟩, fun i v s' Q' E' hP hQ => ?_, fun h' tk hk => ?_⟩)
  · obtain ⟨b, e, rfl⟩ := hb.get i v (by simpa using hP)
    simp only [e, Option.getD_some] at hQ
    exact wpAny_truthy_bool hQ
  · have e : ((List.range its.toArray.size).all fun i => (bs[i]?).getD true) = bs.all id := by
      rw [List.size_toArray, hb.length]; exact LSm.range_all bs
    rw [e]
    exact ⟨.bl (bs.all id), H, I.kept fun b o z => hk b o (fun m => by rw [List.mem_singleton.mp m] at z; exact Nat.lt_irrefl _ (Heap.lt_size z)) (Heap.get?_push_of_some _ z), rfl, q⟩
noncomputable def z1o : List D -> Option (List Bool)
  | [] => some []
  | .bl b :: r => (z1o r).map (b :: ·)
  | _ => none
noncomputable def z1c : List D -> Option D
  | [.lst ds] => (z1o ds).map fun bs => .bl (bs.all id)
  | _ => none
theorem y2m {K : PySem.W.Frag} {H : Hp} {w : Wn} {o : Ow} : ∀ {ds : List D} {vs : List V} {bs : List Bool}, Reps K H w o 0 ds vs [] -> z1o ds = some bs -> vs = bs.map V.bl
  | ds, vs, bs, r, e => by
    generalize hF : ([] : List Addr) = F at r
    cases r with
    | nil => cases e; rfl
    | @cons _ d v ds' vs' F' G' r1 r2 _ =>
      have h2 : G' = [] := r2.zero
      subst h2
      cases r1 with
      | bl b =>
        unfold z1o at e
        cases e' : z1o ds' with
        | none => rw [e'] at e; cases e
        | some bs' =>
          rw [e'] at e
          cases e
          rw [y2m r2 e']
          rfl
      | _ => cases e
theorem z6b (hc : X.calm = true) (hm : X.mg "all" = none) (ha : PDA X [a] g) (hg : Gl X "all" := by rfl) (he : starEach [a] X.env = (false, eval a X.env) :: starEach [] X.env := by rfl) (hpl : (backTo pos (starEach [] X.env)).any (·.1) = false := by rfl) : PD X (.Call (.Name "all" p) [a] [] pos) (eB z1c g) :=
  PE.imp (x5u (y9m hc) hg hm PyProof.Rows.boot_all ha (by decide) (by decide) he hpl) (y8j fun ds d h => by
    unfold z1c at h
    split at h
    · rename_i ds0
      cases e : z1o ds0 with
      | none => rw [e] at h; cases h
      | some bs =>
        rw [e] at h
        cases h
        refine ⟨_, rfl, fun H w vs wl r Q hq => ?_⟩
        obtain ⟨v, rfl, rv⟩ := one r
        obtain ⟨p, ys, rfl, hs, rs⟩ := rv.seqL0
        rw [y2m rs e] at hs
        exact ⟨p, bs, rfl, hs, hq⟩
    · cases h)
theorem y53 {α : Type} (l : List α) (f : α -> Bool) : z1o (l.map fun i => .bl (f i)) = some (l.map f) := by
  induction l with
  | nil => rfl
  | cons a l ih => rw [List.map_cons, z1o, ih]; rfl
end
inductive IT where
  | int | bool | tuple | list | str
noncomputable def IT.nm : IT -> String
  | .int => "int"
  | .bool => "bool"
  | .tuple => "tuple"
  | .list => "list"
  | .str => "str"
noncomputable def isD : IT -> D -> Bool
  | .int, .int _ => true
  | .int, .bl _ => true
  | .bool, .bl _ => true
  | .tuple, .tup _ => true
  | .list, .lst _ => true
  | .str, .str _ => true
  | _, _ => false
noncomputable def tyD : D -> String
  | .non => "NoneType"
  | .bl _ => "bool"
  | .int _ => "int"
  | .str _ => "str"
  | .tup _ => "tuple"
  | .dic _ _ => "dict"
  | .exc _ => "object"
  | .lst _ => "list"
section
variable {X : Cx} {pins : List (Addr × Obj)} {σ : St} {H : Hp} {s : Shared}
theorem z7t {w : Wn} {o : Ow} {q : Nat} {F : List Addr} {d : D} {x : V} {u c : Value} {b : Bool} {A : Around} {E : Value -> Shared -> Prop} {Q : Value -> Shared -> Prop} (I : Inv X pins σ H s) (rx : x3r x u) (r : Rep X.K H w o q d x F)
    (e : PySem.W.kitOne X.K (.type (tyD d)) c = some b) (hx : ∀ nm, d ≠ .exc nm) (h : ∀ tk, Q (.bool b) { s with toks := tk }) : wpAny (model X.prog X.w) A (call (.builtin "isinstance") [u, c]) Q E s := by
  cases r with
  | exc _ _ _ => exact absurd rfl (hx _)
  | non => exact x3p I rx .non e h
  | bl y => exact x3p I rx (.bl y) e h
  | int i => exact x3p I rx (.int i) e h
  | str y => exact x3p I rx (.str y) e h
  | tup ha _ => exact x3p I rx (.tup ha) e h
  | dic ha _ => exact x3p I rx (.dK ha) e h
  | kl ha _ =>
    obtain ⟨ob, its, n, hk, hc, hd, _⟩ := ha
    cases rx
    exact PySem.W.kia_one PySem.W.kitx_list I.kIn ⟨ob, I.kIn _ _ hk, hc⟩ e (fun z => nomatch z) h
  | shr ha _ _ =>
    rcases ha with ha | ⟨ob, ha⟩
    · exact x3p I rx (.lst ha) e h
    · exact x3p I rx (.frz ha) e h
  | own ha _ _ _ => exact x3p I rx (.lst ha) e h
theorem z3r {K : PySem.W.Frag} (T : IT) (d : D) (hx : ∀ nm, d ≠ .exc nm) : PySem.W.kitOne K (.type (tyD d)) (.type T.nm) = some (isD T d) := by
  cases T <;> cases d <;> first | rfl | exact absurd rfl (hx _)
end
section
variable {X : Cx} {a b c e : Expr} {es : List Expr} {fa fb fc f : Den} {ga gb : x29} {g : x2a} {pos p p1 p2 pT : Pos}
theorem z0u (T : IT) : y0c X (.builtin "isinstance") (fun xs H Q => ∃ x w o q F d, xs = [x, .ty T.nm] /\ Rep X.K H w o q d x F /\ Q (.bl (isD T d)) H) := by
  intro pins s σ H xs us Q I r h
  obtain ⟨x, w, o, q, F, d, rfl, rd, hq⟩ := h
  obtain ⟨u, v, rfl, ru, rv⟩ := z5k r
  cases rv
  by_cases hx : ∃ nm, d = .exc nm
  · obtain ⟨nm, rfl⟩ := hx
    cases rd with
    | exc ha xo _ =>
      obtain ⟨C, hc, k⟩ := xo
      cases ru
      obtain ⟨e1, _⟩ := (show x2y X.prog X.w H s.heap _ (.frz _ _) from I.hok _ _ ha)
      have hT : isD T (.exc nm) = false := by cases T <;> rfl
      rw [hT] at hq
      refine z8k (x := _) I.kIn ⟨e1, hc⟩ k.xc (by cases T <;> kernel_rfl) (k.no _ (by cases T <;> simp [IT.nm])) ⟨.bl false, H, I.tok _, rfl, hq⟩
  · exact z7t I ru rd (z3r T d fun nm z => hx ⟨nm, z⟩) (fun nm z => hx ⟨nm, z⟩) fun tk => ⟨.bl (isD T d), H, I.tok _, rfl, hq⟩
@[simp] noncomputable def y6o (T : IT) (fa : Den) : Den := fun ρ => match fa ρ with
  | some (d, _, ρ1) => some (.bl (isD T d), 9, ρ1)
  | none => none
theorem z6u (T : IT) {t : Str} (hm : X.mg "isinstance" = none) (hmT : X.mg t = none) (hbT : bootBuiltins t = some (.type T.nm)) (ha : PD X a fa) (hg : Gl X "isinstance" := by rfl) (hgT : Gl X t := by rfl) (hnT : t ≠ "__name__" := by decide) (hdT : (t == ("__debug__" : Str)) = false := by decide)
    (hs : starEach [a, .Name t pT] X.env = (false, eval a X.env) :: starEach [.Name t pT] X.env := by rfl) (hpl : (backTo pos (starEach [.Name t pT] X.env)).any (·.1) = false := by rfl) : PD X (.Call (.Name "isinstance" p) [a, .Name t pT] [] pos) (y6o T fa) :=
  PE.imp (x5u (z0u T) hg hm PyProof.Rows.boot_isinstance (x6o ha (x6o (z4q (v := .ty T.nm) hgT hmT hbT rfl hnT hdT) y0o x04) hs) (by decide) (by decide) hs hpl) fun σ H Q hh0 => by
  obtain ⟨ρ, w, t, r', q, ρ', gd, ee, k⟩ := hh0
  unfold y6o at ee
  split at ee
  · rename_i d q1 ρ1 h1
    cases ee
    refine ⟨ρ, w, t, _, _, _, gd, h1, fun v H1 w1 F1 g1 go1 r1 => ?_⟩
    exact ⟨v, w1, _, _, F1, d, rfl, r1, k _ H1 (x20 t w1) [] g1.drop.up (go1.drop gd.wt) (.bl _)⟩
  · cases ee
@[simp] noncomputable def eCh (g1 g2 : D -> D -> Option D) (fa fb fc : Den) : Den := fun ρ => match fa ρ with
  | some (x, _, ρ1) => match fb ρ1 with
    | some (y, _, ρ2) => match g1 x y with
      | some (.bl true) => match fc ρ2 with
        | some (z, _, ρ3) => match g2 y z with
          | some d => some (d, 9, ρ3)
          | none => none
        | none => none
      | some (.bl false) => some (.bl false, 9, ρ2)
      | _ => none
    | none => none
  | none => none
theorem z6o {op op' : CmpOp} {g1 g2 : Int -> Int -> Option D} {h1 h2 : Int -> Int -> V} (ho : OpR X (compareOp op) (rI0 h1)) (ho' : OpR X (compareOp op') (rI0 h2)) (e1 : ∀ i j d, g1 i j = some d -> y1j d = some (h1 i j)) (e2' : ∀ i j d, g2 i j = some d -> y1j d = some (h2 i j))
    (ha : PD X a fa) (hb : PD X b fb) (hc : PD X c fc) (hm : lastMarks [op, op'] [b, c] = false := by with_unfolding_all rfl) : PD X (.Compare a [op, op'] [b, c] pos) (eCh (gI g1) (gI g2) fa fb fc) := PE.imp (z18 ho ho' ha hb hc hm) fun σ H Q hh0 => by
  obtain ⟨ρ, w, t, r', q, ρ', gd, ee, k⟩ := hh0
  unfold eCh at ee
  split at ee
  · rename_i x q1 ρ1 a1
    split at ee
    · rename_i y q2 ρ2 a2
      refine z2u gd a1 a2 fun u v H2 w2 F1 F2 g2' go2 r1 r2 => ?_
      have gg := g2'.drop (t' := t)
      split at ee
      · rename_i hg
        obtain ⟨i, j, rfl, rfl, hg'⟩ := x9x hg
        refine ⟨i, j, x3v r1, x3v r2, true, by have := e1 i j _ hg'; simpa [y1j] using this.symm, ?_⟩
        rw [if_pos rfl]
        split at ee
        · rename_i z q3 ρ3 a3
          refine ⟨ρ2, x20 t w2, t, z, q3, ρ3, gg, a3, fun v3 H3 w3 F3 g3 go3 r3 => ?_⟩
          split at ee
          · rename_i d hd
            cases ee
            obtain ⟨j', l, ej, rfl, hd'⟩ := x9x hd
            cases ej
            exact ⟨j, l, x3v r2, x3v r3, z4w k gd g3 ((go2.drop gd.wt).trans go3) (y1r (e2' j l _ hd'))⟩
          · cases ee
        · cases ee
      · rename_i hg
        obtain ⟨i, j, rfl, rfl, hg'⟩ := x9x hg
        cases ee
        refine ⟨i, j, x3v r1, x3v r2, false, by have := e1 i j _ hg'; simpa [y1j] using this.symm, ?_⟩
        rw [if_neg (by decide)]
        exact z4w k gd g2' go2 (.bl false)
      · cases ee
    · cases ee
  · cases ee
theorem y3z (ha : PD X a fa) (hb : PD X b fb) (hc : PD X c fc) (hm : lastMarks [.LtE, .Lt] [b, c] = false := by with_unfolding_all rfl) : PD X (.Compare a [.LtE, .Lt] [b, c] pos) (eCh dLe dLt fa fb fc) :=
  z6o z9h z56 (fun i j d h => by cases h; rfl) (fun i j d h => by cases h; rfl) ha hb hc hm
@[simp] noncomputable def z53 (fa : Den) : Den := fun ρ => match fa ρ with
  | some (.int i, _, ρ1) => some (.int (-i), 9, ρ1)
  | _ => none
theorem z5f (ha : PD X a fa) : PD X (.UnaryOp .USub a pos) (z53 fa) := PE.imp (z95 z86 ha) fun σ H Q hh0 => by
  obtain ⟨ρ, w, t, r', q, ρ', gd, ee, k⟩ := hh0
  unfold z53 at ee
  split at ee
  · rename_i i q1 ρ1 h1
    cases ee
    refine ⟨ρ, w, t, _, _, _, gd, h1, fun v H1 w1 F1 g1 go1 r1 => ?_⟩
    exact ⟨i, x3v r1, k _ H1 (x20 t w1) [] g1.drop.up (go1.drop gd.wt) (.int _)⟩
  · cases ee
section
variable {prog : Program} {w : World} {A : Around} {E : Value -> Shared -> Prop} {s : Shared}
theorem z15 (l b : Addr) (us vs : Array Value) (n m : Nat) (d1 d2 : Option Addr) (s1 s2 : Array (Option Value)) (h0 : us.isEmpty = true) :
    Meets (Builtin.«tuple.__add__» ⟨[.ref l, .ref b], []⟩) (fun _ R s => s.heap.get? l = some { cls := .type "tuple", dict := d1, data := .seq us n, slots := s1 } /\ s.heap.get? b = some { cls := .type "tuple", dict := d2, data := .seq vs m, slots := s2 } /\ R (.ok (.ret (.ref b))) s) :=
  .of_wp fun prog w A R s h => by
    obtain ⟨hp, g, d, tk, os⟩ := s
    obtain ⟨hl, hb, h⟩ := h
    have f2 := AutoSeq1.sub_tuple_tuple
    wp_walk using wpAny_loadPart' hl, wpAny_loadPart' hb
    exact ⟨_, rfl, h⟩
theorem y8i {t b : Addr} {ws : List Value} {Q : Value -> Shared -> Prop} (ht : IsTup s.heap t #[]) (hb : IsTup s.heap b ws.toArray) (h : Q (.ref b) s) : wpAny (model prog w) A (binaryOp .Add (.ref t) (.ref b)) Q E s := by
  obtain ⟨⟨c1, d1, a1, s1⟩, e1, hc1, n1, ha1⟩ := id ht
  obtain ⟨⟨c2, d2, a2, s2⟩, e2, hc2, n2, ha2⟩ := id hb
  simp only at hc1 ha1 hc2 ha2
  subst hc1 ha1 hc2 ha2
  exact concat_meets ⟨_, e1, rfl⟩ ⟨_, e2, rfl⟩ noFill_tuple_add seq_tuple_add PySem.F.slot_tuple_add PySem.F.entry_tuple_add (PySem.F.args_tuple_add_2 _ _) (z15 t b #[] ws.toArray n1 n2 d1 d2 s1 s2 rfl) ⟨e1, e2, h⟩
end
theorem z25 : OpR X (binaryOp .Add) (fun x y H Q => ∃ a b ys, x = .ref a /\ y = .ref b /\ SqT X.K H a [] /\ SqT X.K H b ys /\ Q (.ref b) H) := by
  intro pins s σ H x y v u Q I rx ry h
  obtain ⟨a, b, ys, rfl, rfl, ha, hb, q⟩ := h
  cases rx
  cases ry
  obtain ⟨its, r1, p1, _⟩ := I.tuple ha
  obtain ⟨its2, r2, p2, _⟩ := I.tuple hb
  cases r1
  exact y8i p1 p2 ⟨.ref b, H, I, rfl, q⟩
theorem OpR.or {f : Value -> Value -> Sem Value} {r r' : R2} (h : OpR X f r) (h' : OpR X f r') : OpR X f (fun x y H Q => r x y H Q \/ r' x y H Q) := fun pins s σ H x y v u Q I rx ry q => q.elim (fun z => h pins s σ H x y v u Q I rx ry z) fun z => h' pins s σ H x y v u Q I rx ry z
@[simp] noncomputable def z70 (fa fb : Den) : Den := fun ρ => match fa ρ with
  | some (.tup ds, _, ρ1) => match fb ρ1 with
    | some (.tup es, _, ρ2) => if ds.length + es.length <= 1000 then some (.tup (ds ++ es), 9, ρ2) else none
    | _ => none
  | _ => none
theorem z5t (ha : PD X a fa) (hb : PD X b fb) : PD X (.BinOp a .Add b pos) (z70 fa fb) := PE.imp (y21 (OpR.or z25 z36) ha hb) fun σ H Q hh0 => by
  obtain ⟨ρ, w, t, r', q, ρ', gd, ee, k⟩ := hh0
  unfold z70 at ee
  split at ee
  · rename_i ds q1 ρ1 h1
    split at ee
    · rename_i es q2 ρ2 h2
      split at ee
      · rename_i hl
        cases ee
        refine z2u gd h1 h2 fun u u' H2 w2 F1 F2 g2 go r1 r2 => ?_
        have r10 := r1.drop (o := .f) (Nat.le_refl t)
        have r20 := r2.drop (o := .f) (Nat.le_succ t)
        have gg := g2.drop (t' := t)
        have gog := go.drop gd.wt
        obtain ⟨p1, vs, rfl, q1', s1⟩ := r10.seqT
        obtain ⟨p2, us, rfl, q2', s2⟩ := r20.seqT
        have l1 := s1.length
        have l2 := s2.length
        cases ds with
        | nil =>
          have : vs = [] := List.length_eq_zero_iff.mp (by rw [<- l1]; rfl)
          subst this
          refine .inl ⟨p1, p2, us, rfl, rfl, q1', q2', k _ H2 (x20 t w2) [] gg.up gog ?_⟩
          exact (Rep.go gg.wl (fun a x e n => ⟨e, n⟩) r20 (fun _ z => nomatch z) : Rep X.K H2 (x20 t w2) (.t t) 0 _ _ []).nolist rfl |>.2 9
        | cons d ds =>
          refine .inr ⟨p1, p2, vs, us, rfl, rfl, q1', q2', (fun z => by rw [z] at l1; cases l1), x9g (by rw [<- l1, <- l2]; exact hl), fun z => ?_, fun _ p hp => ?_⟩
          · have : es = [] := List.length_eq_zero_iff.mp (by rw [l2, z]; rfl)
            subst this
            rw [List.append_nil] at k
            exact k _ H2 (x20 t w2) [] gg.up gog ((Rep.go gg.wl (fun a x e n => ⟨e, n⟩) r10 (fun _ z => nomatch z) : Rep X.K H2 (x20 t w2) (.t t) 0 _ _ []).nolist rfl |>.2 9)
          · obtain ⟨a1, a2, a3⟩ := y14 gg hp (s2.app s1)
            exact k _ _ _ _ a1 (gog.trans a2) a3
      · cases ee
    · cases ee
  · cases ee
noncomputable abbrev z22 := Rho -> Option (Option Int × Rho)
noncomputable def tDO (K : PySem.W.Frag) (f : z22) : TO := fun σ H Q => ∃ ρ w t o ρ', Good K ρ σ H w t /\ f ρ = some (o, ρ') /\ ∀ H' w', Good K ρ' σ H' w' t -> Go H w H' w' -> Q o H'
noncomputable abbrev PDO (X : Cx) (e : Option Expr) (f : z22) : Prop := PO X e (tDO X.K f)
@[simp] noncomputable def z0x : z22 := fun ρ => some (none, ρ)
@[simp] noncomputable def y71 (f : Den) : z22 := fun ρ => match f ρ with
  | some (.int i, _, ρ1) => some (some i, ρ1)
  | _ => none
theorem PO.imp {e : Option Expr} {t t' : TO} (h : PO X e t) (i : ∀ σ H Q, t' σ H Q -> t σ H Q) : PO X e t' := fun pins s σ H Q I q => h pins s σ H Q I (i σ H Q q)
theorem z0t : PDO X none z0x := PO.imp z2d fun σ H Q hh0 => by
  obtain ⟨ρ, w, t, o, ρ', gd, ee, k⟩ := hh0
  cases ee
  exact k H w gd Go.refl
theorem y9y (h : PD X e f) : PDO X (some e) (y71 f) := PO.imp (z2o h) fun σ H Q hh0 => by
  obtain ⟨ρ, w, t, o, ρ', gd, ee, k⟩ := hh0
  unfold y71 at ee
  split at ee
  · rename_i i q1 ρ1 h1
    cases ee
    exact ⟨ρ, w, t, _, _, _, gd, h1, fun v H1 w1 F1 g1 go1 r1 => ⟨i, x3v r1, k H1 (x20 t w1) g1.drop (go1.drop gd.wt)⟩⟩
  · cases ee
section
variable {prog : Program} {w : World} {A : Around} {E : Value -> Shared -> Prop} {s : Shared}
theorem y66 {t sl : Addr} {us : Array Value} {vl vu : Value} {lo hi : Option Int} {Q : Value -> Shared -> Prop} (ht : IsTup s.heap t us) (hs : s.heap.IsSliceOf sl vl vu .none) (pl : IsPart vl lo) (pu : IsPart vu hi)
    (hw : HT.sIx us.size 0 lo = 0 /\ HT.sIx us.size us.size hi = us.size) (h : Q (.ref t) s) : wpAny (model prog w) A (getItem (.ref t) (.ref sl)) Q E s := by
  obtain ⟨os, hos, hcs, hds⟩ := id hs
  have ts : s.TypeIs (.ref sl) "slice" := ⟨os, hos, hcs⟩
  unfold getItem
  try with_reducible refine wpAny_holding ?_
  first | refine wpAny_bind (wpAny_pure ?_) | skip
  refine wpAny_bind (wpAny_sequenceKey ht.typeIs (by decide) (wpAny_bind (wpAny_callSpecial?_slot (name := Str.ofString "__getitem__") ht.typeIs PyProof.Rows.slot_tuple_getitem (wpAny_call_entry PyProof.Rows.slot_tuple_getitem ht.typeIs entry_tuple_getitem ?_ (args_tuple_getitem _ _)))))
  show wpAny _ _ (Builtin.Tuple.tupleItemsOf (.ref t) >>= _) _ _ s
  refine wpAny_bind (tupleItemsOf_ ht (wpAny_bind (wpAny_typeOf ts ?_)))
  rw [if_pos (by decide)]
  refine wpAny_bind (HT.x90 hs pl pu ?_)
  have yes : (((HT.sIx us.size 0 lo : Nat) : Int) == 0 && (1 : Int) == 1 && (HT.sIx us.size us.size hi - HT.sIx us.size 0 lo) == us.size) = true := by rw [hw.1, hw.2]; simp
  show wpAny _ _ (if (((HT.sIx us.size 0 lo : Nat) : Int) == 0 && (1 : Int) == 1 && (HT.sIx us.size us.size hi - HT.sIx us.size 0 lo) == us.size) = true then _ else _) _ _ s
  rw [if_pos yes]
  refine wpAny_bind (m := Builtin.Tuple.tupleIsExact _) ?_
  unfold Builtin.Tuple.tupleIsExact
  refine wpAny_bind (wpAny_typeOf ht.typeIs (wpAny_pure ?_))
  rw [if_pos (by decide)]
  exact wpAny_bind (wpAny_rule (wpAny_pure ⟨_, rfl, wpAny_pure h⟩))
end
noncomputable def z6y (xs : List D) (lo hi : Option Int) : List D := (xs.drop (HT.sIx xs.length 0 lo)).take (HT.sIx xs.length xs.length hi - HT.sIx xs.length 0 lo)
@[simp] noncomputable def eSl (fa : Den) (fl fh : z22) : Den := fun ρ => match fa ρ with
  | some (.tup ds, _, ρ1) => match fl ρ1 with
    | some (lo, ρ2) => match fh ρ2 with
      | some (hi, ρ3) => some (.tup (z6y ds lo hi), 9, ρ3)
      | none => none
    | none => none
  | _ => none
theorem Reps.take0 {K : PySem.W.Frag} {H : Hp} {w : Wn} : ∀ {ds : List D} {vs : List V} (i : Nat), Reps K H w .f 0 ds vs [] -> Reps K H w .f 0 (ds.take i) (vs.take i) []
  | _, _, 0, _ => by rw [List.take_zero, List.take_zero]; exact .nil
  | ds, vs, i + 1, r => by
    generalize hF : ([] : List Addr) = F at r
    cases r with
    | nil => exact .nil
    | cons r s _ =>
      have h2 := s.zero
      have h1 := r.zero
      subst h2
      subst h1
      exact .cons (F := []) (G := []) r (Reps.take0 i s) (fun _ z => nomatch z)
theorem y8z : SlR X (fun x lo hi H Q => ∃ a xs, x = .ref a /\ SqT X.K H a xs /\ (HT.sIx xs.length 0 lo = 0 /\ HT.sIx xs.length xs.length hi = xs.length) /\ Q (.ref a) H) := by
  intro pins s σ H x v vl vu lo hi sl Q I rx hs pl pu h
  obtain ⟨a, xs, rfl, hx, hw, q⟩ := h
  cases rx
  obtain ⟨its, r, ht, hz⟩ := I.tuple hx
  have hlen : its.toArray.size = xs.length := by rw [List.size_toArray]; exact r.length.symm
  exact ⟨"tuple", _, PyProof.Rows.slot_tuple_getitem.lookup, ht.typeIs, y66 ht hs pl pu (by rw [hlen]; exact hw) ⟨.ref a, H, I, rfl, q⟩⟩
theorem j00 {lo hi : Option Expr} {fl fh : z22} (ha : PD X a fa) (hl : PDO X lo fl) (hh : PDO X hi fh) : PD X (.Subscript a (.Slice lo hi none p2) pos) (eSl fa fl fh) := PE.imp (z1e (y8z.or z7z) ha hl hh) fun σ H Q hh0 => by
  obtain ⟨ρ, w, t, r', q, ρ', gd, ee, k⟩ := hh0
  unfold eSl at ee
  split at ee
  · rename_i ds q1 ρ1 h1
    split at ee
    · rename_i lo ρ2 h2
      split at ee
      · rename_i hi ρ3 h3
        cases ee
        refine ⟨ρ, w, t, _, _, _, gd, h1, fun v H1 w1 F1 g1 go1 r1 => ?_⟩
        have gg1 := g1.drop (t' := t)
        have r0 := r1.drop (o := .f) (Nat.le_refl t)
        refine ⟨ρ1, x20 t w1, t, _, _, gg1, h2, fun H2 w2 g2 go2 => ⟨ρ2, w2, t, _, _, g2, h3, fun H3 w3 g3 go3 => ?_⟩⟩
        have r3 := (r0.go0 gg1.wl go2.stab).go0 g2.wl go3.stab
        obtain ⟨p1, vs, rfl, q1', s1⟩ := r3.seqT
        have l1 := s1.length
        by_cases hw : HT.sIx ds.length 0 lo = 0 /\ HT.sIx ds.length ds.length hi = ds.length
        · have ec : z6y ds lo hi = ds := by unfold z6y; rw [hw.1, hw.2, List.drop_zero, Nat.sub_zero, List.take_length]
          rw [ec] at k
          refine .inl ⟨p1, vs, rfl, q1', by rw [<- l1]; exact hw, ?_⟩
          exact k _ H3 w3 [] g3.up (((go1.drop gd.wt).trans go2).trans go3) ((Rep.go g3.wl (fun a x e n => ⟨e, n⟩) r3 (fun _ z => nomatch z) : Rep X.K H3 w3 (.t t) 0 _ _ []).nolist rfl |>.2 9)
        · refine .inr ⟨p1, vs, rfl, q1', by rw [<- l1]; exact hw, fun p hp => ?_⟩
          have s4 : Reps X.K H3 w3 .f 0 (z6y ds lo hi) (z1m vs lo hi) [] := by
            unfold z6y z1m
            rw [<- l1]
            exact (s1.drop0 _).take0 _
          obtain ⟨a1, a2, a3⟩ := y14 g3 hp s4
          exact k _ _ _ _ a1 ((((go1.drop gd.wt).trans go2).trans go3).trans a2) a3
      · cases ee
    · cases ee
  · cases ee
end
section
variable {X : Cx} {k b n : Nat} {a c e tg : Expr} {es : List Expr} {pt : x5m} {ps : x8w} {pos : Pos} {fa fb f : Den}
theorem y43 {p q r : x5m} : ∀ ds ρ ρ', x15 p (x15 q (x15 r x66)) ds ρ = some ρ' -> ds.length = 3 := fun ds ρ ρ' h => by
  match ds with
  | [] => cases h
  | [_] => unfold x15 at h; simp at h; split at h <;> cases h
  | [_, _] => unfold x15 at h; simp at h; split at h; (split at h <;> cases h); cases h
  | [_, _, _] => rfl
  | _ :: _ :: _ :: _ :: _ =>
    exfalso
    unfold x15 at h
    simp at h
    split at h
    · split at h
      · split at h <;> cases h
      · cases h
    · cases h
end
theorem y6f : fillsNumberSlot (.type "tuple") "mul" = pure false := PySem.fillsNumberSlot_seq (id := "tuple.__mul__") (r := some (.builtin "tuple.__rmul__")) F.slot_tuple_mul.lookup (by decide +kernel) F.slot_tuple_rmul.lookup (by decide +kernel)
theorem y5v : seqRepeat? (.type "tuple") = pure (some (.builtin "tuple.__mul__")) := by
  unfold seqRepeat?
  rw [PySem.seqSlot_of (T := "tuple") (name := "__mul__") (id := "tuple.__mul__") F.slot_tuple_mul.lookup (by decide +kernel), PySem.seqSlot_of (T := "tuple") (name := "__rmul__") (id := "tuple.__rmul__") F.slot_tuple_rmul.lookup (by decide +kernel)]; rfl
theorem y30 (a : Int) (t : Tok) (l : Addr) (us : Array Value) (n : Nat) (dd : Option Addr) (sl : Array (Option Value)) :
    Meets (Builtin.«int.__rmul__» ⟨[.int a t, .ref l], []⟩) (fun _ R s => s.heap.get? l = some { cls := .type "tuple", dict := dd, data := .seq us n, slots := sl } /\ R (.ok (.ret Value.notImplemented)) s) := .of_wp fun prog w A R s h => by
  obtain ⟨hp, g, d, tk, os⟩ := s
  obtain ⟨hl, h⟩ := h
  wp_walk
  exact ⟨_, rfl, h⟩
theorem y9r (t : Tok) (l : Addr) (us : Array Value) (n : Nat) (dd : Option Addr) (sl : Array (Option Value)) :
    Meets (Builtin.«tuple.__mul__» ⟨[.ref l, .int 1 t], []⟩) (fun _ R s => s.heap.get? l = some { cls := .type "tuple", dict := dd, data := .seq us n, slots := sl } /\ R (.ok (.ret (.ref l))) s) := .of_wp fun prog w A R s h => by
  obtain ⟨hp, g, d, tk, os⟩ := s
  obtain ⟨hl, h⟩ := h
  have f1 := AutoSeq1.idx_int
  wp_walk using wpAny_loadPart' hl
  exact ⟨_, rfl, h⟩
theorem y9v (k : Int) (t : Tok) (l : Addr) (us : Array Value) (n : Nat) (dd : Option Addr) (sl : Array (Option Value)) (h2 : ¬ (decide (k < -(2 ^ 63)) || decide (k ≥ 2 ^ 63)) = true) (h3 : ¬ (us.isEmpty || k == 1) = true) (h4 : ¬ (decide (k <= 0) || us.isEmpty) = true) (h5 : ¬ (us.size : Int) * k > (2 ^ 63 - 1) / 8) (h6 : ¬ Builtin.Tuple.tupleTooMany ((us.size : Int) * k) = true) (hsz : (List.foldl (· ++ ·) #[] (List.replicate k.toNat us)).size <= sizeLine) :
    Meets (Builtin.«tuple.__mul__» ⟨[.ref l, .int k t], []⟩) (fun _ R s => s.heap.get? l = some { cls := .type "tuple", dict := dd, data := .seq us n, slots := sl } /\ R (.ok (.ret (.ref s.heap.objs.size))) { s with heap := s.heap.push { cls := .type "tuple", data := .seq (List.foldl (· ++ ·) #[] (List.replicate k.toNat us)) } }) := .of_wp fun prog w A R s h => by
  obtain ⟨hp, g, d, tk, os⟩ := s
  obtain ⟨hl, h⟩ := h
  have f1 := AutoSeq1.idx_int
  wp_walk using wpAny_loadPart' hl
  rw [if_neg h2]
  wp_walk using wpAny_loadPart' hl
  rw [if_neg h5]
  wp_walk using wpAny_loadPart' hl
  exact ⟨_, rfl, h⟩
section
variable {X : Cx} {a b c e : Expr} {fa fb fc f : Den} {pos : Pos}
theorem z2m : OpR X (binaryOp .Mult) (fun x y H Q => ∃ a k xs, x = .ref a /\ y = .int k /\ SqT X.K H a xs /\ xs ≠ [] /\ 1 <= k /\ xs.length * k.toNat <= 1000 /\ (k = 1 -> Q (.ref a) H) /\ (k ≠ 1 -> ∀ p, H p = none -> Q (.ref p) (upd H p (.tup (List.replicate k.toNat xs).flatten)))) := by
  intro pins s σ H x y v u Q I rx ry h
  obtain ⟨l, k, xs, rfl, rfl, hq, hne, h1, hz, q1, q2⟩ := h
  cases rx
  obtain ⟨t, rfl⟩ := ry
  obtain ⟨its, r, pt, _⟩ := I.tuple hq
  obtain ⟨⟨c1, d1, a1, s1⟩, e, hc1, n1, ha1⟩ := id pt
  simp only at hc1 ha1
  subst hc1 ha1
  have hl := r.length
  have hpos : 0 < its.length := by rw [<- hl]; exact List.length_pos_iff.mpr hne
  refine wpAny_binaryOp_repeat_ref (T := "tuple") (U := "int") (by decide) ⟨_, e, rfl⟩ (fun s' => typeIs_int s' k t) y6f F.fills_int_mul F.slot_int_rmul y5v F.slot_int_index.lookup
    (call_meets F.slot_int_rmul (typeIs_int s k t) F.entry_int_rmul (F.args_int_rmul_2 _ _) (y30 k t l its.toArray n1 d1 s1) ⟨e, rfl, ⟨_, e, rfl⟩, ?_⟩)
  by_cases hk : k = 1
  · subst hk
    exact call_meets F.slot_tuple_mul ⟨_, e, rfl⟩ F.entry_tuple_mul (F.args_tuple_mul_2 _ _) (y9r t l its.toArray n1 d1 s1) ⟨e, ⟨.ref l, H, I, rfl, q1 rfl⟩⟩
  · have hm : its.length * k.toNat <= 1000 := by rw [<- hl]; exact hz
    have hk' : k.toNat <= 1000 := by
      have := Nat.le_mul_of_pos_left k.toNat hpos
      omega
    have f0 : List.foldl (fun x1 x2 => x1 ++ x2) #[] (List.replicate k.toNat its.toArray) = (List.replicate k.toNat its).flatten.toArray := by
      have := x9e its k.toNat []
      rw [List.nil_append] at this
      exact this
    have lf : (List.replicate k.toNat its).flatten.length <= 1000 := by rw [y4b, Nat.mul_comm]; exact hm
    have em : ((its.toArray.size : Nat) : Int) * k = ((its.length * k.toNat : Nat) : Int) := by
      rw [List.size_toArray, Int.natCast_mul, Int.toNat_of_nonneg (by omega)]
    refine call_meets F.slot_tuple_mul ⟨_, e, rfl⟩ F.entry_tuple_mul (F.args_tuple_mul_2 _ _) (y9v k t l its.toArray n1 d1 s1 (by simp; omega) (by simp [hk]; exact List.ne_nil_of_length_pos hpos) (by simp; exact ⟨by omega, List.ne_nil_of_length_pos hpos⟩) (by rw [em]; omega) (by
      unfold Builtin.Tuple.tupleTooMany
      rw [em]
      simp only [gt_iff_lt, decide_eq_true_eq, Int.not_lt]
      have : (1000 : Nat) <= sizeLine := by decide
      omega) (by rw [f0, List.size_toArray]; exact x9g lf)) ⟨e, ?_⟩
    rw [f0]
    refine ⟨.ref s.heap.objs.size, _, I.laid (t' := s.toks) (o := .tup (List.replicate k.toNat xs).flatten) (fun b ob q => Heap.get?_push_of_some _ q) (Nat.le_refl _) ?_, rfl, q2 hk _ (I.hok.fresh (Nat.le_refl _))⟩
    exact ⟨x9g (by rw [y4b, Nat.mul_comm]; exact hz), _, r.rep k.toNat, x4u.new _ _⟩
@[simp] noncomputable def x9n (fa fb : Den) : Den := fun ρ => match fa ρ with
  | some (.tup ds, _, ρ1) => match fb ρ1 with
    | some (.int n, _, ρ2) => if ds.isEmpty = false /\ 1 <= n /\ ds.length * n.toNat <= 1000 then some (.tup (List.replicate n.toNat ds).flatten, 9, ρ2) else none
    | _ => none
  | _ => none
theorem z49 (ha : PD X a fa) (hb : PD X b fb) : PD X (.BinOp a .Mult b pos) (x9n fa fb) := PE.imp (y21 z2m ha hb) fun σ H Q hh0 => by
  obtain ⟨ρ, w, t, r', q, ρ', gd, ee, k⟩ := hh0
  unfold x9n at ee
  split at ee
  · rename_i ds q1 ρ1 h1
    split at ee
    · rename_i n q2 ρ2 h2
      split at ee
      · rename_i hl
        cases ee
        obtain ⟨hd, hn, hz⟩ := hl
        refine z2u gd h1 h2 fun u u' H2 w2 F1 F2 g2 go r1 r2 => ?_
        have r10 := r1.drop (o := .f) (Nat.le_refl t)
        have gg := g2.drop (t' := t)
        have gog := go.drop gd.wt
        obtain ⟨p1, vs, rfl, q1', s1⟩ := r10.seqT
        have l1 := s1.length
        refine ⟨p1, n, vs, rfl, x3v r2, q1', fun z => ?_, hn, by rw [<- l1]; exact hz, fun z => ?_, fun _ p hp => ?_⟩
        · subst z
          have : ds = [] := List.length_eq_zero_iff.mp l1
          subst this
          cases hd
        · subst z
          have e : (List.replicate (Int.toNat 1) ds).flatten = ds := by show (List.replicate 1 ds).flatten = ds; simp
          rw [e] at k
          exact k _ H2 (x20 t w2) [] gg.up gog ((Rep.go gg.wl (fun a x e n => ⟨e, n⟩) r10 (fun _ z => nomatch z) : Rep X.K H2 (x20 t w2) (.t t) 0 _ _ []).nolist rfl |>.2 9)
        · obtain ⟨a1, a2, a3⟩ := y14 gg hp (s1.times n.toNat)
          exact k _ _ _ _ a1 (gog.trans a2) a3
      · cases ee
    · cases ee
  · cases ee
end
end L3
namespace L3
open PySem PySem.Spec PyProof.Rows L2
end L3
namespace L3
open PySem PySem.Spec PyProof.Rows L2
section
variable {X : Cx} {a b c e : Expr} {es : List Expr} {fa fb fc f : Den} {ga gb gc : x29} {g : x2a} {qa qb : x9z} {s : x1b} {pos p p1 p2 cpos apos : Pos}
@[simp] noncomputable def y4t : x1b := fun _ => none
theorem y8o {st : Stmt} : PDS X st y4t := PS.imp z0v fun D σ H hh0 => by obtain ⟨ρ, w, o, g, ee, k⟩ := hh0; cases ee
noncomputable def x5k (c : x29) (b : x1b) : Nat -> Rho -> Option Out
  | 0, _ => none
  | m + 1, ρ => match c ρ with
    | none => none
    | some (t, ρ1) => if t = true then match b ρ1 with
        | none => none
        | some (.nx ρ2) => x5k c b m ρ2
        | some (.ct ρ2) => x5k c b m ρ2
        | some (.bk ρ2) => some (.nx ρ2)
        | some (.rt d q) => some (.rt d q)
      else some (.nx ρ1)
noncomputable def x8i (c : x29) (b : x1b) : x1b := x5k c b 1000
theorem y8g {body : List Stmt} (hp : PassesOwn (model X.prog X.w) X.A X.env X.xe) (hc : PDT X c gc) (hb : y6q X body s) : PDS X (.While c body [] pos) (x8i gc s) :=
  PS.imp (y9c hp hc hb) fun D σ H hh0 => by
  obtain ⟨ρ, w, o, g, ee, k⟩ := hh0
  refine ⟨fun m σ' H' => σ'.length = σ.length /\ ∃ ρ' w', Good X.K ρ' σ' H' w' 0 /\ x5k gc s m ρ' = some o /\ y04 X.K D σ.length H' w' o, ⟨1000, rfl, ρ, w, g, ee, k⟩, ?_⟩
  rintro m σ' H' ⟨hσ, ρ', w', g', e', k'⟩
  cases m with
  | zero => cases e'
  | succ m =>
    unfold x5k at e'
    split at e'
    · cases e'
    · rename_i t ρ1 h1
      refine ⟨ρ', w', 0, t, ρ1, g', h1, fun H1 w1 g1 go1 => ?_⟩
      cases t with
      | true =>
        rw [if_pos rfl] at e' ⊢
        refine ⟨fun σ2 H2 => σ2.length = σ.length /\ ∃ ρ2 w2, Good X.K ρ2 σ2 H2 w2 0 /\ x5k gc s m ρ2 = some o /\ y04 X.K D σ.length H2 w2 o, fun σ2 H2 n2 => ⟨m, Nat.lt_succ_self m, n2⟩, ?_⟩
        have nx : ∀ {ρ5 : Rho}, x5k gc s m ρ5 = some o -> ∀ σ5 H5 w5, σ5.length = σ'.length -> Good X.K ρ5 σ5 H5 w5 0 -> Go H1 w1 H5 w5 -> σ5.length = σ.length /\ ∃ ρ2 w2, Good X.K ρ2 σ5 H5 w2 0 /\ x5k gc s m ρ2 = some o /\ y04 X.K D σ.length H5 w2 o := fun {ρ5} e5 σ5 H5 w5 l5 g5 go5 => ⟨by rw [l5, hσ], ρ5, w5, g5, e5, k'.trans (go1.trans go5)⟩
        cases h6 : s ρ1 with
        | none => rw [h6] at e'; cases e'
        | some o6 =>
          rw [h6] at e'
          refine ⟨ρ1, w1, o6, g1, h6, ?_⟩
          cases o6 with
          | nx ρ5 => exact nx e'
          | ct ρ5 => exact nx e'
          | bk ρ5 =>
            cases e'
            exact fun σ5 H5 w5 l5 g5 go5 => k' σ5 H5 w5 (by rw [l5, hσ]) g5 (go1.trans go5)
          | rt d q =>
            cases e'
            exact fun v H5 w5 F wl5 go5 r5 => k' v H5 w5 F wl5 (go1.trans go5) r5
      | false =>
        rw [if_neg (by decide)] at e' ⊢
        cases e'
        exact k' σ' H1 w1 hσ g1 go1
@[simp] noncomputable def y45 (n : Nat) (qi : x9z) (fe : Den) : x1b := fun ρ => match fe ρ with
  | some (d, _, ρ1) => match qi ρ1, ρ1[n]? with
    | some i, some (some (.lst ds, 1)) => match ixN ds.length i with
      | some m => some (.nx (ρ1.set n (some (.lst (ds.set m d), 1))))
      | none => none
    | _, _ => none
  | none => none
theorem z0g {n : Nat} {x : Str} (h : PE X (.Name x p1) (x9j n)) (ha : PQ X a qa) (he : PD X e f)
    (hasg : ∀ v, assign (.Subscript (.Name x p1) a p) X.env v = (do
      let ov <- holding [v] (eval (.Name x p1) X.env)
      let iv <- holding [v, ov] (eval a X.env)
      standAt p
      holding [v, ov, iv] (setItem ov iv v)
      release [v, ov, iv] []) := by exact fun _ => rfl)
    (hs : swapsWithSole [.Subscript (.Name x p1) a p] e pos.line X.env = pure false := by rfl) :
    PDS X (.Assign [.Subscript (.Name x p1) a p] e pos) (y45 n qa f) := by
  refine PS.imp (z1p he (z1s h ha y4v hasg) hs) fun D σ H ⟨ρ, w, o, gd, ee, k⟩ => ?_
  unfold y45 at ee
  split at ee
  · rename_i d q0 ρ1 h1
    split at ee
    · rename_i i ds hi er
      split at ee
      · rename_i m hm
        cases ee
        refine ⟨ρ, w, 0, d, q0, ρ1, gd, h1, fun v H1 w1 F1 g1 go1 r1 => ?_⟩
        have rv := r1.drop (o := .f) (Nat.le_refl 0)
        have gg := g1.drop (t' := 0)
        obtain ⟨l, vs, m1, m2, m3, mk⟩ := gg.mut er
        refine ⟨_, m1, ρ1, x20 0 w1, 0, i, gg, hi, l, vs, i, m, rfl, rfl, m2, ?_, ?_⟩
        · rw [<- m3.length]; exact hm
        · obtain ⟨n1, n2⟩ := mk _ _ (m3.set0 rv m)
          exact k _ _ _ rfl n1 ((go1.drop gd.wt).trans n2)
      · cases ee
    · cases ee
  · cases ee
noncomputable def z97 (K : PySem.W.Frag) : R2 := fun x y H Q => ∃ l b xs zs, x = .ref l /\ y = .ref b /\ SqL K H l xs /\ SqL K H b zs /\ xs.length + zs.length <= sizeLine /\ ∀ p, H p = none -> Q (.ref p) (upd H p (.lst (xs ++ zs)))
theorem z29 : OpR X (binaryOp .Add) (z97 X.K) := by
  intro pins s σ H x y v u Q I rx ry h
  obtain ⟨l, b, xs, zs, rfl, rfl, hH, hB, hz, q⟩ := h
  cases rx
  cases ry
  obtain ⟨its, r, pl, z⟩ := I.list hH
  obtain ⟨its2, r2, pl2, z2⟩ := I.list hB
  obtain ⟨⟨cls, dd, data, sl⟩, n, ho, hc, _, hd⟩ := pl
  obtain ⟨⟨cls2, dd2, data2, sl2⟩, n2, ho2, hc2, _, hd2⟩ := pl2
  simp only at hc hd hc2 hd2
  subst hc hd hc2 hd2
  have l1 := r.length
  have l2 := r2.length
  refine concat_meets ⟨_, ho, rfl⟩ ⟨_, ho2, rfl⟩ noFill_list_add seq_list_add PySem.F.slot_list_add PySem.F.entry_list_add (PySem.F.args_list_add_2 _ _) (list_addW l b its.toArray its2.toArray n n2 dd dd2 sl sl2 (by rw [List.size_toArray, List.size_toArray, <- l1, <- l2]; exact hz)) ⟨ho, ho2, ?_⟩
  have e : its.toArray ++ its2.toArray = (its ++ its2).toArray := by simp
  rw [e]
  exact ⟨.ref _, _, I.lnew (t' := s.toks) (r.append r2) (by rw [List.length_append]; omega), rfl, q _ I.fresh⟩
@[simp] noncomputable def y7o (fa fb : Den) : Den := fun ρ => match fa ρ with
  | some (.lst ds, _, ρ1) => match fb ρ1 with
    | some (.lst es, _, ρ2) => if ds.length + es.length <= 1000 then some (.lst (ds ++ es), 1, ρ2) else none
    | _ => none
  | _ => none
theorem z4a (ha : PD X a fa) (hb : PD X b fb) : PD X (.BinOp a .Add b pos) (y7o fa fb) := PE.imp (y21 z29 ha hb) fun σ H Q hh0 => by
  obtain ⟨ρ, w, t, r', q, ρ', gd, ee, k⟩ := hh0
  unfold y7o at ee
  split at ee
  · rename_i ds q1 ρ1 h1
    split at ee
    · rename_i es q2 ρ2 h2
      split at ee
      · rename_i hl
        cases ee
        refine z2u gd h1 h2 fun u u' H2 w2 F1 F2 g2 go r1 r2 => ?_
        have r10 := r1.drop (o := .f) (Nat.le_refl t)
        have r20 := r2.drop (o := .f) (Nat.le_succ t)
        have gg := g2.drop (t' := t)
        have gog := go.drop gd.wt
        obtain ⟨p1, vs, rfl, q1', s1⟩ := r10.seqL0
        obtain ⟨p2, us, rfl, q2', s2⟩ := r20.seqL0
        refine ⟨p1, p2, vs, us, rfl, rfl, q1', q2', x9g (by rw [<- s1.length, <- s2.length]; exact hl), fun p hp => ?_⟩
        obtain ⟨a1, a2, a3⟩ := y6l gg hp (s2.app s1)
        exact k _ _ _ _ a1 (gog.trans a2) a3
      · cases ee
    · cases ee
  · cases ee
end
section
variable {X : Cx} {a b c e : Expr} {es : List Expr} {fa fb fc f : Den} {ga gb gc : x29} {g : x2a} {qa qb : x9z} {s : x1b} {pos p p1 p2 p3 cpos apos : Pos}
@[simp] noncomputable def x6w (n : Nat) (c : Int) : x9z := fun ρ => match ρ[n]? with
  | some (some (.tup es, _)) => match L2.atI es c with
    | some d => match x8r d with
      | some m => some (Int.ofNat m)
      | none => none
    | none => none
  | _ => none
theorem z01 {n j : Nat} {c : Int} {x : Str} (hm : X.mg "len" = none) (h : PE X (.Name x p1) (x9j n)) (hg : Gl X "len" := by rfl) (hs : x45 (.Constant (.int c) j p2) := by exact fun _ _ => rfl)
    (he : starEach [.Subscript (.Name x p1) (.Constant (.int c) j p2) p3] X.env = (false, eval (.Subscript (.Name x p1) (.Constant (.int c) j p2) p3) X.env) :: starEach [] X.env := by rfl) (hpl : (backTo pos (starEach [] X.env)).any (·.1) = false := by rfl) :
    PQ X (.Call (.Name "len" p) [.Subscript (.Name x p1) (.Constant (.int c) j p2) p3] [] pos) (x6w n c) :=
  PE.imp (x5u x5p hg hm PySem.boot_len (x6o (y82 y2b h z1i hs) y0o he) (by decide) (by decide) he hpl) fun σ H Q hh0 => by
  obtain ⟨ρ, w, t, i, gd, ee, k⟩ := hh0
  unfold x6w at ee
  split at ee
  · rename_i es q e0
    split at ee
    · rename_i d hd
      split at ee
      · rename_i m hm'
        cases ee
        obtain ⟨v, F, h1, h2⟩ := gd.slot n _ _ e0
        obtain ⟨p0, vs, rfl, hq, rs⟩ := h2.seqT
        obtain ⟨u, hu, ru⟩ := rs.atI hd
        obtain ⟨p', ys, rfl, hs', hl⟩ := ru.len hm'
        exact ⟨_, h1, .inr (.inl ⟨p0, vs, c, _, rfl, rfl, hq, hu, p', ys, rfl, hs', by rw [hl]; exact k⟩)⟩
      · cases ee
    · cases ee
  · cases ee
@[simp] noncomputable def y6c (k l : Str) (qa qb : x9z) : Den := fun ρ => match qa ρ, qb ρ with
  | some i, some j => some (.dic [k, l] [.int i, .int j], 9, ρ)
  | _, _ => none
theorem z7r {K : PySem.W.Frag} {ρ : Rho} {σ : St} {t : Nat} {H1 : Hp} {p : Addr} {ks : List Str} {vs : List V} {ds : List D} {w1 : Wn} (g : Good K ρ σ H1 w1 t) (hp : H1 p = none) (r : Reps K H1 w1 .f 0 ds vs []) :
    Good K ρ σ (upd H1 p (.dK (kvL ks vs))) w1 (t + 1) /\ Go H1 w1 (upd H1 p (.dK (kvL ks vs))) w1 /\ Rep K (upd H1 p (.dK (kvL ks vs))) w1 (.t t) 9 (.dic ks ds) (.ref p) [] := by
  have ne : ∀ a x, H1 a = some x -> a ≠ p := fun a x e => x1f e hp
  have nw : ∀ a o, w1 a = some o -> a ≠ p := fun a o e => by obtain ⟨vs, q⟩ := g.wl a o e; exact ne a _ q
  have st : x8k H1 w1 (upd H1 p (.dK (kvL ks vs))) w1 := fun a x e n => ⟨by rw [x0q (ne a x e)]; exact e, n⟩
  refine ⟨⟨fun a o e => ?_, g.ws, fun a i e => Nat.lt_succ_of_lt (g.wt a i e), g.len, fun i d q e => ?_⟩, ⟨st, fun a o e _ => ⟨x0q (nw a o e), e⟩⟩, ?_⟩
  · obtain ⟨us, q⟩ := g.wl a o e
    exact ⟨us, by rw [x0q (nw a o e)]; exact q⟩
  · obtain ⟨v, F, h1, h2⟩ := g.slot i d q e
    exact ⟨v, F, h1, Rep.go g.wl st h2 fun a m => ⟨x0q (nw a _ (h2.owns a m)), h2.owns a m⟩⟩
  · exact .dic x23 (Reps.go g.wl st r (fun _ z => nomatch z))
theorem z3h {k l : Str} {j1 j2 : Nat} (hkl : k ≠ l) (ha : PQ X a qa) (hb : PQ X b qb) :
    PD X (.Dict [some (.Constant (.str k) j1 p1), some (.Constant (.str l) j2 p2)] [a, b] pos) (y6c k l qa qb) :=
  PE.imp (z4f (y4x y7l ha (y4x y7l hb z4l)) rfl rfl (by simp) (by show 2 <= 15; decide)) fun σ H Q hh0 => by
  obtain ⟨ρ, w, t, r', q, ρ', gd, ee, kk⟩ := hh0
  unfold y6c at ee
  split at ee
  · rename_i i j hi hj
    cases ee
    intro p0 hp
    have ne : ∀ a x, H a = some x -> upd H p0 (.dK []) a = some x := fun a x e => by rw [x0q (x1f e hp)]; exact e
    obtain ⟨g1, go1⟩ := gd.more ne
    refine ⟨ρ, w, t, i, g1, hi, ρ, w, t, j, g1, hj, x23, [(.inr k, .int i), (.inr l, .int j)], rfl, by show 2 <= 15; decide, ?_⟩
    have e : x9l [] [((.inr k : Key), V.int i), (.inr l, .int j)] = kvL [k, l] [.int i, .int j] := by
      have hkl' : ¬ ((Sum.inr k : Key) = .inr l) := fun z => hkl (Sum.inr.inj z)
      simp [x9l, y9b, kvL, hkl']
    rw [e, z4v]
    obtain ⟨a1, a2, a3⟩ := z7r (ks := [k, l]) (ds := [.int i, .int j]) (vs := [.int i, .int j]) gd hp (.cons (F := []) (G := []) (.int i) (.cons (F := []) (G := []) (.int j) .nil (fun _ z => nomatch z)) (fun _ z => nomatch z))
    exact kk _ _ _ _ a1 a2 a3
  · cases ee
noncomputable def y3k : List Str -> List D -> Str -> Option D
  | x :: ks, d :: ds, k => if x = k then some d else y3k ks ds k
  | _, _, _ => none
@[simp] noncomputable def y91 (fo fe ff : Den) : Den := fun ρ => match fo ρ with
  | some (.dic ks ds, _, ρ1) => match fe ρ1 with
    | some (.str k, _, ρ2) => match ff ρ2 with
      | some (z, _, ρ3) => some ((y3k ks ds k).getD z, y0h ((y3k ks ds k).getD z), ρ3)
      | none => none
    | _ => none
  | _ => none
theorem y56 {K : PySem.W.Frag} {H : Hp} {w : Wn} {o : Ow} (k : Str) : ∀ {ks : List Str} {ds : List D} {vs : List V}, Reps K H w o 0 ds vs [] ->
    (∀ d, y3k ks ds k = some d -> ∃ v, y5j (kvL ks vs) (.inr k) = some v /\ Rep K H w o 0 d v []) /\ (y3k ks ds k = none -> y5j (kvL ks vs) (.inr k) = none)
  | [], ds, vs, r => by
    refine ⟨fun d h => ?_, fun _ => rfl⟩
    unfold y3k at h
    cases h
  | x :: ks, ds, vs, r => by
    generalize hF : ([] : List Addr) = F at r
    cases r with
    | nil => exact ⟨(fun d h => by unfold y3k at h; cases h), fun _ => rfl⟩
    | @cons _ d' v' ds' vs' F' G' r s _ =>
      have h1 : F' = [] := r.zero
      have h2 : G' = [] := s.zero
      subst h1 h2
      have ih := y56 k (ks := ks) s
      by_cases hx : x = k
      · subst hx
        refine ⟨fun d h => ?_, fun h => ?_⟩
        · unfold y3k at h
          rw [if_pos rfl] at h
          cases h
          exact ⟨v', y1a rfl, r⟩
        · unfold y3k at h
          rw [if_pos rfl] at h
          cases h
      · have hk : ¬ ((Sum.inr x : Key) = .inr k) := fun z => hx (Sum.inr.inj z)
        have e : y5j (kvL (x :: ks) (v' :: vs')) (.inr k) = y5j (kvL ks vs') (.inr k) := y1g hk
        rw [e]
        unfold y3k
        rw [if_neg hx]
        exact ih
theorem z3s {k : Nat} (hr : Room k X.A) (ho : PD X a fa) (he : PD X b fb) (hf : PD X c fc)
    (hbase : attributeBase a "get" X.env (eval a X.env) = eval a X.env := by rfl)
    (hfew : ((backTo cpos (starEach [b, c] X.env)).all (fun x => !x.1) && (backToKw cpos (keywordEach [] X.env)).all (fun x => x.1.isSome)
      && decide (([b, c] : List Expr).length + ([] : List Keyword).length + (if ([] : List Keyword).isEmpty then 0 else 1) < 30)) = true := by rfl)
    (hline : (apos.endLine == cpos.line) = true := by rfl) (htr : backTo cpos (starEach [b, c] X.env) = [(false, eval b X.env), (false, eval c X.env)] := by rfl) :
    PD X (.Call (.Attribute a "get" apos) [b, c] [] cpos) (y91 fa fb fc) :=
  PE.imp (y9j (z9o hr) ho he hf ⟨hbase, hfew, hline, htr⟩) fun σ H Q hh0 => by
  obtain ⟨ρ, w, t, r', q, ρ', gd, ee, kk⟩ := hh0
  unfold y91 at ee
  split at ee
  · rename_i ks ds q1 ρ1 h1
    split at ee
    · rename_i k0 q2 ρ2 h2
      split at ee
      · rename_i z q3 ρ3 h3
        cases ee
        refine ⟨ρ, w, t, _, _, _, gd, h1, fun x H1 w1 F1 g1 go1 r1 => ?_⟩
        have r1' := r1
        cases r1' with
        | @dic _ a0 _ vs0 _ hH0 _ =>
          refine ⟨a0, rfl, .inl ⟨_, .inl hH0⟩, ρ1, w1, t + 1, _, _, _, g1, h2, fun y H2 w2 F2 g2 go2 r2 => ⟨ρ2, w2, t + 2, _, _, _, g2, h3, fun zv H3 w3 F3 g3 go3 r3 => ?_⟩⟩
          have hy : y = kV (.inr k0) := by cases r2; rfl
          subst hy
          have r13 := (r1.gone g1.wl (go2.trans go3)).drop (o := .t t) (Nat.le_refl t)
          have rz := r3.drop (o := .t t) (t' := t) (by omega)
          have go := (go1.trans go2).trans go3
          cases r13 with
          | @dic _ _ _ vs _ hH rs =>
            obtain ⟨v1, v2⟩ := y56 (ks := ks) k0 rs
            refine ⟨_, z5g.k hH, ?_⟩
            cases hg : y3k ks ds k0 with
            | none =>
              rw [v2 hg]
              rw [hg] at kk
              exact z4w kk gd g3 go rz.dep
            | some d =>
              obtain ⟨v, ev, rv⟩ := v1 d hg
              rw [ev]
              rw [hg] at kk
              exact z4w kk gd g3 go rv.dep
      · cases ee
    · cases ee
  · cases ee
theorem z3f {x2b : List Expr} {env : Env} {ks : List (Option Expr)} {vs : List Expr} : starEach (.Dict ks vs pos :: x2b) env = (false, eval (.Dict ks vs pos) env) :: starEach x2b env := by simp only [starEach]
end
end L3
namespace L3
open PySem PySem.Spec PyProof.Rows L2
end L3
namespace L3
open PySem PySem.Spec PyProof.Rows PySem.W L2
end L3
namespace L3
open PySem PySem.Spec PyProof.Rows PySem.W L2
end L3
namespace L3
open PySem PySem.Spec PyProof.Rows PySem.W L2
end L3
namespace L3
open PySem PySem.Spec PyProof.Rows PySem.W L2
end L3
namespace L3
open PySem PySem.Spec PyProof.Rows PySem.W L2 PySem.SeqAt
end L3
namespace L3
open PySem PySem.Spec PyProof.Rows L2
end L3
namespace L3
open PySem PySem.Spec PyProof.Rows L2
structure QE (X : Cx) (e : Expr) (t : TE) : Prop where mk :: o : PE X e t
structure QD (X : Cx) (e : Expr) (f : Den) : Prop where mk :: o : PD X e f
structure QDA (X : Cx) (e : List Expr) (f : x2a) : Prop where mk :: o : PDA X e f
structure QDT (X : Cx) (e : Expr) (f : x29) : Prop where mk :: o : PDT X e f
structure QDW (X : Cx) (e : Expr) (f : x29) : Prop where mk :: o : PDW X e f
structure QDS (X : Cx) (e : Stmt) (f : x1b) : Prop where mk :: o : PDS X e f
structure QDSs (X : Cx) (e : List Stmt) (f : x1b) : Prop where mk :: o : y6q X e f
structure QDI (X : Cx) (tg e : Expr) (f : y1s) : Prop where mk :: o : PDI X tg e f
structure QDG (X : Cx) (b : Nat) (e : Expr) (f : x5m) : Prop where mk :: o : PDG X b e f
structure QDGs (X : Cx) (b : Nat) (e : List Expr) (f : x8w) : Prop where mk :: o : z6z X b e f
structure QDO (X : Cx) (e : Option Expr) (f : z22) : Prop where mk :: o : PDO X e f
structure QDTs (X : Cx) (e : List Expr) (f : x29) : Prop where mk :: o : z66 X e f
structure QQ (X : Cx) (e : Expr) (f : x9z) : Prop where mk :: o : PQ X e f
theorem qv {X : Cx} (i : Nat) {x : Str} {pos : Pos} (hN : X.N[i]? = some x := by rfl) (hv : Vis X.env.scope x := by first | exact Or.inl rfl | exact Or.inr (Or.inl rfl) | exact Or.inr (Or.inr rfl)) (hd : (x == ("__debug__" : Str)) = false := by decide) (hcd : (x == ("__classdict__" : Str)) = false := by decide) : QE X (.Name x pos) (x9j i) := ⟨pv i hN hv hd hcd⟩
theorem z0l {X : Cx} {e : Expr} {f : x29} (h : QDW X e f) : QDT X e f := ⟨PW.pt h.o⟩
section
variable {X : Cx} {a b c e : Expr} {fa fb fc f : Den} {pos : Pos}
theorem x0a {i j} : QD X (.Constant (.int i) j pos) (eC (.int i)) := ⟨z5c ⟩
end
section
variable {X : Cx} {a b c e : Expr} {fa fb fc f : Den} {pos : Pos}
theorem y6g {i j} : QD X (.Constant (.bool i) j pos) (eC (.bl i)) := ⟨z9k ⟩
end
section
variable {X : Cx} {a b c e : Expr} {fa fb fc f : Den} {pos : Pos}
theorem z1l {j} : QD X (.Constant .none j pos) (eC .non) := ⟨z68 ⟩
end
section
variable {X : Cx} {a b c e : Expr} {fa fb fc f : Den} {pos : Pos}
theorem y8q {x j} : QD X (.Constant (.str x) j pos) (eC (.str x)) := ⟨z79 ⟩
end
section
variable {X : Cx} {a b c e : Expr} {fa fb fc f : Den} {pos : Pos}
theorem x02 {i : Nat} {x : Str} (h : QE X (.Name x pos) (x9j i)) : QD X (.Name x pos) (x05 i) := ⟨z6i h.o⟩
end
section
variable {X : Cx} {a b c e : Expr} {fa fb fc f : Den} {pos : Pos}
theorem x1m (ha : QD X a fa) (hb : QD X b fb) : QD X (.BinOp a .Add b pos) (e2 x2w fa fb) := ⟨z8g ha.o hb.o⟩
end
section
variable {X : Cx} {a b c e : Expr} {fa fb fc f : Den} {pos : Pos}
theorem z1y (ha : QD X a fa) (hb : QD X b fb) : QD X (.BinOp a .Sub b pos) (e2 z1n fa fb) := ⟨z8l ha.o hb.o⟩
end
section
variable {X : Cx} {a b c e : Expr} {fa fb fc f : Den} {pos : Pos}
theorem x5n (ha : QD X a fa) (hb : QD X b fb) : QD X (.BinOp a .Mult b pos) (e2 x9s fa fb) := ⟨z8m ha.o hb.o⟩
end
section
variable {X : Cx} {a b c e : Expr} {fa fb fc f : Den} {pos : Pos}
theorem y75 (ha : QD X a fa) (hb : QD X b fb) : QD X (.BinOp a .FloorDiv b pos) (e2 z7x fa fb) := ⟨z87 ha.o hb.o⟩
end
section
variable {X : Cx} {a b c e : Expr} {fa fb fc f : Den} {pos : Pos}
theorem y0l (ha : QD X a fa) (hb : QD X b fb) : QD X (.BinOp a .Mod b pos) (e2 z1x fa fb) := ⟨z6f ha.o hb.o⟩
end
section
variable {X : Cx} {a b c e : Expr} {fa fb fc f : Den} {pos : Pos}
theorem x5b (ha : QD X a fa) (hb : QD X b fb) (hs : x45 b := by exact fun _ _ => rfl) : QD X (.Subscript a b pos) (eIx fa fb) := ⟨j08 ha.o hb.o hs⟩
end
section
variable {X : Cx} {a b c e : Expr} {fa fb fc f : Den} {pos : Pos}
theorem x03  : QDA X [] x0e := ⟨z4x ⟩
end
section
variable {X : Cx} {a b c e : Expr} {fa fb fc f : Den} {pos : Pos}
theorem x00 {es : List Expr} {g : x2a} (ha : QD X e f) (hr : QDA X es g) (hs : starEach (e :: es) X.env = (false, eval e X.env) :: starEach es X.env := by rfl) : QDA X (e :: es) (x01 f g) := ⟨z08 ha.o hr.o hs⟩
end
section
variable {X : Cx} {a b c e : Expr} {fa fb fc f : Den} {pos : Pos}
theorem x24 {es : List Expr} {g : x2a} (h : QDA X es g) : QD X (.List es pos) (x4k g) := ⟨z7i h.o⟩
end
section
variable {X : Cx} {a b c e : Expr} {fa fb fc f : Den} {pos : Pos}
theorem x3o {es : List Expr} {g : x2a} {x1} (h : QDA X es g) : QD X (.Tuple es x1 pos) (x4n g) := ⟨z7a h.o⟩
end
section
variable {X : Cx} {a b c e : Expr} {fa fb fc f : Den} {ga gb gc : x29} {pos : Pos}
theorem x4m (ha : QD X a fa) (he : ∀ whole, isTrue a X.env whole = (do let v <- whole; standAt a.pos; holding [v] (truthy v)) := by exact fun _ => rfl) : QDT X a (x7w fa) := ⟨z2w ha.o he⟩
end
section
variable {X : Cx} {a b c e : Expr} {fa fb fc f : Den} {ga gb gc : x29} {pos : Pos}
theorem y5q (ha : QD X a fa) (hb : QD X b fb) : QDT X (.Compare a [.Lt] [b] pos) (x37 (e2 dLt fa fb)) := ⟨z63 ha.o hb.o⟩
end
section
variable {X : Cx} {a b c e : Expr} {fa fb fc f : Den} {ga gb gc : x29} {pos : Pos}
theorem z6x (ha : QD X a fa) (hb : QD X b fb) : QDT X (.Compare a [.Gt] [b] pos) (x37 (e2 dGt fa fb)) := ⟨z81 ha.o hb.o⟩
end
section
variable {X : Cx} {a b c e : Expr} {fa fb fc f : Den} {ga gb gc : x29} {pos : Pos}
theorem z7b (ha : QD X a fa) (hb : QD X b fb) : QDT X (.Compare a [.GtE] [b] pos) (x37 (e2 dGe fa fb)) := ⟨z75 ha.o hb.o⟩
end
section
variable {X : Cx} {a b c e : Expr} {fa fb fc f : Den} {ga gb gc : x29} {pos : Pos}
theorem x6p (ha : QDT X a ga) : QDT X (.UnaryOp .Not a pos) (x4t ga) := ⟨z2g ha.o⟩
end
section
variable {X : Cx} {a b c e : Expr} {fa fb fc f : Den} {ga gb gc : x29} {pos : Pos} {x2b : List Expr}
theorem z17 (ha : QDT X a ga) : QDW X (.BoolOp .And [a] pos) ga := ⟨y9u ha.o⟩
end
section
variable {X : Cx} {a b c e : Expr} {fa fb fc f : Den} {ga gb gc : x29} {pos : Pos} {x2b : List Expr}
theorem y4k (ha : QDT X a ga) : QDW X (.BoolOp .Or [a] pos) ga := ⟨z3n ha.o⟩
end
section
variable {X : Cx} {a b c e : Expr} {fa fb fc f : Den} {ga gb gc : x29} {pos : Pos} {x2b : List Expr}
theorem z38 (ha : QDT X a ga) (hb : QDW X (.BoolOp .And (b :: x2b) pos) gb) : QDW X (.BoolOp .And (a :: b :: x2b) pos) (y2v ga gb) := ⟨z4h ha.o hb.o⟩
end
section
variable {X : Cx} {a b c e : Expr} {fa fb fc f : Den} {ga gb gc : x29} {pos : Pos} {x2b : List Expr}
theorem y34 (ha : QDT X a ga) (hb : QDW X (.BoolOp .Or (b :: x2b) pos) gb) : QDW X (.BoolOp .Or (a :: b :: x2b) pos) (y8v ga gb) := ⟨z7u ha.o hb.o⟩
end
section
variable {X : Cx} {a b c e : Expr} {fa fb fc f : Den} {ga gb gc : x29} {pos : Pos} {x2b : List Expr}
theorem y1v (hc : QDT X c gc) (ha : QD X a fa) (hb : QD X b fb) : QD X (.IfExp c a b pos) (eIf gc fa fb) := ⟨z0j hc.o ha.o hb.o⟩
end
section
variable {X : Cx} {a b c e : Expr} {fa fb fc f : Den} {ga gb gc : x29} {pos : Pos} {st : Stmt} {x2b sa sb : List Stmt} {s s' : x1b}
theorem x39  : QDSs X [] x8u := ⟨z3y ⟩
end
section
variable {X : Cx} {a b c e : Expr} {fa fb fc f : Den} {ga gb gc : x29} {pos : Pos} {st : Stmt} {x2b sa sb : List Stmt} {s s' : x1b}
theorem x06 (h1 : QDS X st s) (h2 : QDSs X x2b s') : QDSs X (st :: x2b) (x13 s s') := ⟨z0i h1.o h2.o⟩
end
section
variable {X : Cx} {a b c e : Expr} {fa fb fc f : Den} {ga gb gc : x29} {pos : Pos} {st : Stmt} {x2b sa sb : List Stmt} {s s' : x1b}
theorem x0d (h1 : QDS X st s) : QDSs X [st] s := ⟨z2i h1.o⟩
end
section
variable {X : Cx} {a b c e : Expr} {fa fb fc f : Den} {ga gb gc : x29} {pos : Pos} {st : Stmt} {x2b sa sb : List Stmt} {s s' : x1b}
theorem x0n (h : QD X e f) : QDS X (.Return (some e) pos) (x3g f) := ⟨z4n h.o⟩
end
section
variable {X : Cx} {a b c e : Expr} {fa fb fc f : Den} {ga gb gc : x29} {pos : Pos} {st : Stmt} {x2b sa sb : List Stmt} {s s' : x1b}
theorem x41 (hc : QDT X c gc) (ha : QDSs X sa s) (hb : QDSs X sb s') : QDS X (.If c sa sb pos) (sIf gc s s') := ⟨z6k hc.o ha.o hb.o⟩
end
section
variable {X : Cx} {a b c e : Expr} {fa fb fc f : Den} {ga gb gc : x29} {pos : Pos} {st : Stmt} {x2b sa sb : List Stmt} {s s' : x1b}
theorem x0l {i : Nat} {x : Str} {pos' : Pos} (hN : X.N.Nodup) (hi : X.N[i]? = some x) (hx : Loc X.env.scope x) (he : QD X e f) (hs : swapsWith e (some (.Name x pos')) pos.line X.env = pure false := by rfl) (hf : X.fn x = true \/ X.env.scope.names.lookup x = some .local := by first | exact .inl rfl | exact .inr rfl) : QDS X (.Assign [.Name x pos'] e pos) (x1p i f) := ⟨z4y hN hi hx he.o hs hf⟩
end
section
variable {X : Cx} {a b c e : Expr} {fa fb fc f : Den} {ga gb gc : x29} {pos : Pos} {st : Stmt} {x2b sa sb : List Stmt} {s s' : x1b}
theorem x2z (he : QD X e f) (hs : swapsWith e none pos.line X.env = pure false := by rfl) : QDS X (.Expr e pos) (x3f f) := ⟨z05 he.o hs⟩
end
section
variable {X : Cx} {tg a b c e : Expr} {fa fb fc f : Den} {ga gb gc : x29} {pos p : Pos}
theorem x0t {g : x2a} (hm : X.mg "range" = none) (ha : QDA X [a] g) (hg : Gl X "range" := by rfl) (hs : starEach [a] X.env = [(false, eval a X.env)] := by rfl) : QDI X tg (.Call (.Name "range" p) [a] [] pos) (x17 g) := ⟨y6m hm ha.o hg hs⟩
end
section
variable {X : Cx} {tg a b c e : Expr} {fa fb fc f : Den} {ga gb gc : x29} {pos p : Pos}
theorem x38 (ha : QD X a fa) : QDI X tg a (x5d fa) := ⟨z2t ha.o⟩
end
section
theorem x0k {X : Cx} {b i : Nat} {x : Str} {pos : Pos} (hb : b <= i) (hN : X.N.Nodup) (hi : X.N[i]? = some x) (hx : Loc X.env.scope x) (hf : X.fn x = true \/ X.env.scope.names.lookup x = some .local := by first | exact .inl rfl | exact .inr rfl) : QDG X b (.Name x pos) (x0m i) := ⟨z1d hb hN hi hx hf⟩
end
section
theorem x2h {X : Cx} {tg iter : Expr} {body : List Stmt} {it : y1s} {pt : x5m} {s : x1b} {pos : Pos} (hp : PassesOwn (model X.prog X.w) X.A X.env X.xe) (hc : X.calm = true) (hi : QDI X tg iter it) (hg : QDG X 0 tg pt) (hb : QDSs X body s) (hs : ∀ x, foldedSetIterable iter X.env x = pure x := by intro _; rfl) : QDS X (.For tg iter body [] pos) (x6k it pt s) := ⟨z2e hp hc hi.o hg.o hb.o hs⟩
end
section
variable {X : Cx} {k : Nat} {N' : List Str} {scope : Scope} {elt tg iter : Expr} {ifs : List Expr} {pos : Pos} {it : y1s} {pt : x5m} {tt : x29} {te : Den}
theorem x2s  : QDTs X [] x2o := ⟨z0b ⟩
end
section
variable {X : Cx} {k : Nat} {N' : List Str} {scope : Scope} {elt tg iter : Expr} {ifs : List Expr} {pos : Pos} {it : y1s} {pt : x5m} {tt : x29} {te : Den}
theorem x7g {c : Expr} {g : x29} (h : QDT X c g) : QDTs X [c] g := ⟨z14 h.o⟩
end
section
variable {X : Cx} {k : Nat} {N' : List Str} {scope : Scope} {elt tg iter : Expr} {ifs : List Expr} {pos : Pos} {it : y1s} {pt : x5m} {tt : x29} {te : Den}
theorem x3b (deep : Bool) (hc : X.calm = true) (S : CompOk X k N' scope) (hi : QDI X tg iter it) (hg : ∀ C s H fp, QDG (x1w X N' scope C s H fp) X.N.length tg pt) (ht : ∀ C s H fp, QDTs (x1w X N' scope C s H fp) ifs tt) (he : ∀ C s H fp, QD (x1w X N' scope C s H fp) elt te) (hs : ∀ x, foldedSetIterable iter X.env x = pure x := by intro _; rfl) : QD X (.ListComp elt [⟨tg, iter, ifs, 0⟩] scope pos) (x33 k it pt tt te deep) := ⟨z4u deep hc S hi.o (fun C s H fp => (hg C s H fp).o) (fun C s H fp => (ht C s H fp).o) (fun C s H fp => (he C s H fp).o) hs⟩
end
section
variable {X : Cx} {k : Nat} {N' : List Str} {scope : Scope} {elt tg iter : Expr} {ifs : List Expr} {pos : Pos} {it : y1s} {pt : x5m} {tt : x29} {te : Den}
theorem x96 {i : Nat} {y : Str} {py spos : Pos} (deep : Bool) (hN : X.N.Nodup) (hy : X.N[i]? = some y) (hx : Loc X.env.scope y) (hsw : swapsWith (.ListComp elt [⟨tg, iter, ifs, 0⟩] scope pos) (some (.Name y py)) spos.line X.env = pure true) (hc : X.calm = true) (S : CompOk X k N' scope) (hi : QDI X tg iter it) (hg : ∀ C s H fp, QDG (x1w X N' scope C s H fp) X.N.length tg pt) (ht : ∀ C s H fp, QDTs (x1w X N' scope C s H fp) ifs tt) (he : ∀ C s H fp, QD (x1w X N' scope C s H fp) elt te) (hs : ∀ x, foldedSetIterable iter X.env x = pure x := by intro _; rfl) (hf : X.fn y = true \/ X.env.scope.names.lookup y = some .local := by first | exact .inl rfl | exact .inr rfl | assumption) : QDS X (.Assign [.Name y py] (.ListComp elt [⟨tg, iter, ifs, 0⟩] scope pos) spos) (x1p i (x33 k it pt tt te deep)) := ⟨z0o deep hN hy hx hsw hc S hi.o (fun C s H fp => (hg C s H fp).o) (fun C s H fp => (ht C s H fp).o) (fun C s H fp => (he C s H fp).o) hs hf⟩
end
section
variable {X : Cx} {a b c e : Expr} {fa fb fc f : Den} {pos : Pos}
theorem z3u {k : Nat} (hr : Room k X.A) (ha : QD X a fa) (hb : QD X b fb) : QD X (.Compare a [.Eq] [b] pos) (e2 dEq fa fb) := ⟨z9a hr ha.o hb.o⟩
end
section
variable {X : Cx} {a b c e : Expr} {fa fb fc f : Den} {pos : Pos}
theorem x9b {k : Nat} (hr : Room k X.A) (ha : QD X a fa) (hb : QD X b fb) : QDT X (.Compare a [.Eq] [b] pos) (x37 (e2 dEq fa fb)) := ⟨z8d hr ha.o hb.o⟩
end
section
variable {X : Cx} {a b c e : Expr} {fa fb fc f : Den} {pos : Pos}
theorem x75 {k : Nat} (hr : Room k X.A) (ha : QD X a fa) (hb : QD X b fb) : QDT X (.Compare a [.NotEq] [b] pos) (x37 (e2 dNe fa fb)) := ⟨z7s hr ha.o hb.o⟩
end
section
variable {X : Cx} {a b c e : Expr} {fa fb fc f : Den} {pos : Pos}
theorem z8a {k : Nat} (hr : Room k X.A) (ha : QD X a fa) (hb : QD X b fb) (hm : behindInMarks .In b = false := by with_unfolding_all rfl) : QDT X (.Compare a [.In] [b] pos) (x37 (e2 dIn fa fb)) := ⟨z5y hr ha.o hb.o hm⟩
end
section
variable {X : Cx} {a b c e : Expr} {es : List Expr} {fa fb fc f : Den} {g : x2a} {pos p p1 p2 : Pos}
theorem y8l (hm : X.mg "len" = none) (ha : QDA X [a] g) (hg : Gl X "len" := by rfl) (he : starEach [a] X.env = (false, eval a X.env) :: starEach [] X.env := by rfl) (hpl : (backTo pos (starEach [] X.env)).any (·.1) = false := by rfl) : QD X (.Call (.Name "len" p) [a] [] pos) (eB z0q g) := ⟨z7f hm ha.o hg he hpl⟩
end
section
variable {X : Cx} {a b c e : Expr} {es : List Expr} {fa fb fc f : Den} {g : x2a} {pos p p1 p2 : Pos}
theorem x11 {i : Nat} {x : Str} (hm : X.mg "len" = none) (h : QE X (.Name x p1) (x9j i)) (hg : Gl X "len" := by rfl) (he : starEach [.Name x p1] X.env = (false, eval (.Name x p1) X.env) :: starEach [] X.env := by rfl) (hpl : (backTo pos (starEach [] X.env)).any (·.1) = false := by rfl) : QD X (.Call (.Name "len" p) [.Name x p1] [] pos) (x14 i) := ⟨z2r hm h.o hg he hpl⟩
end
section
variable {X : Cx} {a b c e : Expr} {es : List Expr} {fa fb fc f : Den} {g : x2a} {pos p p1 p2 : Pos}
theorem y7w (hc : X.calm = true) (hm : X.mg "max" = none) (hb : bootBuiltins "max" = some (.builtin "max")) (ha : QDA X (a :: es) g) (hg : Gl X "max" := by rfl) (he : starEach (a :: es) X.env = (false, eval a X.env) :: starEach es X.env := by rfl) (hpl : (backTo pos (starEach es X.env)).any (·.1) = false := by rfl) : QD X (.Call (.Name "max" p) (a :: es) [] pos) (eB z7l g) := ⟨z3p hc hm hb ha.o hg he hpl⟩
end
section
variable {X : Cx} {a b c e : Expr} {es : List Expr} {fa fb fc f : Den} {g : x2a} {pos p p1 p2 : Pos}
theorem y31 (hm : X.mg "list" = none) (hb : bootBuiltins "list" = some (.type "list")) (ha : QDA X [a] g) (hg : Gl X "list" := by rfl) (he : starEach [a] X.env = (false, eval a X.env) :: starEach [] X.env := by rfl) (hpl : (backTo pos (starEach [] X.env)).any (·.1) = false := by rfl) : QD X (.Call (.Name "list" p) [a] [] pos) (x6l g) := ⟨y8f hm hb ha.o hg he hpl⟩
end
section
variable {X : Cx} {a b c e : Expr} {es : List Expr} {fa fb fc f : Den} {g : x2a} {pos p p1 p2 : Pos}
theorem x22 (hm : X.mg "tuple" = none) (hb : bootBuiltins "tuple" = some (.type "tuple")) (ha : QDA X [a] g) (hg : Gl X "tuple" := by rfl) (he : starEach [a] X.env = (false, eval a X.env) :: starEach [] X.env := by rfl) (hpl : (backTo pos (starEach [] X.env)).any (·.1) = false := by rfl) : QD X (.Call (.Name "tuple" p) [a] [] pos) (x2e g) := ⟨z0m hm hb ha.o hg he hpl⟩
end
section
variable {X : Cx} {a : Expr} {g : x2a} {pos p p1 pos1 : Pos}
theorem y5k (hc : X.calm = true) (hm : X.mg "list" = none) (hb : bootBuiltins "list" = some (.type "list")) (hmr : X.mg "range" = none) (ha : QDA X [a] g) (hg : Gl X "list" := by rfl) (hgr : Gl X "range" := by rfl) (hs : starEach [a] X.env = [(false, eval a X.env)] := by rfl) (he : starEach [.Call (.Name "range" p1) [a] [] pos1] X.env = (false, eval (.Call (.Name "range" p1) [a] [] pos1) X.env) :: starEach [] X.env := by rfl) (hpl : (backTo pos (starEach [] X.env)).any (·.1) = false := by rfl) : QD X (.Call (.Name "list" p) [.Call (.Name "range" p1) [a] [] pos1] [] pos) (x8m g) := ⟨y9a hc hm hb hmr ha.o hg hgr hs he hpl⟩
end
section
variable {X : Cx} {a : Expr} {g : x2a} {pos p p1 pos1 : Pos}
theorem z27 (hc : X.calm = true) (hm : X.mg "tuple" = none) (hb : bootBuiltins "tuple" = some (.type "tuple")) (hmr : X.mg "range" = none) (ha : QDA X [a] g) (hg : Gl X "tuple" := by rfl) (hgr : Gl X "range" := by rfl) (hs : starEach [a] X.env = [(false, eval a X.env)] := by rfl) (he : starEach [.Call (.Name "range" p1) [a] [] pos1] X.env = (false, eval (.Call (.Name "range" p1) [a] [] pos1) X.env) :: starEach [] X.env := by rfl) (hpl : (backTo pos (starEach [] X.env)).any (·.1) = false := by rfl) : QD X (.Call (.Name "tuple" p) [.Call (.Name "range" p1) [a] [] pos1] [] pos) (z45 g) := ⟨z3l hc hm hb hmr ha.o hg hgr hs he hpl⟩
end
section
variable {X : Cx} {a b c e : Expr} {es : List Expr} {fa fb fc f : Den} {g : x2a} {pos p p1 p2 cpos apos : Pos}
theorem y8y {k : Nat} (hr : Room k X.A) (ho : QD X a fa) (ha : QDA X [e] g) (hbase : attributeBase a "index" X.env (eval a X.env) = eval a X.env := by rfl) (hfew : ((backTo cpos (starEach [e] X.env)).all (fun x => !x.1) && (backToKw cpos (keywordEach [] X.env)).all (fun x => x.1.isSome)
      && decide ([e].length + ([] : List Keyword).length + (if ([] : List Keyword).isEmpty then 0 else 1) < 30)) = true := by rfl) (hline : (apos.endLine == cpos.line) = true := by rfl) (hs : starEach [e] X.env = (false, eval e X.env) :: starEach [] X.env := by rfl) (hplain : (backTo cpos (starEach [] X.env)).any (·.1) = false := by rfl) : QD X (.Call (.Attribute a "index" apos) [e] [] cpos) (y5m fa g) := ⟨z0y hr ho.o ha.o hbase hfew hline hs hplain⟩
end
section
variable {X : Cx} {a b c e : Expr} {es : List Expr} {fa fb fc f : Den} {g : x2a} {pos p p1 p2 cpos apos : Pos}
theorem x2k {i : Nat} {x : Str} (h : QE X (.Name x p1) (x9j i)) (ha : QDA X [e] g) (hbase : attributeBase (.Name x p1) "append" X.env (eval (.Name x p1) X.env) = eval (.Name x p1) X.env := by rfl) (hfew : ((backTo cpos (starEach [e] X.env)).all (fun x => !x.1) && (backToKw cpos (keywordEach [] X.env)).all (fun x => x.1.isSome)
      && decide ([e].length + ([] : List Keyword).length + (if ([] : List Keyword).isEmpty then 0 else 1) < 30)) = true := by rfl) (hline : (apos.endLine == cpos.line) = true := by rfl) (hs : starEach [e] X.env = (false, eval e X.env) :: starEach [] X.env := by rfl) (hplain : (backTo cpos (starEach [] X.env)).any (·.1) = false := by rfl) : QD X (.Call (.Attribute (.Name x p1) "append" apos) [e] [] cpos) (x7v i g) := ⟨y6s h.o ha.o hbase hfew hline hs hplain⟩
end
section
variable {X : Cx} {a b c e : Expr} {es : List Expr} {fa fb fc f : Den} {g : x2a} {pos p p1 p2 cpos apos : Pos}
theorem z7w {i : Nat} {x : Str} (h : QE X (.Name x p1) (x9j i)) (ha : QDA X [e] g) (hbase : attributeBase (.Name x p1) "pop" X.env (eval (.Name x p1) X.env) = eval (.Name x p1) X.env := by rfl) (hfew : ((backTo cpos (starEach [e] X.env)).all (fun x => !x.1) && (backToKw cpos (keywordEach [] X.env)).all (fun x => x.1.isSome)
      && decide ([e].length + ([] : List Keyword).length + (if ([] : List Keyword).isEmpty then 0 else 1) < 30)) = true := by rfl) (hline : (apos.endLine == cpos.line) = true := by rfl) (hs : starEach [e] X.env = (false, eval e X.env) :: starEach [] X.env := by rfl) (hplain : (backTo cpos (starEach [] X.env)).any (·.1) = false := by rfl) : QD X (.Call (.Attribute (.Name x p1) "pop" apos) [e] [] cpos) (z51 i g) := ⟨z5x h.o ha.o hbase hfew hline hs hplain⟩
end
section
variable {X : Cx} {a b c e : Expr} {es : List Expr} {fa fb fc f : Den} {g : x2a} {pos p p1 p2 cpos apos : Pos}
theorem x0w {n : Nat} {x : Str} (h : QE X (.Name x p1) (x9j n)) (hb : QD X b fb) (hs : x45 b := by exact fun _ _ => rfl) : QD X (.Subscript (.Name x p1) b pos) (x1k n fb) := ⟨z6d h.o hb.o hs⟩
end
section
variable {X : Cx} {a b c e : Expr} {es : List Expr} {fa fb fc f : Den} {g : x2a} {pos p p1 p2 cpos apos : Pos}
theorem y1m (ha : QD X a fa) (hb : QD X b fb) : QD X (.BinOp a .Mult b pos) (x9a fa fb) := ⟨z3x ha.o hb.o⟩
end
section
variable {X : Cx} {a b c e : Expr} {es : List Expr} {fa fb fc f : Den} {qa qb : x9z} {g : x2a} {pos p p1 p2 cpos apos : Pos}
theorem y57 {n : Nat} {x : Str} (h : QE X (.Name x p1) (x9j n)) : QQ X (.Name x p1) (y6p n) := ⟨z58 h.o⟩
end
section
variable {X : Cx} {a b c e : Expr} {es : List Expr} {fa fb fc f : Den} {qa qb : x9z} {g : x2a} {pos p p1 p2 cpos apos : Pos}
theorem z5h {n : Nat} {x : Str} (h : QE X (.Name x p1) (x9j n)) (hb : QQ X b qb) (hs : x45 b := by exact fun _ _ => rfl) : QQ X (.Subscript (.Name x p1) b pos) (qIx n qb) := ⟨z9d h.o hb.o hs⟩
end
section
variable {X : Cx} {a b c e : Expr} {es : List Expr} {fa fb fc f : Den} {qa qb : x9z} {g : x2a} {pos p p1 p2 cpos apos : Pos}
theorem z04 {n : Nat} {x : Str} (h : QE X (.Name x p1) (x9j n)) (ha : QQ X a qa) (hb : QQ X b qb) (he : QD X e f) (hi : x45 a := by exact fun _ _ => rfl) (hasg : ∀ v, assign (.Subscript (.Subscript (.Name x p1) a p2) b p) X.env v = (do
      let ov <- holding [v] (eval (.Subscript (.Name x p1) a p2) X.env)
      let iv <- holding [v, ov] (eval b X.env)
      standAt p
      holding [v, ov, iv] (setItem ov iv v)
      release [v, ov, iv] []) := by exact fun _ => rfl) (hs : swapsWithSole [.Subscript (.Subscript (.Name x p1) a p2) b p] e pos.line X.env = pure false := by rfl) : QDS X (.Assign [.Subscript (.Subscript (.Name x p1) a p2) b p] e pos) (y68 n qa qb f) := ⟨z1b h.o ha.o hb.o he.o hi hasg hs⟩
end
section
variable {X : Cx} {a b c e : Expr} {es x2b : List Expr} {fa fb fc f : Den} {g : x2a} {pos p p1 p2 cpos apos : Pos}
theorem y7k {op} (h : QD X a fa) : QD X (.BoolOp op [a] pos) fa := ⟨z5v h.o⟩
end
section
variable {X : Cx} {a b c e : Expr} {es x2b : List Expr} {fa fb fc f : Den} {g : x2a} {pos p p1 p2 cpos apos : Pos}
theorem y7d (ha : QD X a fa) (hb : QD X (.BoolOp .And (b :: x2b) pos) fb) : QD X (.BoolOp .And (a :: b :: x2b) pos) (z2v fa fb) := ⟨z8i ha.o hb.o⟩
end
section
variable {X : Cx} {a b c e : Expr} {es x2b : List Expr} {fa fb fc f : Den} {g : x2a} {pos p p1 p2 cpos apos : Pos}
theorem z65 (ha : QD X a fa) : QD X (.UnaryOp .Not a pos) (z8s fa) := ⟨z5b ha.o⟩
end
section
variable {X : Cx} {a b c e : Expr} {es x2b : List Expr} {fa fb fc f : Den} {g : x2a} {pos p p1 p2 cpos apos : Pos}
theorem x09 {j k n : Nat} {x : Str} {F : List D -> Option (D × Nat)} (C : Cal X.prog X.w X.K X.mg X.base k x n F) (hr : Room j X.A) (hk : k <= j) (ha : QDA X (e :: es) g) (hg : Gl X x := by rfl) (hdb : (x == ("__debug__" : Str)) = false := by decide) (he : starEach (e :: es) X.env = (false, eval e X.env) :: starEach es X.env := by rfl) (hpl : (backTo pos (starEach es X.env)).any (·.1) = false := by rfl) : QD X (.Call (.Name x p) (e :: es) [] pos) (x0g F n g) := ⟨z0h C hr hk ha.o hg hdb he hpl⟩
end
section
variable {X : Cx} {a b c e : Expr} {es elts : List Expr} {fa fb fc f : Den} {g : x2a} {pos p p1 p2 tp : Pos} {kt : Nat}
theorem z2l (hm : X.mg "zip" = none) (ha : QDA X [a, b] g) (hg : Gl X "zip" := by rfl) (hs : starEach [a, b] X.env = [(false, eval a X.env), (false, eval b X.env)] := by rfl) (hs2 : starEach [b] X.env = [(false, eval b X.env)] := by rfl) : QDI X (.Tuple elts kt tp) (.Call (.Name "zip" p) [a, b] [] pos) (y88 g) := ⟨z3v hm ha.o hg hs hs2⟩
end
section
variable {X : Cx} {k b : Nat} {e : Expr} {es : List Expr} {pt : x5m} {ps : x8w} {pos : Pos}
theorem x7p  : QDGs X b [] x66 := ⟨z0e ⟩
end
section
variable {X : Cx} {k b : Nat} {e : Expr} {es : List Expr} {pt : x5m} {ps : x8w} {pos : Pos}
theorem x28 (h1 : QDG X b e pt) (h2 : QDGs X b es ps) (hs : (assignEach (e :: es) X.env).map (·.2) = assign e X.env :: (assignEach es X.env).map (·.2) := by rfl) : QDGs X b (e :: es) (x15 pt ps) := ⟨y7j h1.o h2.o hs⟩
end
section
variable {X : Cx} {k b : Nat} {e : Expr} {es : List Expr} {pt : x5m} {ps : x8w} {pos : Pos}
theorem y02 {n : Nat} (hc : X.calm = true) (h : QDGs X b es ps) (hl : ∀ ds ρ ρ', ps ds ρ = some ρ' -> ds.length = n) (hn : (assignEach es X.env).length = n := by rfl) (hst : (assignEach es X.env).findIdx? (·.1) = none := by rfl) : QDG X b (.Tuple es k pos) (y3j ps) := ⟨z3b hc h.o hl hn hst⟩
end
section
variable {X : Cx} {a b c e : Expr} {es : List Expr} {fa fb fc f : Den} {g : x2a} {pos p p1 p2 : Pos}
theorem z1u (hc : X.calm = true) (hm : X.mg "all" = none) (ha : QDA X [a] g) (hg : Gl X "all" := by rfl) (he : starEach [a] X.env = (false, eval a X.env) :: starEach [] X.env := by rfl) (hpl : (backTo pos (starEach [] X.env)).any (·.1) = false := by rfl) : QD X (.Call (.Name "all" p) [a] [] pos) (eB z1c g) := ⟨z6b hc hm ha.o hg he hpl⟩
end
section
variable {X : Cx} {a b c e : Expr} {es : List Expr} {fa fb fc f : Den} {ga gb : x29} {g : x2a} {pos p p1 p2 pT : Pos}
theorem y0x (T : IT) {t : Str} (hm : X.mg "isinstance" = none) (hmT : X.mg t = none) (hbT : bootBuiltins t = some (.type T.nm)) (ha : QD X a fa) (hg : Gl X "isinstance" := by rfl) (hgT : Gl X t := by rfl) (hnT : t ≠ "__name__" := by decide) (hdT : (t == ("__debug__" : Str)) = false := by decide) (hs : starEach [a, .Name t pT] X.env = (false, eval a X.env) :: starEach [.Name t pT] X.env := by rfl) (hpl : (backTo pos (starEach [.Name t pT] X.env)).any (·.1) = false := by rfl) : QD X (.Call (.Name "isinstance" p) [a, .Name t pT] [] pos) (y6o T fa) := ⟨z6u T hm hmT hbT ha.o hg hgT hnT hdT hs hpl⟩
end
section
variable {X : Cx} {a b c e : Expr} {es : List Expr} {fa fb fc f : Den} {ga gb : x29} {g : x2a} {pos p p1 p2 pT : Pos}
theorem y48 (ha : QD X a fa) (hb : QD X b fb) (hc : QD X c fc) (hm : lastMarks [.LtE, .Lt] [b, c] = false := by with_unfolding_all rfl) : QD X (.Compare a [.LtE, .Lt] [b, c] pos) (eCh dLe dLt fa fb fc) := ⟨y3z ha.o hb.o hc.o hm⟩
end
section
variable {X : Cx} {a b c e : Expr} {es : List Expr} {fa fb fc f : Den} {ga gb : x29} {g : x2a} {pos p p1 p2 pT : Pos}
theorem z5q (ha : QD X a fa) : QD X (.UnaryOp .USub a pos) (z53 fa) := ⟨z5f ha.o⟩
end
section
variable {X : Cx} {a b c e : Expr} {es : List Expr} {fa fb fc f : Den} {ga gb : x29} {g : x2a} {pos p p1 p2 pT : Pos}
theorem z1q (ha : QD X a fa) (hb : QD X b fb) : QD X (.BinOp a .Add b pos) (z70 fa fb) := ⟨z5t ha.o hb.o⟩
end
section
variable {X : Cx} {a b c e : Expr} {es : List Expr} {fa fb fc f : Den} {ga gb : x29} {g : x2a} {pos p p1 p2 pT : Pos}
theorem y5f  : QDO X none z0x := ⟨z0t ⟩
end
section
variable {X : Cx} {a b c e : Expr} {es : List Expr} {fa fb fc f : Den} {ga gb : x29} {g : x2a} {pos p p1 p2 pT : Pos}
theorem y55 (h : QD X e f) : QDO X (some e) (y71 f) := ⟨y9y h.o⟩
end
section
variable {X : Cx} {a b c e : Expr} {es : List Expr} {fa fb fc f : Den} {ga gb : x29} {g : x2a} {pos p p1 p2 pT : Pos}
theorem z6e {lo hi : Option Expr} {fl fh : z22} (ha : QD X a fa) (hl : QDO X lo fl) (hh : QDO X hi fh) : QD X (.Subscript a (.Slice lo hi none p2) pos) (eSl fa fl fh) := ⟨j00 ha.o hl.o hh.o⟩
end
section
variable {X : Cx} {a b c e : Expr} {fa fb fc f : Den} {pos : Pos}
theorem y85 (ha : QD X a fa) (hb : QD X b fb) : QD X (.BinOp a .Mult b pos) (x9n fa fb) := ⟨z49 ha.o hb.o⟩
end
section
variable {X : Cx} {a b c e : Expr} {es : List Expr} {fa fb fc f : Den} {ga gb gc : x29} {g : x2a} {qa qb : x9z} {s : x1b} {pos p p1 p2 cpos apos : Pos}
theorem y6v {st : Stmt} : QDS X st y4t := ⟨y8o ⟩
end
section
variable {X : Cx} {a b c e : Expr} {es : List Expr} {fa fb fc f : Den} {ga gb gc : x29} {g : x2a} {qa qb : x9z} {s : x1b} {pos p p1 p2 cpos apos : Pos}
theorem x71 {body : List Stmt} (hp : PassesOwn (model X.prog X.w) X.A X.env X.xe) (hc : QDT X c gc) (hb : QDSs X body s) : QDS X (.While c body [] pos) (x8i gc s) := ⟨y8g hp hc.o hb.o⟩
end
section
variable {X : Cx} {a b c e : Expr} {es : List Expr} {fa fb fc f : Den} {ga gb gc : x29} {g : x2a} {qa qb : x9z} {s : x1b} {pos p p1 p2 cpos apos : Pos}
theorem y4u {n : Nat} {x : Str} (h : QE X (.Name x p1) (x9j n)) (ha : QQ X a qa) (he : QD X e f) (hasg : ∀ v, assign (.Subscript (.Name x p1) a p) X.env v = (do
      let ov <- holding [v] (eval (.Name x p1) X.env)
      let iv <- holding [v, ov] (eval a X.env)
      standAt p
      holding [v, ov, iv] (setItem ov iv v)
      release [v, ov, iv] []) := by exact fun _ => rfl) (hs : swapsWithSole [.Subscript (.Name x p1) a p] e pos.line X.env = pure false := by rfl) : QDS X (.Assign [.Subscript (.Name x p1) a p] e pos) (y45 n qa f) := ⟨z0g h.o ha.o he.o hasg hs⟩
end
section
variable {X : Cx} {a b c e : Expr} {es : List Expr} {fa fb fc f : Den} {ga gb gc : x29} {g : x2a} {qa qb : x9z} {s : x1b} {pos p p1 p2 cpos apos : Pos}
theorem z43 (ha : QD X a fa) (hb : QD X b fb) : QD X (.BinOp a .Add b pos) (y7o fa fb) := ⟨z4a ha.o hb.o⟩
end
section
variable {X : Cx} {a b c e : Expr} {es : List Expr} {fa fb fc f : Den} {ga gb gc : x29} {g : x2a} {qa qb : x9z} {s : x1b} {pos p p1 p2 p3 cpos apos : Pos}
theorem y4r {n j : Nat} {c : Int} {x : Str} (hm : X.mg "len" = none) (h : QE X (.Name x p1) (x9j n)) (hg : Gl X "len" := by rfl) (hs : x45 (.Constant (.int c) j p2) := by exact fun _ _ => rfl) (he : starEach [.Subscript (.Name x p1) (.Constant (.int c) j p2) p3] X.env = (false, eval (.Subscript (.Name x p1) (.Constant (.int c) j p2) p3) X.env) :: starEach [] X.env := by rfl) (hpl : (backTo pos (starEach [] X.env)).any (·.1) = false := by rfl) : QQ X (.Call (.Name "len" p) [.Subscript (.Name x p1) (.Constant (.int c) j p2) p3] [] pos) (x6w n c) := ⟨z01 hm h.o hg hs he hpl⟩
end
section
variable {X : Cx} {a b c e : Expr} {es : List Expr} {fa fb fc f : Den} {ga gb gc : x29} {g : x2a} {qa qb : x9z} {s : x1b} {pos p p1 p2 p3 cpos apos : Pos}
theorem z31 {k l : Str} {j1 j2 : Nat} (hkl : k ≠ l) (ha : QQ X a qa) (hb : QQ X b qb) : QD X (.Dict [some (.Constant (.str k) j1 p1), some (.Constant (.str l) j2 p2)] [a, b] pos) (y6c k l qa qb) := ⟨z3h hkl ha.o hb.o⟩
end
section
variable {X : Cx} {a b c e : Expr} {es : List Expr} {fa fb fc f : Den} {ga gb gc : x29} {g : x2a} {qa qb : x9z} {s : x1b} {pos p p1 p2 p3 cpos apos : Pos}
theorem z33 {k : Nat} (hr : Room k X.A) (ho : QD X a fa) (he : QD X b fb) (hf : QD X c fc) (hbase : attributeBase a "get" X.env (eval a X.env) = eval a X.env := by rfl) (hfew : ((backTo cpos (starEach [b, c] X.env)).all (fun x => !x.1) && (backToKw cpos (keywordEach [] X.env)).all (fun x => x.1.isSome)
      && decide (([b, c] : List Expr).length + ([] : List Keyword).length + (if ([] : List Keyword).isEmpty then 0 else 1) < 30)) = true := by rfl) (hline : (apos.endLine == cpos.line) = true := by rfl) (htr : backTo cpos (starEach [b, c] X.env) = [(false, eval b X.env), (false, eval c X.env)] := by rfl) : QD X (.Call (.Attribute a "get" apos) [b, c] [] cpos) (y91 fa fb fc) := ⟨z3s hr ho.o he.o hf.o hbase hfew hline htr⟩
end
theorem Cal.mkQ {P : Program} {w : World} {K : PySem.W.Frag} {mg : Str -> Option Value} {base : Heap} {k : Nat} {x : Str} {st : Stmt} {N ps : List Str} {body : x1b} (a : At K mg x st ps) (S : FnScope N ps (x0c st))
    (h : ∀ (f : Addr) (cdv : Value) (A : Around) (outer : List Env) (s : Shared) (H : Hp) (E : XK), Room k (A.deeper (envOfC x (x0c st) s.heap.objs.size f cdv)) -> QDSs (y74 CX0 P w K mg base N x (x0c st) f cdv A outer s H E).nox (x3i st) body) :
    Cal P w K mg base (k + 1) x ps.length (fnD N.length body) := Cal.mk a S fun f cdv A outer s H E hr => (h f cdv A outer s H E hr).o
theorem z35 {P : Program} {w : World} {K : PySem.W.Frag} {mg : Str -> Option Value} {base : Heap} {k : Nat} {x : Str} {st : Stmt} {N ps : List Str} {body : x1b} {f : Addr} {fd : FuncData} (F : Fun K x x st f fd) (S : FnScope N ps (x0c st))
    (h : ∀ (f : Addr) (cdv : Value) (A : Around) (outer : List Env) (s : Shared) (H : Hp) (E : XK), Room k (A.deeper (envOfC x (x0c st) s.heap.objs.size f cdv)) -> QDSs (y74 CX0 P w K mg base N x (x0c st) f cdv A outer s H E).nox (x3i st) body) :
    FnOk P w K mg base CX0 (k + 1) f fd ps (spD K ps.length (fnD N.length body)) := z7c F S fun f cdv A outer s H E hr => (h f cdv A outer s H E hr).o
end L3
namespace L3
open PySem PySem.Spec PyProof.Rows PySem.W L2
end L3
namespace L3
open PySem PySem.Spec PyProof.Rows L2
theorem x4f {k : Nat} {pt : x5m} {tt : x29} {te : Den} {deep : Bool} : ∀ (ds : List D) (S : Nat -> Rho) (b : Nat -> Bool) (v : Nat -> D),
    (∀ i (h : i < ds.length), ∃ ρ1 ρ2, pt ds[i] (S i ++ List.replicate k none) = some ρ1 /\ tt ρ1 = some (b i, ρ2) /\
      (if b i = true then ∃ q ρ3, te ρ2 = some (v i, q, ρ3) /\ ¬ (deep = true /\ (v i).isL = true /\ q ≠ 1) /\ ρ3.take (S i).length = S (i + 1) else ρ2.take (S i).length = S (i + 1))) ->
    x5e k pt tt te deep ds (S 0) = some (((List.range ds.length).filter b).map v, S ds.length)
  | [], S, b, v, _ => rfl
  | d :: ds, S, b, v, h => by
    obtain ⟨ρ1, ρ2, h1, h2, h3⟩ := h 0 (by simp)
    have ih := x4f ds (fun i => S (i + 1)) (fun i => b (i + 1)) (fun i => v (i + 1)) (fun i hi => h (i + 1) (by simpa using hi))
    have er : ((List.range (d :: ds).length).filter b).map v = (if b 0 = true then [v 0] else []) ++ ((List.range ds.length).filter fun i => b (i + 1)).map fun i => v (i + 1) := by
      rw [List.length_cons, List.range_succ_eq_map, List.filter_cons, List.filter_map]
      split <;> simp [Function.comp_def]
    rw [er]
    unfold x5e
    rw [show pt d (S 0 ++ List.replicate k none) = some ρ1 from h1]
    simp only [h2]
    split at h3
    · rename_i hb
      obtain ⟨q, ρ3, h4, h5, h6⟩ := h3
      simp only [hb, if_true, h4, if_neg h5, h6, ih]
      rfl
    · rename_i hb
      simp only [hb, h3, ih]
      rfl
theorem x5w {pt : x5m} {body : x1b} : ∀ (ds : List D) (I : Nat -> Rho -> Prop) (ρ : Rho), (∀ i (h : i < ds.length) ρ, I i ρ -> ∃ ρ1 ρ2, pt ds[i] ρ = some ρ1 /\ (body ρ1 = some (.nx ρ2) \/ body ρ1 = some (.ct ρ2)) /\ I (i + 1) ρ2) -> I 0 ρ -> ∃ ρ', x8z pt body ds ρ = some (.nx ρ') /\ I ds.length ρ'
  | [], I, ρ, _, h0 => ⟨ρ, rfl, h0⟩
  | d :: ds, I, ρ, h, h0 => by
    obtain ⟨ρ1, ρ2, h1, h2, h3⟩ := h 0 (by simp) ρ h0
    obtain ⟨ρ', e, h4⟩ := x5w ds (fun i => I (i + 1)) ρ2 (fun i hi => h (i + 1) (by simpa using hi)) h3
    refine ⟨ρ', ?_, h4⟩
    unfold x8z
    rw [show pt d ρ = some ρ1 from h1]
    rcases h2 with h2 | h2 <;> (simp only [h2]; exact e)
theorem x0i {f g : x1b} {ρ ρ1 : Rho} (h : f ρ = some (.nx ρ1)) : x13 f g ρ = g ρ1 := by unfold x13; rw [h]
theorem y70 {f g : x1b} {ρ : Rho} {d : D} {q : Nat} (h : f ρ = some (.rt d q)) : x13 f g ρ = some (.rt d q) := by unfold x13; rw [h]
theorem x2t {n : Nat} {body : x1b} {ds : List D} {d : D} {q : Nat} (h : body (x7u n ds) = some (.rt d q)) : fnD n body ds = some (d, q) := by unfold fnD; rw [h]
theorem x1x {k : Nat} {it : y1s} {pt : x5m} {tt : x29} {te : Den} {deep : Bool} {ρ ρ1 ρ2 : Rho} {ds vs : List D} (hi : it ρ = some (ds, ρ1)) (hc : x5e k pt tt te deep ds ρ1 = some (vs, ρ2)) : x33 k it pt tt te deep ρ = some (.lst vs, if deep = true then 2 else 1, ρ2) := by unfold x33; rw [hi]; simp only [hc]
theorem z3q {i : Nat} {f : Den} {ρ ρ1 : Rho} {d : D} {q : Nat} (h : f ρ = some (d, q, ρ1)) : x1p i f ρ = some (.nx (ρ1.set i (some (d, q)))) := by unfold x1p; rw [h]
theorem x2r {f : Den} {ρ ρ1 : Rho} {d : D} {q : Nat} (h : f ρ = some (d, q, ρ1)) : x3g f ρ = some (.rt d q) := by unfold x3g; rw [h]
theorem x31 {it : y1s} {pt : x5m} {body : x1b} {ρ ρ1 : Rho} {ds : List D} (h : it ρ = some (ds, ρ1)) : x6k it pt body ρ = x8z pt body ds ρ1 := by unfold x6k; rw [h]
theorem z5d {g : x29} {s s' : x1b} {ρ ρ1 : Rho} (h : g ρ = some (true, ρ1)) : sIf g s s' ρ = s ρ1 := by unfold sIf; rw [h]; rfl
theorem y78 {g : x29} {s s' : x1b} {ρ ρ1 : Rho} (h : g ρ = some (false, ρ1)) : sIf g s s' ρ = s' ρ1 := by unfold sIf; rw [h]; rfl
theorem x1s {i : Nat} {f : Den} {ρ ρ1 ρ2 : Rho} {d : D} {q : Nat} (h : f ρ = some (d, q, ρ1)) (e : ρ1.set i (some (d, q)) = ρ2) : x1p i f ρ = some (.nx ρ2) := by rw [z3q h, e]
theorem x0x {f : Den} {ρ ρ1 : Rho} {d : D} {q : Nat} (h : f ρ = some (d, q, ρ1)) : x01 f x0e ρ = some ([d], ρ1) := by unfold x01; rw [h]; rfl
theorem x1e {f : Den} {g : x2a} {ρ ρ1 ρ2 : Rho} {d : D} {q : Nat} {ds : List D} (h : f ρ = some (d, q, ρ1)) (h' : g ρ1 = some (ds, ρ2)) : x01 f g ρ = some (d :: ds, ρ2) := by unfold x01; rw [h]; simp only [h']
theorem x1t {g : x2a} {ρ ρ1 : Rho} {ds : List D} (h : g ρ = some ([.lst ds], ρ1)) : x2e g ρ = some (.tup ds, 9, ρ1) := by unfold x2e; rw [h]
theorem y33 {g : x2a} {ρ ρ1 : Rho} {ds : List D} (h : x17 g ρ = some (ds, ρ1)) : x8m g ρ = some (.lst ds, 1, ρ1) := by unfold x8m; rw [h]
theorem x0u {F : List D -> Option (D × Nat)} {n : Nat} {g : x2a} {ρ ρ1 : Rho} {ds : List D} {d : D} {q : Nat} (h : g ρ = some (ds, ρ1)) (hl : ds.length = n) (hF : F ds = some (d, q)) : x0g F n g ρ = some (d, q, ρ1) := by unfold x0g; rw [h]; simp only [hl, if_true, hF]
noncomputable def x0h (l : List Nat) : List D := l.map fun i => .int (Int.ofNat i)
noncomputable def y6n (n : Nat) (f : Nat -> Nat -> Nat) (i : Nat) : D := .tup (x0h ((List.range n).map fun j => f i j))
noncomputable def x0r (n : Nat) (f : Nat -> Nat -> Nat) : D := .tup ((List.range n).map fun i => y6n n f i)
noncomputable def x7m (n : Nat) (f : Nat -> Nat -> Nat) (i : Nat) : D := .lst (x0h ((List.range n).map fun j => f i j))
noncomputable def x3q (n : Nat) (f : Nat -> Nat -> Nat) : D := .lst ((List.range n).map fun i => x7m n f i)
@[simp] theorem z8y {n : Nat} {f : Nat -> Nat -> Nat} : (x0r n f).isL = false := rfl
@[simp] theorem z8z {n : Nat} {f : Nat -> Nat -> Nat} {i : Nat} : (y6n n f i).isL = false := rfl
@[simp] theorem z8u {n : Nat} {f : Nat -> Nat -> Nat} : (x3q n f).isL = true := rfl
@[simp] theorem z8t {n : Nat} {f : Nat -> Nat -> Nat} {i : Nat} : (x7m n f i).isL = true := rfl
theorem x1c (l : List Nat) : (x0h l).length = l.length := by simp [x0h]
theorem y58 (l : List Nat) (i : Nat) : (x0h l)[i]? = (l[i]?).map fun x => .int (Int.ofNat x) := by simp [x0h]
theorem x82 {n i : Nat} (h : i < n) : ixN n (Int.ofNat i) = some i := by
  unfold ixN
  rw [if_pos (by exact Int.natCast_nonneg i), if_pos (by show (i : Int) < n; omega)]
  rfl
theorem y2y {α : Type} {xs : List α} {i : Nat} {x : α} (h : xs[i]? = some x) : L2.atI xs (Int.ofNat i) = some x := by
  unfold L2.atI
  rw [x82 (List.getElem?_eq_some_iff.mp h).1]
  exact h
theorem y3p {l : List Nat} {i x : Nat} (h : l[i]? = some x) : L2.atI (x0h l) (Int.ofNat i) = some (.int (Int.ofNat x)) := y2y (by rw [y58, h]; rfl)
theorem z20 {g : Nat -> D} {n i : Nat} (h : i < n) : L2.atI ((List.range n).map g) (Int.ofNat i) = some (g i) := y2y (by rw [List.getElem?_map, List.getElem?_range h]; rfl)
theorem x2f {g : Nat -> Nat} {n i : Nat} (h : i < n) : L2.atI (x0h ((List.range n).map g)) (Int.ofNat i) = some (.int (Int.ofNat (g i))) := y3p (by rw [List.getElem?_map, List.getElem?_range h]; rfl)
theorem x6t {n : Nat} {f : Nat -> Nat -> Nat} {i : Nat} (h : i < n) : atD (x0r n f) (Int.ofNat i) = some (y6n n f i) := z20 h
theorem x7x {n : Nat} {f : Nat -> Nat -> Nat} {i j : Nat} (h : j < n) : atD (y6n n f i) (Int.ofNat j) = some (.int (Int.ofNat (f i j))) := x2f h
theorem z2b {n : Nat} {f : Nat -> Nat -> Nat} {i : Nat} (h : i < n) : atD (x3q n f) (Int.ofNat i) = some (x7m n f i) := z20 h
theorem z4i {n : Nat} {f : Nat -> Nat -> Nat} {i j : Nat} (h : j < n) : atD (x7m n f i) (Int.ofNat j) = some (.int (Int.ofNat (f i j))) := x2f h
theorem x1r {n : Nat} {f : Nat -> Nat -> Nat} : x8r (x0r n f) = some n := by simp [x0r, x8r]
theorem x6v {n : Nat} {f : Nat -> Nat -> Nat} : x8r (x3q n f) = some n := by simp [x3q, x8r]
theorem x5y {n : Nat} {f g : Nat -> Nat -> Nat} (h : ∀ a b, a < n -> b < n -> f a b = g a b) : x3q n f = x3q n g := by
  unfold x3q x7m
  refine congrArg D.lst (List.map_congr_left fun a ha => ?_)
  refine congrArg (fun l => D.lst (x0h l)) (List.map_congr_left fun b hb => ?_)
  exact h a b (List.mem_range.mp ha) (List.mem_range.mp hb)
theorem x78 {α : Type} {g : Nat -> α} {n m : Nat} {x : α} : ((List.range n).map g).set m x = (List.range n).map fun a => if a = m then x else g a := by
  apply List.ext_getElem?
  intro i
  by_cases hi : i < n
  · by_cases h : m = i
    · subst h
      rw [List.getElem?_set_self (by simpa using hi), List.getElem?_map, List.getElem?_range hi]
      simp
    · rw [List.getElem?_set_ne h, List.getElem?_map, List.getElem?_map, List.getElem?_range hi]
      simp
      exact fun z => absurd z.symm h
  · rw [List.getElem?_eq_none (by simp; omega), List.getElem?_eq_none (by simp; omega)]
theorem x5z {g : Nat -> Nat} {n : Nat} : x0h ((List.range n).map g) = (List.range n).map fun i => .int (Int.ofNat (g i)) := by simp [x0h]
theorem z13 {n : Nat} {f : Nat -> Nat -> Nat} {a b v : Nat} : D.lst (((List.range n).map fun i => x7m n f i).set a (.lst ((x0h ((List.range n).map fun j => f a j)).set b (.int (Int.ofNat v))))) = x3q n fun i j => if i = a /\ j = b then v else f i j := by
  unfold x3q
  rw [x78]
  refine congrArg D.lst (List.map_congr_left fun i hi => ?_)
  by_cases h : i = a
  · subst h
    rw [if_pos rfl, x5z, x78]
    unfold x7m
    rw [x5z]
    refine congrArg D.lst (List.map_congr_left fun j hj => ?_)
    by_cases hj : j = b <;> simp [hj]
  · rw [if_neg h]
    unfold x7m
    simp [h]
theorem z92 (n : Nat) : D.lst (List.replicate n [D.int 0]).flatten = x7m n (fun _ _ => 0) 0 := by
  unfold x7m x0h
  congr 1
  simp [List.flatten_replicate_singleton, List.map_const']
theorem y5h : ∀ ds : List D, x6a ds = ds.map toP
  | [] => rfl
  | d :: ds => by rw [x6a, y5h ds]; rfl
noncomputable def lay (d : D) : Bool := x7f d && (toP d).canLay0
theorem z57 {d : D} (h : lay d = true) : x7f d = true := (Bool.and_eq_true_iff.mp h).1
theorem z7n {d : D} (h : lay d = true) : (toP d).canLay0 = true := (Bool.and_eq_true_iff.mp h).2
theorem x8b : ∀ {ds : List D}, (∀ d ∈ ds, lay d = true) -> x9q ds = true
  | [], _ => rfl
  | d :: ds, h => by
    show (x7f d && x9q ds) = true
    rw [z57 (h d List.mem_cons_self), x8b fun x m => h x (List.mem_cons_of_mem _ m)]
    rfl
noncomputable def dep (d : D) : Nat := (toP d).depth
theorem y77 : ∀ {ds : List D}, (∀ d ∈ ds, lay d = true) -> PyData.canLayAll0 (x6a ds) = true
  | [], _ => rfl
  | d :: ds, h => by
    rw [x6a, PyData.canLayAll0, y77 fun x m => h x (List.mem_cons_of_mem _ m), Bool.and_true]
    exact z7n (h d List.mem_cons_self)
theorem y76 {k : Nat} : ∀ {ds : List D}, (∀ d ∈ ds, dep d <= k) -> PyData.depthAll (x6a ds) <= k
  | [], _ => Nat.zero_le _
  | d :: ds, h => by
    rw [x6a, PyData.depthAll]
    exact Nat.max_le.mpr ⟨h d List.mem_cons_self, y76 fun x m => h x (List.mem_cons_of_mem _ m)⟩
noncomputable def Sh (k : Nat) (d : D) : Prop := lay d = true /\ dep d <= k
theorem Sh.int {k : Nat} (i : Int) : Sh k (.int i) := ⟨rfl, Nat.zero_le _⟩
theorem Sh.non {k : Nat} : Sh k .non := ⟨rfl, Nat.zero_le _⟩
theorem Sh.tup {k : Nat} {ds : List D} (h : ∀ d ∈ ds, Sh k d) : Sh (k + 1) (.tup ds) := ⟨Bool.and_eq_true_iff.mpr ⟨x8b fun d m => (h d m).1, y77 fun d m => (h d m).1⟩, Nat.succ_le_succ (y76 fun d m => (h d m).2)⟩
theorem Sh.lst {k : Nat} {ds : List D} (h : ∀ d ∈ ds, Sh k d) : Sh (k + 1) (.lst ds) := ⟨Bool.and_eq_true_iff.mpr ⟨x8b fun d m => (h d m).1, y77 fun d m => (h d m).1⟩, Nat.succ_le_succ (y76 fun d m => (h d m).2)⟩
theorem Sh.ok {k : Nat} {d : D} (h : Sh k d) (hk : k <= 64 := by decide) : okD d = true := by
  show (x7f d && ((toP d).canLay0 && decide ((toP d).depth <= 64))) = true
  rw [z57 h.1, z7n h.1, Bool.true_and, Bool.true_and]
  exact decide_eq_true (Nat.le_trans h.2 hk)
theorem y81 {l : List Nat} {d : D} (m : d ∈ x0h l) : Sh 0 d := by
  obtain ⟨x, _, rfl⟩ := List.mem_map.mp m
  exact .int _
theorem z5n (l : List Nat) : Sh 1 (.lst (x0h l)) := .lst fun _ m => y81 m
theorem z52 (l : List Nat) : Sh 1 (.tup (x0h l)) := .tup fun _ m => y81 m
theorem z30 (n : Nat) (f : Nat -> Nat -> Nat) : Sh 2 (x0r n f) := .tup fun d m => by
  obtain ⟨x, _, rfl⟩ := List.mem_map.mp m
  exact z52 _
theorem x6r : ∀ l l' : List Nat, PyData.eqvAll (x6a (x0h l)) (x6a (x0h l')) = decide (l = l')
  | [], [] => rfl
  | [], _ :: _ => rfl
  | _ :: _, [] => rfl
  | x :: l, y :: l' => by
    show (((x : Int) == (y : Int)) && PyData.eqvAll (x6a (x0h l)) (x6a (x0h l'))) = _
    rw [x6r l l']
    by_cases h : x = y
    · subst h; simp
    · have : ((x : Int) == (y : Int)) = false := by simp; omega
      rw [this]
      simp [h]
theorem z88 (l l' : List Nat) : eqD (.lst (x0h l)) (.lst (x0h l')) = decide (l = l') := x6r l l'
theorem z44 (l l' : List Nat) : eqD (.tup (x0h l)) (.tup (x0h l')) = decide (l = l') := x6r l l'
theorem y44 (i j : Int) : eqD (.int i) (.int j) = decide (i = j) := by
  show (i == j) = _
  rw [Bool.beq_eq_decide_eq]
theorem y6y (i j : Nat) : eqD (.int (Int.ofNat i)) (.int (Int.ofNat j)) = decide (i = j) := by
  rw [y44]
  exact decide_eq_decide.mpr ⟨fun h => Int.ofNat.inj h, fun h => by rw [h]⟩
theorem z64 (l l' : List Nat) : dEq (.lst (x0h l)) (.lst (x0h l')) = some (.bl (decide (l = l'))) := by unfold dEq; rw [if_pos ⟨(z5n l).ok, (z5n l').ok⟩, z88]
theorem z9p (l l' : List Nat) : dNe (.lst (x0h l)) (.lst (x0h l')) = some (.bl (!decide (l = l'))) := by unfold dNe; rw [if_pos ⟨(z5n l).ok, (z5n l').ok⟩, z88]
theorem y8p (i j : Int) : dEq (.int i) (.int j) = some (.bl (decide (i = j))) := by unfold dEq; rw [if_pos ⟨(Sh.int (k := 0) i).ok, (Sh.int (k := 0) j).ok⟩, y44]
theorem z4o (i j : Int) : dNe (.int i) (.int j) = some (.bl (!decide (i = j))) := by unfold dNe; rw [if_pos ⟨(Sh.int (k := 0) i).ok, (Sh.int (k := 0) j).ok⟩, y44]
theorem y3n (i j : Nat) : dEq (.int (Int.ofNat i)) (.int (Int.ofNat j)) = some (.bl (decide (i = j))) := by unfold dEq; rw [if_pos ⟨(Sh.int (k := 0) _).ok, (Sh.int (k := 0) _).ok⟩, y6y]
theorem z28 (i j : Nat) : dNe (.int (Int.ofNat i)) (.int (Int.ofNat j)) = some (.bl (!decide (i = j))) := by unfold dNe; rw [if_pos ⟨(Sh.int (k := 0) _).ok, (Sh.int (k := 0) _).ok⟩, y6y]
theorem x7k {α : Type} {p : α -> Bool} : ∀ {l : List α} {j : Nat} {x : α}, l[j]? = some x -> p x = true -> (∀ i y, i < j -> l[i]? = some y -> p y = false) -> l.findIdx? p = some j
  | [], j, x, h, _, _ => by simp at h
  | a :: l, 0, x, h, hp, _ => by
    simp at h; subst h
    simp [List.findIdx?_cons, hp]
  | a :: l, j + 1, x, h, hp, hn => by
    have h0 : p a = false := hn 0 a (Nat.succ_pos _) rfl
    have ih := x7k (l := l) (j := j) (x := x) (by simpa using h) hp fun i y hi hy => hn (i + 1) y (Nat.succ_lt_succ hi) (by simpa using hy)
    simp [List.findIdx?_cons, h0, ih]
structure Lad (n : Nat) (f : Nat -> Nat -> Nat) : Prop where
  lo : 0 < n
  hi : n <= 8
  cl : ∀ i j, i < n -> j < n -> f i j < n
  idem : ∀ i, i < n -> f i i = i
  comm : ∀ i j, i < n -> j < n -> f i j = f j i
  assoc : ∀ i j k, i < n -> j < n -> k < n -> f (f i j) k = f i (f j k)
  bot : ∃ z, z < n /\ ∀ j, j < n -> f z j = j
noncomputable def z91 (n : Nat) (f : Nat -> Nat -> Nat) : Bool :=
  decide (0 < n) && decide (n <= 8) && ((List.range n).all fun i => (List.range n).all fun j => decide (f i j < n)) && ((List.range n).all fun i => decide (f i i = i)) && ((List.range n).all fun i => (List.range n).all fun j => decide (f i j = f j i)) &&
  ((List.range n).all fun i => (List.range n).all fun j => (List.range n).all fun k => decide (f (f i j) k = f i (f j k))) && ((List.range n).any fun z => (List.range n).all fun j => decide (f z j = j))
theorem z37 {n : Nat} {f : Nat -> Nat -> Nat} (h : z91 n f = true) : Lad n f := by
  unfold z91 at h
  simp only [Bool.and_eq_true, decide_eq_true_eq, List.all_eq_true, List.any_eq_true, List.mem_range] at h
  obtain ⟨⟨⟨⟨⟨⟨h1, h2⟩, h3⟩, h4⟩, h5⟩, h6⟩, z, hz, h7⟩ := h
  exact ⟨h1, h2, fun i j hi hj => h3 i hi j hj, h4, fun i j hi hj => h5 i hi j hj, fun i j k hi hj hk => h6 i hi j hj k hk, z, hz, h7⟩
theorem Lad.ren {n : Nat} {f : Nat -> Nat -> Nat} (L : Lad n f) {π ι : Nat -> Nat} (h1 : ∀ i, i < n -> π i < n) (h2 : ∀ i, i < n -> ι i < n) (h3 : ∀ i, i < n -> ι (π i) = i) (h4 : ∀ i, i < n -> π (ι i) = i) : Lad n fun a b => π (f (ι a) (ι b)) := by
  obtain ⟨l1, l2, cl, idem, comm, assoc, z, hz, bot⟩ := L
  refine ⟨l1, l2, fun i j hi hj => h1 _ (cl _ _ (h2 i hi) (h2 j hj)), fun i hi => ?_, fun i j hi hj => ?_, fun i j k hi hj hk => ?_, π z, h1 z hz, fun j hj => ?_⟩
  · show π (f (ι i) (ι i)) = i
    rw [idem _ (h2 i hi), h4 i hi]
  · show π (f (ι i) (ι j)) = π (f (ι j) (ι i))
    rw [comm _ _ (h2 i hi) (h2 j hj)]
  · show π (f (ι (π (f (ι i) (ι j)))) (ι k)) = π (f (ι i) (ι (π (f (ι j) (ι k)))))
    rw [h3 _ (cl _ _ (h2 i hi) (h2 j hj)), h3 _ (cl _ _ (h2 j hj) (h2 k hk)), assoc _ _ _ (h2 i hi) (h2 j hj) (h2 k hk)]
  · show π (f (ι (π z)) (ι j)) = j
    rw [h3 z hz, bot _ (h2 j hj), h4 j hj]
noncomputable def x59 (p : Nat -> Nat -> Nat) (n : Nat) : Nat -> List Nat
  | 0 => List.range n
  | k + 1 => (x59 p n k).eraseIdx (p k (x59 p n k).length)
noncomputable def drawn (p : Nat -> Nat -> Nat) (n k : Nat) : Nat := (x59 p n k).getD (p k (x59 p n k).length) 0
theorem y0q : ∀ (l : List Nat) (j : Nat), (x0h l).eraseIdx j = x0h (l.eraseIdx j)
  | [], _ => rfl
  | _ :: _, 0 => rfl
  | a :: l, j + 1 => congrArg (D.int (Int.ofNat a) :: ·) (y0q l j)
theorem x7j {p : Nat -> Nat -> Nat} {n : Nat} (hp : ∀ k m, 0 < m -> p k m < m) : ∀ k, k <= n -> (x59 p n k).length = n - k
  | 0, _ => by simp [x59]
  | k + 1, h => by
    have ih := x7j hp k (Nat.le_of_succ_le h)
    have := hp k (n - k) (by omega)
    rw [x59, List.length_eraseIdx, ih, if_pos this]
    omega
theorem y0u : ∀ {l : List Nat} {j : Nat} (h : j < l.length), (l[j] :: l.eraseIdx j).Perm l
  | a :: l, 0, _ => List.Perm.refl _
  | a :: l, j + 1, h => (List.Perm.swap a (l[j]'(by simpa using h)) (l.eraseIdx j)).trans (List.Perm.cons a (y0u (by simpa using h)))
theorem y2a {p : Nat -> Nat -> Nat} {n : Nat} (hp : ∀ k m, 0 < m -> p k m < m) : ∀ k, k <= n -> (((List.range k).map (drawn p n)) ++ x59 p n k).Perm (List.range n)
  | 0, _ => by simp [x59]
  | k + 1, h => by
    have ih := y2a hp k (Nat.le_of_succ_le h)
    have hl := x7j hp k (by omega : k <= n)
    have hj : p k (x59 p n k).length < (x59 p n k).length := by rw [hl]; exact hp k _ (by omega)
    refine List.Perm.trans ?_ ih
    rw [List.range_succ, List.map_append, List.append_assoc]
    refine List.Perm.append_left _ ?_
    have e : drawn p n k = (x59 p n k)[p k (x59 p n k).length] := by unfold drawn; rw [List.getD_eq_getElem?_getD, List.getElem?_eq_getElem hj]; rfl
    show (drawn p n k :: (x59 p n (k + 1))).Perm _
    rw [e, x59]
    exact y0u hj
theorem x61 {p : Nat -> Nat -> Nat} {n : Nat} (hp : ∀ k m, 0 < m -> p k m < m) : ((List.range n).map (drawn p n)).Perm (List.range n) := by
  have h := y2a hp n (Nat.le_refl n)
  have hl := x7j hp n (Nat.le_refl n)
  rw [Nat.sub_self] at hl
  rw [List.length_eq_zero_iff.mp hl, List.append_nil] at h
  exact h
theorem y59 {p : Nat -> Nat -> Nat} {n : Nat} (hp : ∀ k m, 0 < m -> p k m < m) {i : Nat} (h : i < n) : drawn p n i < n := by
  have m : drawn p n i ∈ (List.range n).map (drawn p n) := List.mem_map.mpr ⟨i, List.mem_range.mpr h, rfl⟩
  exact List.mem_range.mp ((x61 hp).mem_iff.mp m)
noncomputable def x3k (p : Nat -> Nat -> Nat) (n a : Nat) : Nat := ((List.range n).map (drawn p n)).idxOf a
theorem y0w {p : Nat -> Nat -> Nat} {n : Nat} (hp : ∀ k m, 0 < m -> p k m < m) {a : Nat} (h : a < n) : x3k p n a < n := by
  have m : a ∈ (List.range n).map (drawn p n) := (x61 hp).mem_iff.mpr (List.mem_range.mpr h)
  have := List.idxOf_lt_length_of_mem m
  rw [List.length_map, List.length_range] at this
  exact this
theorem x76 {p : Nat -> Nat -> Nat} {n : Nat} (hp : ∀ k m, 0 < m -> p k m < m) {a : Nat} (h : a < n) : drawn p n (x3k p n a) = a := by
  have m : a ∈ (List.range n).map (drawn p n) := (x61 hp).mem_iff.mpr (List.mem_range.mpr h)
  have := List.getElem_idxOf (List.idxOf_lt_length_of_mem m)
  rw [List.getElem_map, List.getElem_range] at this
  exact this
theorem x7b {p : Nat -> Nat -> Nat} {n : Nat} (hp : ∀ k m, 0 < m -> p k m < m) {i : Nat} (h : i < n) : x3k p n (drawn p n i) = i := by
  have nd : ((List.range n).map (drawn p n)).Nodup := (x61 hp).nodup_iff.mpr List.nodup_range
  have hi : i < ((List.range n).map (drawn p n)).length := by simpa using h
  have := nd.idxOf_getElem i hi
  rw [List.getElem_map, List.getElem_range] at this
  exact this
end L3
namespace L3
open PySem PySem.Spec PyProof.Rows L2
theorem y42 {i n : Nat} {tt : x29} {te : Den} {ρ : Rho} {deep : Bool} (hi : ρ.length = i) (b : Nat -> Bool) (v : Nat -> D) (q : Nat -> Nat) (ht : ∀ j, j < n -> tt (ρ ++ [some (.int (Int.ofNat j), 9)]) = some (b j, ρ ++ [some (.int (Int.ofNat j), 9)]))
    (he : ∀ j, j < n -> b j = true -> te (ρ ++ [some (.int (Int.ofNat j), 9)]) = some (v j, q j, ρ ++ [some (.int (Int.ofNat j), 9)])) (hd : deep = true -> ∀ j, (v j).isL = true -> q j = 1 := by intro h; cases h) :
    x5e 1 (x0m i) tt te deep (x1d n) ρ = some (((List.range n).filter b).map v, ρ) := by
  have h := x4f (k := 1) (pt := x0m i) (tt := tt) (te := te) (deep := deep) (x1d n) (fun _ => ρ) b v (fun j hj => ?_)
  · rw [x0z] at h
    exact h
  · rw [x0z] at hj
    refine ⟨ρ ++ [some (.int (Int.ofNat j), 9)], _, ?_, ht j hj, ?_⟩
    · have : (x1d n)[j]'(by rw [x0z]; exact hj) = .int (Int.ofNat j) := by simp [x1d]
      rw [this]
      unfold x0m
      rw [if_pos (by simp [hi])]
      subst hi
      simp [List.set_append]
    · by_cases hb : b j = true
      · rw [if_pos hb]
        exact ⟨q j, _, he j hj hb, fun ⟨h1, h2, h3⟩ => h3 (hd h1 j h2), by simp⟩
      · rw [if_neg hb]
        simp
theorem y0r {z : Nat} : ∀ n : Nat, (List.range n).filter (fun w => decide (w = z)) = if z < n then [z] else []
  | 0 => by simp
  | n + 1 => by
    rw [List.range_succ, List.filter_append, y0r n]
    by_cases h : n = z
    · subst h; simp
    · have : ¬ (n = z) := h
      by_cases h2 : z < n
      · rw [if_pos h2, if_pos (by omega)]; simp [h]
      · rw [if_neg h2, if_neg (by omega)]; simp [h]
theorem y32 {n : Nat} {g : Nat -> Nat} : (List.range n).map g = List.range n ↔ ∀ j, j < n -> g j = j := by
  constructor
  · intro h j hj
    have := congrArg (fun l => l[j]?) h
    simpa [hj] using this
  · intro h
    have e := List.map_congr_left (l := List.range n) (f := g) (g := id) fun a ha => h a (List.mem_range.mp ha)
    rw [e, List.map_id]
namespace Lad
variable {n : Nat} {f : Nat -> Nat -> Nat} (L : Lad n f)
include L
theorem bot_uniq {z x : Nat} (hz : z < n) (bz : ∀ j, j < n -> f z j = j) (hx : x < n) (bx : ∀ j, j < n -> f x j = j) : x = z := by
  have h1 := bx z hz
  have h2 := bz x hx
  rw [L.comm x z hx hz] at h1
  omega
theorem fold_lt : ∀ {l : List Nat} {a : Nat}, a < n -> (∀ x ∈ l, x < n) -> l.foldl f a < n
  | [], a, ha, _ => ha
  | y :: l, a, ha, h => fold_lt (l := l) (L.cl a y ha (h y List.mem_cons_self)) fun x m => h x (List.mem_cons_of_mem _ m)
theorem y7v : ∀ {l : List Nat} {a x : Nat}, a < n -> x < n -> (∀ x ∈ l, x < n) -> f x a = a -> f x (l.foldl f a) = l.foldl f a
  | [], a, x, _, _, _, e => e
  | y :: l, a, x, ha, hx, h, e => by
    have hy := h y List.mem_cons_self
    refine y7v (l := l) (L.cl a y ha hy) hx (fun x m => h x (List.mem_cons_of_mem _ m)) ?_
    rw [<- L.assoc x a y hx ha hy, e]
theorem fold_mem : ∀ {l : List Nat} {a x : Nat}, a < n -> (∀ x ∈ l, x < n) -> x ∈ l -> f x (l.foldl f a) = l.foldl f a
  | y :: l, a, x, ha, h, m => by
    have hy := h y List.mem_cons_self
    have hl : ∀ x ∈ l, x < n := fun x m => h x (List.mem_cons_of_mem _ m)
    rcases List.mem_cons.mp m with rfl | m
    · refine y7v L (l := l) (L.cl a x ha hy) hy hl ?_
      rw [L.comm a x ha hy, <- L.assoc x x a hy hy ha, L.idem x hy]
    · exact fold_mem (l := l) (L.cl a y ha hy) hl m
theorem fold_out {z : Nat} (hz : z < n) (bz : ∀ j, j < n -> f z j = j) : ∀ {l : List Nat} {a : Nat}, a < n -> (∀ x ∈ l, x < n) -> l.foldl f a = f a (l.foldl f z)
  | [], a, ha, _ => by show a = f a z; rw [L.comm a z ha hz, bz a ha]
  | y :: l, a, ha, h => by
    have hy := h y List.mem_cons_self
    have hl : ∀ x ∈ l, x < n := fun x m => h x (List.mem_cons_of_mem _ m)
    show l.foldl f (f a y) = f a (l.foldl f (f z y))
    rw [bz y hy, fold_out hz bz (L.cl a y ha hy) hl, fold_out hz bz hy hl, L.assoc a y _ ha hy (L.fold_lt hz hl)]
end Lad
end L3
namespace L3
open PySem PySem.Spec PyProof.Rows L2
theorem y1z {pt : x5m} {body : x1b} {d : D} {q : Nat} : ∀ (ds : List D) (I : Rho -> Prop) (ok : Nat -> Bool) (ρ : Rho),
    (∀ i (h : i < ds.length) ρ, I ρ -> ∃ ρ1, pt ds[i] ρ = some ρ1 /\ (ok i = true -> ∃ ρ2, body ρ1 = some (.nx ρ2) /\ I ρ2) /\ (ok i = false -> body ρ1 = some (.rt d q))) -> I ρ ->
    ((List.range ds.length).all ok = true -> ∃ ρ', x8z pt body ds ρ = some (.nx ρ') /\ I ρ') /\ ((List.range ds.length).all ok = false -> x8z pt body ds ρ = some (.rt d q))
  | [], I, ok, ρ, _, h0 => ⟨fun _ => ⟨ρ, rfl, h0⟩, fun h => by simp at h⟩
  | x :: ds, I, ok, ρ, h, h0 => by
    obtain ⟨ρ1, h1, h2, h3⟩ := h 0 (by simp) ρ h0
    have e1 : pt x ρ = some ρ1 := h1
    have er : (List.range (x :: ds).length).all ok = (ok 0 && (List.range ds.length).all fun i => ok (i + 1)) := by
      rw [List.length_cons, List.range_succ_eq_map, List.all_cons, List.all_map]; rfl
    rw [er]
    cases hk : ok 0 with
    | false =>
      refine ⟨fun z => by simp at z, fun _ => ?_⟩
      unfold x8z
      simp only [e1, h3 hk]
    | true =>
      obtain ⟨ρ2, h4, h5⟩ := h2 hk
      obtain ⟨i1, i2⟩ := y1z ds I (fun i => ok (i + 1)) ρ2 (fun i hi => h (i + 1) (by simpa using hi)) h5
      rw [Bool.true_and]
      unfold x8z
      simp only [e1, h4]
      exact ⟨i1, i2⟩
theorem range_all {n : Nat} {p : Nat -> Bool} : (List.range n).all p = true ↔ ∀ i, i < n -> p i = true := by
  rw [List.all_eq_true]
  exact ⟨fun h i hi => h i (List.mem_range.mpr hi), fun h i hi => h i (List.mem_range.mp hi)⟩
theorem y5p (p : Nat -> Bool) : ∀ l : List Nat, ((List.range l.length).all fun i => p (l.getD i 0)) = l.all p
  | [] => rfl
  | a :: l => by
    rw [List.length_cons, List.range_succ_eq_map, List.all_cons, List.all_map, List.all_cons, <- y5p p l]
    rfl
theorem y3b {l : List Nat} {i : Nat} (h : i < (x0h l).length) : (x0h l)[i] = .int (Int.ofNat (l.getD i 0)) := by
  have h' : i < l.length := by rw [x1c] at h; exact h
  simp [x0h, h']
theorem y1h {l : List Nat} {i : Nat} (h : i < l.length) : l.getD i 0 ∈ l := by
  rw [List.getD_eq_getElem?_getD, List.getElem?_eq_getElem h]
  exact List.getElem_mem h
theorem z9i {i : Nat} {te : Den} {ρ : Rho} {deep : Bool} (l : List Nat) (hi : ρ.length = i) (v : Nat -> D) (q : Nat -> Nat)
    (he : ∀ x, x ∈ l -> te (ρ ++ [some (.int (Int.ofNat x), 9)]) = some (v x, q x, ρ ++ [some (.int (Int.ofNat x), 9)])) (hd : deep = true -> ∀ j, (v j).isL = true -> q j = 1 := by intro h; cases h) :
    x5e 1 (x0m i) x2o te deep (x0h l) ρ = some (l.map v, ρ) := by
  have h := x4f (k := 1) (pt := x0m i) (tt := x2o) (te := te) (deep := deep) (x0h l) (fun _ => ρ) (fun _ => true) (fun j => v (l.getD j 0)) (fun j hj => ?_)
  · rw [x1c, show (List.range l.length).filter (fun _ => true) = List.range l.length by simp] at h
    rw [h]
    have e : (List.range l.length).map (fun j => v (l.getD j 0)) = l.map v := by
      apply List.ext_getElem?
      intro k
      by_cases hk : k < l.length
      · simp [hk]
      · rw [List.getElem?_eq_none (by simp; omega), List.getElem?_eq_none (by simp; omega)]
    rw [e]
  · have hj' : j < l.length := by rw [x1c] at hj; exact hj
    refine ⟨ρ ++ [some (.int (Int.ofNat (l.getD j 0)), 9)], _, ?_, rfl, ?_⟩
    · rw [y3b hj]
      unfold x0m
      rw [if_pos (by simp [hi])]
      subst hi
      simp [List.set_append]
    · rw [if_pos rfl]
      exact ⟨q _, _, he _ (y1h hj'), fun ⟨h1, h2, h3⟩ => h3 (hd h1 _ h2), by simp⟩
theorem x3w {g : D -> D -> Option D} {fa fb : Den} {ρ ρ1 ρ2 : Rho} {x y d : D} {q q' : Nat} (ha : fa ρ = some (x, q, ρ1)) (hb : fb ρ1 = some (y, q', ρ2)) (hg : g x y = some d) : e2 g fa fb ρ = some (d, 9, ρ2) := by unfold e2; rw [ha]; simp only [hb, hg]
theorem x46 {f : Den} {ρ ρ1 : Rho} {b : Bool} {q : Nat} (h : f ρ = some (.bl b, q, ρ1)) : x37 f ρ = some (b, ρ1) := by unfold x37; rw [h]
theorem x6j {i : Nat} {g : x2a} {ρ ρ1 ρ2 : Rho} {ds : List D} {d : D} (hl : y8m ρ[i]? = true) (hg : g ρ = some ([d], ρ1)) (h1 : ρ1[i]? = some (some (.lst ds, 1))) (hn : ds.length <= 1000) (e : ρ1.set i (some (.lst (ds ++ [d]), 1)) = ρ2) : x3f (x7v i g) ρ = some (.nx ρ2) := by
  unfold x3f x7v
  rw [if_pos hl, hg]
  simp only [h1, if_pos hn, e]
theorem z7j {b : List D -> Option D} {g : x2a} {ρ ρ1 : Rho} {ds : List D} {d : D} (h : g ρ = some (ds, ρ1)) (hd : b ds = some d) : eB b g ρ = some (d, 9, ρ1) := by unfold eB; rw [h]; simp only [hd]
noncomputable def x21 (n : Nat) (r : Nat -> Nat) : D := .tup (x0h ((List.range n).map r))
@[simp] theorem z62 {n : Nat} {r : Nat -> Nat} : (x21 n r).isL = false := rfl
theorem x63 {n i : Nat} {r : Nat -> Nat} (h : i < n) : atD (x21 n r) (Int.ofNat i) = some (.int (Int.ofNat (r i))) := x2f h
theorem y6h (l l' : List Nat) : dNe (.tup (x0h l)) (.tup (x0h l')) = some (.bl (!decide (l = l'))) := by unfold dNe; rw [if_pos ⟨(z52 l).ok, (z52 l').ok⟩, z44]
theorem y7r (n : Nat) (a b : Nat -> Nat) : ((x0h ((List.range n).map a)).zip (x0h ((List.range n).map b))).map (fun x => D.tup [x.1, x.2]) = (List.range n).map fun j => .tup [.int (Int.ofNat (a j)), .int (Int.ofNat (b j))] := by
  rw [x5z, x5z, List.zip_map', List.map_map]
  rfl
theorem j0a {i n : Nat} {tt : x29} {te : Den} {ρ : Rho} {deep : Bool} (hi : ρ.length = i) (a b : Nat -> Nat) (ok : Nat -> Bool) (v : Nat -> D) (q : Nat -> Nat)
    (ht : ∀ j, j < n -> tt (ρ ++ [some (.int (Int.ofNat (a j)), 9), some (.int (Int.ofNat (b j)), 9)]) = some (ok j, ρ ++ [some (.int (Int.ofNat (a j)), 9), some (.int (Int.ofNat (b j)), 9)]))
    (he : ∀ j, j < n -> ok j = true -> te (ρ ++ [some (.int (Int.ofNat (a j)), 9), some (.int (Int.ofNat (b j)), 9)]) = some (v j, q j, ρ ++ [some (.int (Int.ofNat (a j)), 9), some (.int (Int.ofNat (b j)), 9)]))
    (hd : deep = true -> ∀ j, (v j).isL = true -> q j = 1 := by intro h; cases h) :
    x5e 2 (y3j (x15 (x0m i) (x15 (x0m (i + 1)) x66))) tt te deep ((List.range n).map fun j => .tup [.int (Int.ofNat (a j)), .int (Int.ofNat (b j))]) ρ = some (((List.range n).filter ok).map v, ρ) := by
  have h := x4f (k := 2) (pt := y3j (x15 (x0m i) (x15 (x0m (i + 1)) x66))) (tt := tt) (te := te) (deep := deep) ((List.range n).map fun j => .tup [.int (Int.ofNat (a j)), .int (Int.ofNat (b j))]) (fun _ => ρ) ok v (fun j hj => ?_)
  · rw [List.length_map, List.length_range] at h
    exact h
  · rw [List.length_map, List.length_range] at hj
    refine ⟨ρ ++ [some (.int (Int.ofNat (a j)), 9), some (.int (Int.ofNat (b j)), 9)], _, ?_, ht j hj, ?_⟩
    · subst hi
      simp [-Int.ofNat_eq_natCast, List.set_append]
    · by_cases hb : ok j = true
      · rw [if_pos hb]
        exact ⟨q j, _, he j hj hb, fun ⟨h1, h2, h3⟩ => h3 (hd h1 j h2), by simp⟩
      · rw [if_neg hb]
        simp
namespace Lad
variable {n : Nat} {f : Nat -> Nat -> Nat} (L : Lad n f)
include L
theorem le_trans {x y z : Nat} (hx : x < n) (hy : y < n) (hz : z < n) (h1 : f x y = y) (h2 : f y z = z) : f x z = z := by
  rw [<- h2, <- L.assoc x y z hx hy hz, h1]
theorem le_anti {x y : Nat} (hx : x < n) (hy : y < n) (h1 : f x y = y) (h2 : f y x = x) : x = y := by
  rw [L.comm y x hy hx, h1] at h2; exact h2.symm
theorem le_l {x y : Nat} (hx : x < n) (hy : y < n) : f x (f x y) = f x y := by rw [<- L.assoc x x y hx hx hy, L.idem x hx]
theorem le_r {x y : Nat} (hx : x < n) (hy : y < n) : f y (f x y) = f x y := by rw [L.comm x y hx hy]; exact L.le_l hy hx
theorem lub {x y z : Nat} (hx : x < n) (hy : y < n) (hz : z < n) (h1 : f x z = z) (h2 : f y z = z) : f (f x y) z = z := by rw [L.assoc x y z hx hy hz, h2, h1]
theorem sup_least {z : Nat} (hz : z < n) (bz : ∀ j, j < n -> f z j = j) {b : Nat} (hb : b < n) : ∀ {l : List Nat}, (∀ x ∈ l, x < n) -> (∀ x ∈ l, f x b = b) -> f (l.foldl f z) b = b
  | [], _, _ => bz b hb
  | y :: l, h, k => by
    have hy := h y List.mem_cons_self
    have hl : ∀ x ∈ l, x < n := fun x m => h x (List.mem_cons_of_mem _ m)
    have e : (y :: l).foldl f z = f y (l.foldl f z) := by
      show l.foldl f (f z y) = _
      rw [bz y hy, L.fold_out hz bz hy hl]
    rw [e]
    exact L.lub hy (L.fold_lt hz hl) hb (k y List.mem_cons_self) (sup_least hz bz hb hl fun x m => k x (List.mem_cons_of_mem _ m))
omit L
noncomputable def low (n : Nat) (f : Nat -> Nat -> Nat) (x : Nat) : List Nat := (List.range n).filter fun y => decide (f y x = x)
theorem mem_low {x y : Nat} : y ∈ low n f x ↔ y < n /\ f y x = x := by simp [low]
noncomputable def lr (n : Nat) (f : Nat -> Nat -> Nat) (z : Nat) (r : Nat -> Nat) (x : Nat) : Nat := ((low n f x).map r).foldl f z
include L
variable {z : Nat} (hz : z < n) (bz : ∀ j, j < n -> f z j = j) {r s : Nat -> Nat} (hr : ∀ i, i < n -> r i < n)
include hz bz hr
theorem lr_mem {x : Nat} : ∀ y ∈ (low n f x).map r, y < n := fun y m => by
  obtain ⟨k, hk, rfl⟩ := List.mem_map.mp m
  exact hr k (mem_low.mp hk).1
theorem lr_lt (x : Nat) : lr n f z r x < n := L.fold_lt hz (lr_mem L hz bz hr)
theorem lr_ub {x y : Nat} (hy : y < n) (h : f y x = x) : f (r y) (lr n f z r x) = lr n f z r x := L.fold_mem hz (lr_mem L hz bz hr) (List.mem_map.mpr ⟨y, mem_low.mpr ⟨hy, h⟩, rfl⟩)
theorem lr_least {x b : Nat} (hb : b < n) (h : ∀ y, y < n -> f y x = x -> f (r y) b = b) : f (lr n f z r x) b = b := L.sup_least hz bz hb (lr_mem L hz bz hr) fun y m => by
  obtain ⟨k, hk, rfl⟩ := List.mem_map.mp m
  exact h k (mem_low.mp hk).1 (mem_low.mp hk).2
theorem lr_rises {x y : Nat} (hx : x < n) (hy : y < n) (h : f x y = y) : f (lr n f z r x) (lr n f z r y) = lr n f z r y :=
  L.lr_least hz bz hr (L.lr_lt hz bz hr y) fun k hk e => L.lr_ub hz bz hr hk (L.le_trans hk hx hy e h)
end Lad
end L3
namespace L3
open PySem PySem.Spec PyProof.Rows L2
theorem j10 {α : Type} {us : List α} (h : us.length = 1) : ∃ a, us = [a] := match us, h with | [a], _ => ⟨a, rfl⟩
theorem j18 {α : Type} {us : List α} (h : us.length = 2) : ∃ a b, us = [a, b] := by
  cases us with
  | nil => cases h
  | cons a us =>
    obtain ⟨b, hh⟩ := j10 (Nat.succ.inj h)
    exact ⟨a, b, by rw [hh]⟩
theorem j1m {α : Type} {us : List α} (h : us.length = 3) : ∃ a b c, us = [a, b, c] := by
  cases us with
  | nil => cases h
  | cons a us =>
    obtain ⟨b, c, hh⟩ := j18 (Nat.succ.inj h)
    exact ⟨a, b, c, by rw [hh]⟩
theorem j1n {α : Type} {us : List α} (h : us.length = 4) : ∃ a b c d, us = [a, b, c, d] := by
  cases us with
  | nil => cases h
  | cons a us =>
    obtain ⟨b, c, d, hh⟩ := j1m (Nat.succ.inj h)
    exact ⟨a, b, c, d, by rw [hh]⟩
theorem y4p {pt : x5m} {body : x1b} {d : D} {ds : List D} {ρ ρ1 ρ2 : Rho} (h1 : pt d ρ = some ρ1) (h2 : body ρ1 = some (.nx ρ2)) : x8z pt body (d :: ds) ρ = x8z pt body ds ρ2 := by
  show (match pt d ρ with | none => none | some ρ1 => _) = _
  simp only [h1, h2]
theorem x72 {α J σ : Type} {pt : x5m} {body : x1b} (enc : α -> D) (S : σ -> J -> Rho) (g : σ -> α -> σ) (I : σ -> Prop) : ∀ (l : List α) (s : σ) (j : J), I s ->
    (∀ x ∈ l, ∀ s j, I s -> I (g s x) /\ ∃ ρ1 j', pt (enc x) (S s j) = some ρ1 /\ body ρ1 = some (.nx (S (g s x) j'))) -> ∃ j', x8z pt body (l.map enc) (S s j) = some (.nx (S (l.foldl g s) j')) /\ I (l.foldl g s)
  | [], s, j, i, _ => ⟨j, rfl, i⟩
  | x :: l, s, j, i, h => by
    obtain ⟨i1, ρ1, j1, h1, h2⟩ := h x List.mem_cons_self s j i
    obtain ⟨j2, e, i2⟩ := x72 enc S g I l (g s x) j1 i1 fun y m => h y (List.mem_cons_of_mem _ m)
    exact ⟨j2, (y4p h1 h2).trans e, i2⟩
theorem y0g {c : x29} {b : x1b} {Q : Rho -> Prop} (I : Nat -> Rho -> Prop)
    (h : ∀ k ρ, I k ρ -> (∃ ρ1, c ρ = some (false, ρ1) /\ Q ρ1) \/ (∃ ρ1 ρ2 k', c ρ = some (true, ρ1) /\ b ρ1 = some (.nx ρ2) /\ k' < k /\ I k' ρ2)) : ∀ m k ρ, k < m -> I k ρ -> ∃ ρ', x5k c b m ρ = some (.nx ρ') /\ Q ρ'
  | 0, k, _, hk, _ => absurd hk (Nat.not_lt_zero k)
  | m + 1, k, ρ, hk, i => by
    rcases h k ρ i with ⟨ρ1, h1, h2⟩ | ⟨ρ1, ρ2, k', h1, h2, h3, h4⟩
    · exact ⟨ρ1, by unfold x5k; simp [h1], h2⟩
    · obtain ⟨ρ', e, q⟩ := y0g I h m k' ρ2 (by omega) h4
      refine ⟨ρ', ?_, q⟩
      unfold x5k
      simp [h1, h2, e]
theorem x60 {c : x29} {b : x1b} {Q : Rho -> Prop} (I : Nat -> Rho -> Prop) {k : Nat} {ρ : Rho} (hk : k < 1000) (i : I k ρ)
    (h : ∀ k ρ, I k ρ -> (∃ ρ1, c ρ = some (false, ρ1) /\ Q ρ1) \/ (∃ ρ1 ρ2 k', c ρ = some (true, ρ1) /\ b ρ1 = some (.nx ρ2) /\ k' < k /\ I k' ρ2)) : ∃ ρ', x8i c b ρ = some (.nx ρ') /\ Q ρ' := y0g I h 1000 k ρ hk i
noncomputable def gv (v : List Nat) (i : Nat) : Nat := v.getD i 0
theorem y5o {v : List Nat} {i : Nat} (h : i < v.length) : v[i]? = some (gv v i) := by unfold gv; simp [h]
theorem z67 {v : List Nat} {i : Nat} (h : i < v.length) : gv v i ∈ v := y1h h
theorem z9e {v : List Nat} {i : Nat} (h : i < v.length) : atD (.lst (x0h v)) (Int.ofNat i) = some (.int (Int.ofNat (gv v i))) := y3p (y5o h)
theorem j0d {v : List Nat} {i : Nat} (h : i < v.length) : atD (.tup (x0h v)) (Int.ofNat i) = some (.int (Int.ofNat (gv v i))) := y3p (y5o h)
theorem y4z (v : List Nat) (i x : Nat) : (x0h v).set i (.int (Int.ofNat x)) = x0h (v.set i x) := by simp [x0h, List.map_set]
theorem z7g {v : List Nat} {i : Nat} (h : i < v.length) (x j : Nat) : gv (v.set i x) j = if j = i then x else gv v j := by
  unfold gv
  rw [List.getD_eq_getElem?_getD, List.getD_eq_getElem?_getD]
  by_cases e : j = i
  · subst e; rw [if_pos rfl, List.getElem?_set_self h]; rfl
  · rw [if_neg e, List.getElem?_set_ne (fun z => e z.symm)]
theorem y6w {u v : List Nat} (h : u.length = v.length) (k : ∀ i, i < u.length -> gv u i = gv v i) : u = v := by
  apply List.ext_getElem?
  intro i
  by_cases hi : i < u.length
  · rw [y5o hi, y5o (by omega), k i hi]
  · rw [List.getElem?_eq_none (by omega), List.getElem?_eq_none (by omega)]
theorem y4y {p i : Nat} (g : Nat -> Nat) (h : i < p) : gv ((List.range p).map g) i = g i := by unfold gv; simp [h]
theorem j0r (v : List Nat) : v = (List.range v.length).map (gv v) := y6w (by simp) fun i hi => (y4y _ hi).symm
structure Vn (n p : Nat) (v : List Nat) : Prop where
  len : v.length = p
  lt : ∀ x ∈ v, x < n
theorem Vn.gv {n p : Nat} {v : List Nat} (h : Vn n p v) {i : Nat} (hi : i < p) : gv v i < n := h.lt _ (z67 (by rw [h.len]; exact hi))
theorem Vn.set {n p : Nat} {v : List Nat} (h : Vn n p v) {i x : Nat} (hx : x < n) : Vn n p (v.set i x) := ⟨by rw [List.length_set]; exact h.len, fun y hy => by
  rcases List.mem_or_eq_of_mem_set hy with h' | h'
  · exact h.lt y h'
  · rw [h']; exact hx⟩
noncomputable def leV (f : Nat -> Nat -> Nat) (p : Nat) (u v : List Nat) : Prop := ∀ i, i < p -> f (gv u i) (gv v i) = gv v i
noncomputable abbrev ChS := Nat × (List Nat -> Nat)
noncomputable def doS (f : Nat -> Nat -> Nat) (v : List Nat) (s : ChS) : List Nat := v.set s.1 (f (gv v s.1) (s.2 v))
structure OkS (n p : Nat) (f : Nat -> Nat -> Nat) (s : ChS) : Prop where
  pl : s.1 < p
  lt : ∀ v, Vn n p v -> s.2 v < n
  mono : ∀ u v, Vn n p u -> Vn n p v -> leV f p u v -> f (s.2 u) (s.2 v) = s.2 v
noncomputable def ClS (f : Nat -> Nat -> Nat) (l : List ChS) (v : List Nat) : Prop := ∀ s ∈ l, f (s.2 v) (gv v s.1) = gv v s.1
namespace Lad
variable {n : Nat} {f : Nat -> Nat -> Nat} (L : Lad n f) {p : Nat}
include L
theorem leV_refl {v : List Nat} (h : Vn n p v) : leV f p v v := fun i hi => L.idem _ (h.gv hi)
theorem leV_trans {u v w : List Nat} (hu : Vn n p u) (hv : Vn n p v) (hw : Vn n p w) (a : leV f p u v) (b : leV f p v w) : leV f p u w := fun i hi => L.le_trans (hu.gv hi) (hv.gv hi) (hw.gv hi) (a i hi) (b i hi)
theorem leV_anti {u v : List Nat} (hu : Vn n p u) (hv : Vn n p v) (a : leV f p u v) (b : leV f p v u) : u = v :=
  y6w (hu.len.trans hv.len.symm) fun i hi => by
    rw [hu.len] at hi
    exact L.le_anti (hu.gv hi) (hv.gv hi) (a i hi) (b i hi)
theorem doS_V {v : List Nat} {s : ChS} (hs : OkS n p f s) (h : Vn n p v) : Vn n p (doS f v s) := h.set (L.cl _ _ (h.gv hs.pl) (hs.lt v h))
theorem doS_gv {v : List Nat} {s : ChS} (hs : OkS n p f s) (h : Vn n p v) (i : Nat) : gv (doS f v s) i = if i = s.1 then f (gv v s.1) (s.2 v) else gv v i := z7g (by rw [h.len]; exact hs.pl) _ _
theorem doS_up {v : List Nat} {s : ChS} (hs : OkS n p f s) (h : Vn n p v) : leV f p v (doS f v s) := fun i hi => by
  rw [L.doS_gv hs h]
  by_cases e : i = s.1
  · subst e; rw [if_pos rfl]; exact L.le_l (h.gv hi) (hs.lt v h)
  · rw [if_neg e]; exact L.idem _ (h.gv hi)
theorem doS_mono {u v : List Nat} {s : ChS} (hs : OkS n p f s) (hu : Vn n p u) (hv : Vn n p v) (a : leV f p u v) : leV f p (doS f u s) (doS f v s) := fun i hi => by
  rw [L.doS_gv hs hu, L.doS_gv hs hv]
  by_cases e : i = s.1
  · subst e
    rw [if_pos rfl, if_pos rfl]
    have h1 := hu.gv hs.pl
    have h2 := hs.lt u hu
    have h3 := hv.gv hs.pl
    have h4 := hs.lt v hv
    exact L.lub h1 h2 (L.cl _ _ h3 h4) (L.le_trans h1 h3 (L.cl _ _ h3 h4) (a _ hs.pl) (L.le_l h3 h4)) (L.le_trans h2 h4 (L.cl _ _ h3 h4) (hs.mono u v hu hv a) (L.le_r h3 h4))
  · rw [if_neg e, if_neg e]; exact a i hi
theorem doS_fix {v : List Nat} {s : ChS} (hs : OkS n p f s) (h : Vn n p v) : doS f v s = v ↔ f (s.2 v) (gv v s.1) = gv v s.1 := by
  constructor
  · intro e
    have := congrArg (fun u => gv u s.1) e
    rw [L.doS_gv hs h, if_pos rfl] at this
    rw [L.comm _ _ (hs.lt v h) (h.gv hs.pl)]
    exact this
  · intro e
    refine y6w (by unfold doS; rw [List.length_set]) fun i hi => ?_
    rw [L.doS_gv hs h]
    by_cases e' : i = s.1
    · subst e'; rw [if_pos rfl, L.comm _ _ (h.gv hs.pl) (hs.lt v h)]; exact e
    · rw [if_neg e']
theorem foldS_V : ∀ {l : List ChS} {v : List Nat}, (∀ s ∈ l, OkS n p f s) -> Vn n p v -> Vn n p (l.foldl (doS f) v)
  | [], v, _, h => h
  | s :: l, v, hs, h => foldS_V (l := l) (fun t m => hs t (List.mem_cons_of_mem _ m)) (L.doS_V (hs s List.mem_cons_self) h)
theorem foldS_up : ∀ {l : List ChS} {v : List Nat}, (∀ s ∈ l, OkS n p f s) -> Vn n p v -> leV f p v (l.foldl (doS f) v)
  | [], v, _, h => L.leV_refl h
  | s :: l, v, hs, h => by
    have h1 := L.doS_V (hs s List.mem_cons_self) h
    have hl : ∀ t ∈ l, OkS n p f t := fun t m => hs t (List.mem_cons_of_mem _ m)
    exact L.leV_trans h h1 (L.foldS_V (l := l) hl h1) (L.doS_up (hs s List.mem_cons_self) h) (foldS_up (l := l) hl h1)
theorem foldS_below {a : List Nat} (ha : Vn n p a) : ∀ {l : List ChS} {v : List Nat}, (∀ s ∈ l, OkS n p f s) -> Vn n p v -> ClS f l a -> leV f p v a -> leV f p (l.foldl (doS f) v) a
  | [], v, _, h, _, e => e
  | s :: l, v, hs, h, c, e => by
    have s0 := hs s List.mem_cons_self
    have h1 := L.doS_V s0 h
    have hl : ∀ t ∈ l, OkS n p f t := fun t m => hs t (List.mem_cons_of_mem _ m)
    refine foldS_below ha (l := l) hl h1 (fun t m => c t (List.mem_cons_of_mem _ m)) ?_
    have := L.doS_mono s0 h ha e
    rw [(L.doS_fix s0 ha).mpr (c s List.mem_cons_self)] at this
    exact this
theorem foldS_fix : ∀ {l : List ChS} {v : List Nat}, (∀ s ∈ l, OkS n p f s) -> Vn n p v -> (l.foldl (doS f) v = v ↔ ClS f l v)
  | [], v, _, h => ⟨fun _ _ m => (List.not_mem_nil m).elim, fun _ => rfl⟩
  | s :: l, v, hs, h => by
    have s0 := hs s List.mem_cons_self
    have h1 := L.doS_V s0 h
    have hl : ∀ t ∈ l, OkS n p f t := fun t m => hs t (List.mem_cons_of_mem _ m)
    constructor
    · intro e
      have e0 : l.foldl (doS f) (doS f v s) = v := e
      have up := L.foldS_up hl h1
      rw [e0] at up
      have e1 : doS f v s = v := L.leV_anti h1 h up (L.doS_up s0 h)
      rw [e1] at e0
      have c := (foldS_fix (l := l) hl h).mp e0
      intro t m
      rcases List.mem_cons.mp m with rfl | m
      · exact (L.doS_fix s0 h).mp e1
      · exact c t m
    · intro c
      show l.foldl (doS f) (doS f v s) = v
      rw [(L.doS_fix s0 h).mpr (c s List.mem_cons_self)]
      exact (foldS_fix (l := l) hl h).mpr fun t m => c t (List.mem_cons_of_mem _ m)
noncomputable def cnt (n : Nat) (f : Nat -> Nat -> Nat) (x : Nat) : Nat := ((List.range n).filter fun y => decide (f x y = y)).length
noncomputable def mu (n : Nat) (f : Nat -> Nat -> Nat) (v : List Nat) : Nat := (v.map (cnt n f)).sum
omit L in
theorem z5a (x : Nat) : cnt n f x <= n := by
  have := List.length_filter_le (fun y => decide (f x y = y)) (List.range n)
  rw [List.length_range] at this
  exact this
omit L in
theorem mu_le {v : List Nat} (h : Vn n p v) : mu n f v <= p * n := by
  have key : ∀ l : List Nat, (l.map (cnt n f)).sum <= l.length * n := by
    intro l
    induction l with
    | nil => simp
    | cons x l ih =>
      have := z5a (n := n) (f := f) x
      simp only [List.map_cons, List.sum_cons, List.length_cons, Nat.succ_mul]
      omega
  have := key v
  rw [h.len] at this
  exact this
omit L in
theorem x7d {q r : Nat -> Bool} {a : Nat} : ∀ {l : List Nat}, (∀ x ∈ l, r x = true -> q x = true) -> a ∈ l -> q a = true -> r a = false -> (l.filter r).length < (l.filter q).length
  | y :: l, h, ha, hq, hr => by
    have hl : ∀ x ∈ l, r x = true -> q x = true := fun x m => h x (List.mem_cons_of_mem _ m)
    have le : ∀ l : List Nat, (∀ x ∈ l, r x = true -> q x = true) -> (l.filter r).length <= (l.filter q).length := by
      intro l
      induction l with
      | nil => intro _; simp
      | cons z l ih =>
        intro h
        have i := ih fun x m => h x (List.mem_cons_of_mem _ m)
        by_cases hz : r z = true
        · rw [List.filter_cons_of_pos hz, List.filter_cons_of_pos (h z List.mem_cons_self hz)]
          simp only [List.length_cons]; omega
        · rw [List.filter_cons_of_neg hz]
          by_cases hz' : q z = true
          · rw [List.filter_cons_of_pos hz']; simp only [List.length_cons]; omega
          · rw [List.filter_cons_of_neg hz']; exact i
    by_cases e : y = a
    · subst e
      rw [List.filter_cons_of_neg (by rw [hr]; simp), List.filter_cons_of_pos hq]
      have := le l hl
      simp only [List.length_cons]; omega
    · have ha' : a ∈ l := by
        rcases List.mem_cons.mp ha with h' | h'
        · exact absurd h'.symm e
        · exact h'
      have i := x7d (l := l) hl ha' hq hr
      by_cases hz : r y = true
      · rw [List.filter_cons_of_pos hz, List.filter_cons_of_pos (h y List.mem_cons_self hz)]
        simp only [List.length_cons]; omega
      · rw [List.filter_cons_of_neg hz]
        by_cases hz' : q y = true
        · rw [List.filter_cons_of_pos hz']; simp only [List.length_cons]; omega
        · rw [List.filter_cons_of_neg hz']; exact i
theorem cnt_lt {x y : Nat} (hx : x < n) (hy : y < n) (h : f x y = y) (ne : x ≠ y) : cnt n f y < cnt n f x := by
  refine x7d (a := x) (fun k m hk => ?_) (List.mem_range.mpr hx) (decide_eq_true (L.idem x hx)) (decide_eq_false fun e => ne (L.le_anti hx hy h e))
  exact decide_eq_true (L.le_trans hx hy (List.mem_range.mp m) h (of_decide_eq_true hk))
theorem mu_lt {u v : List Nat} (hu : Vn n p u) (hv : Vn n p v) (a : leV f p u v) (ne : u ≠ v) : mu n f v < mu n f u := by
  have key : ∀ (u v : List Nat), u.length = v.length -> (∀ x ∈ u, x < n) -> (∀ x ∈ v, x < n) -> (∀ i, i < u.length -> f (gv u i) (gv v i) = gv v i) -> ((v.map (cnt n f)).sum <= (u.map (cnt n f)).sum) /\ (u ≠ v -> (v.map (cnt n f)).sum < (u.map (cnt n f)).sum) := by
    intro u
    induction u with
    | nil =>
      intro v hl _ _ _
      have : v = [] := List.length_eq_zero_iff.mp hl.symm
      subst this
      exact ⟨Nat.le_refl _, fun h => absurd rfl h⟩
    | cons x u ih =>
      intro v hl h1 h2 h3
      cases v with
      | nil => cases hl
      | cons y v =>
        have hl' : u.length = v.length := by simpa using hl
        obtain ⟨i1, i2⟩ := ih v hl' (fun z m => h1 z (List.mem_cons_of_mem _ m)) (fun z m => h2 z (List.mem_cons_of_mem _ m)) (fun i hi => h3 (i + 1) (by simpa using hi))
        have e0 : f x y = y := h3 0 (by simp)
        have hx := h1 x List.mem_cons_self
        have hy := h2 y List.mem_cons_self
        simp only [List.map_cons, List.sum_cons]
        by_cases e : x = y
        · subst e
          exact ⟨by omega, fun h => by have := i2 (fun z => h (by rw [z])); omega⟩
        · have := L.cnt_lt hx hy e0 e
          exact ⟨by omega, fun _ => by omega⟩
  exact (key u v (hu.len.trans hv.len.symm) hu.lt hv.lt (fun i hi => a i (by rw [<- hu.len]; exact hi))).2 ne
end Lad
end L3
namespace My
open PySem PySem.Spec PyProof.Rows L2 L3
noncomputable def top (i : Nat) : Stmt := PySem.Challenge.pw_ladderhall_k81_whole_summaries.main.body.getD i (.Pass ⟨0, 0, 0, 0⟩)
structure Bt (mg : Str -> Option Value) : Prop where
  m_all : mg "all" = none
  m_bool : mg "bool" = none
  m_int : mg "int" = none
  m_isinstance : mg "isinstance" = none
  m_len : mg "len" = none
  m_list : mg "list" = none
  m_max : mg "max" = none
  m_range : mg "range" = none
  m_str : mg "str" = none
  m_tuple : mg "tuple" = none
  m_zip : mg "zip" = none
section
variable {P : Program} {w : World} {K : PySem.W.Frag} {mg : Str -> Option Value} {base : Heap}
noncomputable def x9h : x1b := x13 (sIf (x37 (e2 dLt (x05 1) (x14 0))) (x3g (x1k 0 (x05 1))) (x8u))
  (x13 (sIf (x37 (e2 dEq (x05 0) (x4k (x0e)))) (x3g (eC (.int 0))) (x8u))
  (x3g (e2 x2w (e2 x9s (x1k 0 (e2 z1x (x05 1) (x14 0))) (eC (.int 31))) (x05 1))))
noncomputable def x49 : List D -> Option (D × Nat) := fnD 2 x9h
theorem y37 : FnScope ["_law_script", "_law_k"] ["_law_script", "_law_k"] (x0c (top 34)) := ⟨rfl, rfl, rfl, by decide +kernel, rfl, by decide +kernel, by decide +kernel⟩
theorem y3t (B : Bt mg)  (a : At K mg "_law_cell" (top 34) ["_law_script", "_law_k"]) : Cal P w K mg base 1 "_law_cell" 2 x49 :=
  Cal.mkQ (k := 0) a y37 fun f cdv A outer s H E hr =>
    x06 (x41 (y5q (x02 (qv 1 rfl (Or.inl rfl))) (x11 B.m_len (qv 0 rfl (Or.inl rfl)))) (x0d (x0n (x0w (qv 0 rfl (Or.inl rfl)) (x02 (qv 1 rfl (Or.inl rfl)))))) (x39))
    (x06 (x41 (x9b hr (x02 (qv 0 rfl (Or.inl rfl))) (x24 (x03))) (x0d (x0n (x0a))) (x39))
    (x0d (x0n (x1m (x5n (x0w (qv 0 rfl (Or.inl rfl)) (y0l (x02 (qv 1 rfl (Or.inl rfl))) (x11 B.m_len (qv 0 rfl (Or.inl rfl))))) (x0a)) (x02 (qv 1 rfl (Or.inl rfl)))))))
noncomputable def x9y : x1b := x13 (x1p 3 (e2 z1x (e2 x9s (e2 x2w (x0g x49 2 (x01 (x05 0) (x01 (x05 1) (x0e)))) (e2 x9s (eC (.int 6151)) (e2 x2w (x05 1) (eC (.int 1))))) (eC (.int 40692))) (eC (.int 2147483399))))
  (x3g (e2 z1x (e2 z1x (e2 x2w (e2 x9s (x05 3) (x05 3)) (e2 z7x (x05 3) (eC (.int 31)))) (eC (.int 2147483629))) (x05 2)))
noncomputable def x0b : List D -> Option (D × Nat) := fnD 4 x9y
theorem x8l : FnScope ["_law_script", "_law_k", "_law_many", "_law_drawn"] ["_law_script", "_law_k", "_law_many"] (x0c (top 35)) := ⟨rfl, rfl, rfl, by decide +kernel, rfl, by decide +kernel, by decide +kernel⟩
theorem y47 (B : Bt mg) (c__law_cell : Cal P w K mg base 1 "_law_cell" 2 x49) (a : At K mg "_law_pick" (top 35) ["_law_script", "_law_k", "_law_many"]) : Cal P w K mg base 2 "_law_pick" 3 x0b :=
  Cal.mkQ (k := 1) a x8l fun f cdv A outer s H E hr =>
    x06 (x0l (i := 3) x8l.nd rfl (Or.inl rfl) (y0l (x5n (x1m (x09 c__law_cell hr (by decide) (x00 (x02 (qv 0 rfl (Or.inl rfl))) (x00 (x02 (qv 1 rfl (Or.inl rfl))) (x03) x04) x04)) (x5n (x0a) (x1m (x02 (qv 1 rfl (Or.inl rfl))) (x0a)))) (x0a)) (x0a)))
    (x0d (x0n (y0l (y0l (x1m (x5n (x02 (qv 3 rfl (Or.inl rfl))) (x02 (qv 3 rfl (Or.inl rfl)))) (y75 (x02 (qv 3 rfl (Or.inl rfl))) (x0a))) (x0a)) (x02 (qv 2 rfl (Or.inl rfl))))))
noncomputable def y2x : x1b := x3g (x33 1 (x17 (x01 (x05 0) (x0e))) (x0m 1) (x2o) (x33 1 (x17 (x01 (x05 0) (x0e))) (x0m 2) (x2o) (eB z7l (x01 (x05 1) (x01 (x05 2) (x0e)))) false) false)
noncomputable def x0y : List D -> Option (D × Nat) := fnD 1 y2x
theorem y1o : FnScope ["_law_many"] ["_law_many"] (x0c (top 36)) := ⟨rfl, rfl, rfl, by decide +kernel, rfl, by decide +kernel, by decide +kernel⟩
theorem y38 (B : Bt mg)  (a : At K mg "_law_chain" (top 36) ["_law_many"]) : Cal P w K mg base 1 "_law_chain" 1 x0y :=
  Cal.mkQ (k := 0) a y1o fun f cdv A outer s H E hr =>
    x0d (x0n (x3b (k := 1) (N' := ["_law_many", "_law_one"]) false rfl ⟨rfl, by decide +kernel, rfl, rfl, rfl⟩ (x0t B.m_range (x00 (x02 (qv 0 rfl (Or.inr (Or.inl rfl)))) (x03) x04)) (fun _ _ _ _ => x0k (i := 1) (show 1 <= 1 by decide) (show List.Nodup (["_law_many", "_law_one"] : List Str) by decide +kernel) rfl (Or.inr rfl) (Or.inl rfl)) (fun _ _ _ _ => x2s) (fun _ _ _ _ => x3b (k := 1) (N' := ["_law_many", "_law_one", "_law_other"]) false rfl ⟨rfl, by decide +kernel, rfl, rfl, rfl⟩ (x0t B.m_range (x00 (x02 (qv 0)) (x03) x04)) (fun _ _ _ _ => x0k (i := 2) (show 2 <= 2 by decide) (show List.Nodup (["_law_many", "_law_one", "_law_other"] : List Str) by decide +kernel) rfl (Or.inl rfl) (Or.inr rfl)) (fun _ _ _ _ => x2s) (fun _ _ _ _ => y7w rfl B.m_max PyProof.Rows.boot_max (x00 (x02 (qv 1)) (x00 (x02 (qv 2)) (x03) x04) x04)))))
noncomputable def y08 : x1b := x13 (x1p 2 (x14 1))
  (x13 (x1p 3 (x4k (x0e)))
  (x13 (x6k (x17 (x01 (e2 x9s (x14 0) (x05 2)) (x0e))) (x0m 4) (x13 (x1p 5 (x4k (x0e)))
  (x13 (x6k (x17 (x01 (e2 x9s (x14 0) (x05 2)) (x0e))) (x0m 6) (x13 (x1p 7 (eIx (x1k 0 (e2 z7x (x05 4) (x05 2))) (e2 z7x (x05 6) (x05 2))))
  (x3f (x7v 5 (x01 (e2 x2w (e2 x9s (x05 7) (x05 2)) (eIx (x1k 1 (e2 z1x (x05 4) (x05 2))) (e2 z1x (x05 6) (x05 2)))) (x0e))))))
  (x3f (x7v 3 (x01 (x05 5) (x0e)))))))
  (x3g (x05 3))))
noncomputable def x18 : List D -> Option (D × Nat) := fnD 8 y08
theorem x1q : FnScope ["_law_one", "_law_other", "_law_many", "_law_made", "_law_here", "_law_row", "_law_there", "_law_first"] ["_law_one", "_law_other"] (x0c (top 37)) := ⟨rfl, rfl, rfl, by decide +kernel, rfl, by decide +kernel, by decide +kernel⟩
theorem y0e (B : Bt mg)  (a : At K mg "_law_couples" (top 37) ["_law_one", "_law_other"]) : Cal P w K mg base 1 "_law_couples" 2 x18 :=
  Cal.mkQ (k := 0) a x1q fun f cdv A outer s H E hr =>
    x06 (x0l (i := 2) x1q.nd rfl (Or.inl rfl) (x11 B.m_len (qv 1 rfl (Or.inl rfl))))
    (x06 (x0l (i := 3) x1q.nd rfl (Or.inl rfl) (x24 (x03)))
    (x06 (x2h PassesOwn.never rfl (x0t B.m_range (x00 (x5n (x11 B.m_len (qv 0 rfl (Or.inl rfl))) (x02 (qv 2 rfl (Or.inl rfl)))) (x03) x1a)) (x0k (i := 4) (show 0 <= 4 by decide) x1q.nd rfl (Or.inl rfl)) (x06 (x0l (i := 5) x1q.nd rfl (Or.inl rfl) (x24 (x03)))
    (x06 (x2h PassesOwn.never rfl (x0t B.m_range (x00 (x5n (x11 B.m_len (qv 0 rfl (Or.inl rfl))) (x02 (qv 2 rfl (Or.inl rfl)))) (x03) x1a)) (x0k (i := 6) (show 0 <= 6 by decide) x1q.nd rfl (Or.inl rfl)) (x06 (x0l (i := 7) x1q.nd rfl (Or.inl rfl) (x5b (x0w (qv 0 rfl (Or.inl rfl)) (y75 (x02 (qv 4 rfl (Or.inl rfl))) (x02 (qv 2 rfl (Or.inl rfl))))) (y75 (x02 (qv 6 rfl (Or.inl rfl))) (x02 (qv 2 rfl (Or.inl rfl))))))
    (x0d (x2z (x2k (qv 5 rfl (Or.inl rfl)) (x00 (x1m (x5n (x02 (qv 7 rfl (Or.inl rfl))) (x02 (qv 2 rfl (Or.inl rfl)))) (x5b (x0w (qv 1 rfl (Or.inl rfl)) (y0l (x02 (qv 4 rfl (Or.inl rfl))) (x02 (qv 2 rfl (Or.inl rfl))))) (y0l (x02 (qv 6 rfl (Or.inl rfl))) (x02 (qv 2 rfl (Or.inl rfl)))))) (x03) x1a))))))
    (x0d (x2z (x2k (qv 3 rfl (Or.inl rfl)) (x00 (x02 (qv 5 rfl (Or.inl rfl))) (x03) x04)))))))
    (x0d (x0n (x02 (qv 3 rfl (Or.inl rfl)))))))
noncomputable def x6n : x1b := x13 (x1p 1 (x4k (x0e)))
  (x13 (x6k (x17 (x01 (e2 x2w (x05 0) (eC (.int 2))) (x0e))) (x0m 2) (x13 (x1p 3 (x4k (x0e)))
  (x13 (x6k (x17 (x01 (e2 x2w (x05 0) (eC (.int 2))) (x0e))) (x0m 4) (x3f (x7v 3 (x01 (eIf (y8v (x37 (e2 dIn (eC (.int 0)) (x4n (x01 (x05 2) (x01 (x05 4) (x0e)))))) (x37 (e2 dEq (x05 2) (x05 4)))) (eB z7l (x01 (x05 2) (x01 (x05 4) (x0e)))) (e2 x2w (x05 0) (eC (.int 1)))) (x0e)))))
  (x3f (x7v 1 (x01 (x05 3) (x0e)))))))
  (x3g (x05 1)))
noncomputable def x0v : List D -> Option (D × Nat) := fnD 5 x6n
theorem x1h : FnScope ["_law_many", "_law_made", "_law_one", "_law_row", "_law_other"] ["_law_many"] (x0c (top 38)) := ⟨rfl, rfl, rfl, by decide +kernel, rfl, by decide +kernel, by decide +kernel⟩
theorem x6m (B : Bt mg)  (a : At K mg "_law_side_by_side" (top 38) ["_law_many"]) : Cal P w K mg base 1 "_law_side_by_side" 1 x0v :=
  Cal.mkQ (k := 0) a x1h fun f cdv A outer s H E hr =>
    x06 (x0l (i := 1) x1h.nd rfl (Or.inl rfl) (x24 (x03)))
    (x06 (x2h PassesOwn.never rfl (x0t B.m_range (x00 (x1m (x02 (qv 0 rfl (Or.inl rfl))) (x0a)) (x03) x1a)) (x0k (i := 2) (show 0 <= 2 by decide) x1h.nd rfl (Or.inl rfl)) (x06 (x0l (i := 3) x1h.nd rfl (Or.inl rfl) (x24 (x03)))
    (x06 (x2h PassesOwn.never rfl (x0t B.m_range (x00 (x1m (x02 (qv 0 rfl (Or.inl rfl))) (x0a)) (x03) x1a)) (x0k (i := 4) (show 0 <= 4 by decide) x1h.nd rfl (Or.inl rfl)) (x0d (x2z (x2k (qv 3 rfl (Or.inl rfl)) (x00 (y1v (z0l (y34 (z8a hr (x0a) (x3o (x00 (x02 (qv 2 rfl (Or.inl rfl))) (x00 (x02 (qv 4 rfl (Or.inl rfl))) (x03) x04) x04))) (y4k (x9b hr (x02 (qv 2 rfl (Or.inl rfl))) (x02 (qv 4 rfl (Or.inl rfl))))))) (y7w rfl B.m_max PyProof.Rows.boot_max (x00 (x02 (qv 2 rfl (Or.inl rfl))) (x00 (x02 (qv 4 rfl (Or.inl rfl))) (x03) x04) x04)) (x1m (x02 (qv 0 rfl (Or.inl rfl))) (x0a))) (x03) y1n)))))
    (x0d (x2z (x2k (qv 1 rfl (Or.inl rfl)) (x00 (x02 (qv 3 rfl (Or.inl rfl))) (x03) x04)))))))
    (x0d (x0n (x02 (qv 1 rfl (Or.inl rfl))))))
noncomputable def x9t : x1b := x13 (x1p 2 (x0g x0b 3 (x01 (x05 0) (x01 (x05 1) (x01 (eC (.int 9)) (x0e))))))
  (x13 (sIf (x37 (e2 dLt (x05 2) (eC (.int 3)))) (x3g (x0g x0y 1 (x01 (e2 x2w (eC (.int 1)) (x0g x0b 3 (x01 (x05 0) (x01 (e2 x2w (x05 1) (eC (.int 1))) (x01 (eC (.int 5)) (x0e)))))) (x0e)))) (x8u))
  (x13 (sIf (x37 (e2 dLt (x05 2) (eC (.int 5)))) (x3g (x0g x18 2 (x01 (x0g x0y 1 (x01 (eC (.int 2)) (x0e))) (x01 (x0g x0y 1 (x01 (eIx (x4k (x01 (eC (.int 2)) (x01 (eC (.int 3)) (x01 (eC (.int 4)) (x0e))))) (x0g x0b 3 (x01 (x05 0) (x01 (e2 x2w (x05 1) (eC (.int 1))) (x01 (eC (.int 3)) (x0e)))))) (x0e))) (x0e))))) (x8u))
  (x13 (sIf (x37 (e2 dLt (x05 2) (eC (.int 7)))) (x3g (x0g x0v 1 (x01 (x0g x0b 3 (x01 (x05 0) (x01 (e2 x2w (x05 1) (eC (.int 1))) (x01 (eC (.int 5)) (x0e))))) (x0e)))) (x8u))
  (x13 (sIf (x37 (e2 dEq (x05 2) (eC (.int 7)))) (x3g (x0g x18 2 (x01 (x0g x0y 1 (x01 (eC (.int 2)) (x0e))) (x01 (x0g x18 2 (x01 (x0g x0y 1 (x01 (eC (.int 2)) (x0e))) (x01 (x0g x0y 1 (x01 (eC (.int 2)) (x0e))) (x0e)))) (x0e))))) (x8u))
  (x13 (x1p 3 (x4k (x01 (x4k (x01 (eC (.int 0)) (x01 (eC (.int 1)) (x01 (eC (.int 2)) (x01 (eC (.int 3)) (x01 (eC (.int 4)) (x0e))))))) (x01 (x4k (x01 (eC (.int 1)) (x01 (eC (.int 1)) (x01 (eC (.int 2)) (x01 (eC (.int 4)) (x01 (eC (.int 4)) (x0e))))))) (x01 (x4k (x01 (eC (.int 2)) (x01 (eC (.int 2)) (x01 (eC (.int 2)) (x01 (eC (.int 4)) (x01 (eC (.int 4)) (x0e))))))) (x01 (x4k (x01 (eC (.int 3)) (x01 (eC (.int 4)) (x01 (eC (.int 4)) (x01 (eC (.int 3)) (x01 (eC (.int 4)) (x0e))))))) (x01 (x4k (x01 (eC (.int 4)) (x01 (eC (.int 4)) (x01 (eC (.int 4)) (x01 (eC (.int 4)) (x01 (eC (.int 4)) (x0e))))))) (x0e))))))))
  (x3g (x05 3)))))))
noncomputable def x48 : List D -> Option (D × Nat) := fnD 4 x9t
theorem x5h : FnScope ["_law_script", "_law_at", "_law_kind", "_law_rows"] ["_law_script", "_law_at"] (x0c (top 39)) := ⟨rfl, rfl, rfl, by decide +kernel, rfl, by decide +kernel, by decide +kernel⟩
theorem y4m (B : Bt mg) (c__law_pick : Cal P w K mg base 2 "_law_pick" 3 x0b) (c__law_chain : Cal P w K mg base 1 "_law_chain" 1 x0y) (c__law_couples : Cal P w K mg base 1 "_law_couples" 2 x18) (c__law_side_by_side : Cal P w K mg base 1 "_law_side_by_side" 1 x0v) (a : At K mg "_law_base" (top 39) ["_law_script", "_law_at"]) : Cal P w K mg base 3 "_law_base" 2 x48 :=
  Cal.mkQ (k := 2) a x5h fun f cdv A outer s H E hr =>
    x06 (x0l (i := 2) x5h.nd rfl (Or.inl rfl) (x09 c__law_pick hr (by decide) (x00 (x02 (qv 0 rfl (Or.inl rfl))) (x00 (x02 (qv 1 rfl (Or.inl rfl))) (x00 (x0a) (x03) x08) x04) x04)))
    (x06 (x41 (y5q (x02 (qv 2 rfl (Or.inl rfl))) (x0a)) (x0d (x0n (x09 c__law_chain hr (by decide) (x00 (x1m (x0a) (x09 c__law_pick hr (by decide) (x00 (x02 (qv 0 rfl (Or.inl rfl))) (x00 (x1m (x02 (qv 1 rfl (Or.inl rfl))) (x0a)) (x00 (x0a) (x03) x08) x1a) x04))) (x03) x1a)))) (x39))
    (x06 (x41 (y5q (x02 (qv 2 rfl (Or.inl rfl))) (x0a)) (x0d (x0n (x09 c__law_couples hr (by decide) (x00 (x09 c__law_chain hr (by decide) (x00 (x0a) (x03) x08)) (x00 (x09 c__law_chain hr (by decide) (x00 (x5b (x24 (x00 (x0a) (x00 (x0a) (x00 (x0a) (x03) x08) x08) x08)) (x09 c__law_pick hr (by decide) (x00 (x02 (qv 0 rfl (Or.inl rfl))) (x00 (x1m (x02 (qv 1 rfl (Or.inl rfl))) (x0a)) (x00 (x0a) (x03) x08) x1a) x04))) (x03) x0s)) (x03) x0o) x0o)))) (x39))
    (x06 (x41 (y5q (x02 (qv 2 rfl (Or.inl rfl))) (x0a)) (x0d (x0n (x09 c__law_side_by_side hr (by decide) (x00 (x09 c__law_pick hr (by decide) (x00 (x02 (qv 0 rfl (Or.inl rfl))) (x00 (x1m (x02 (qv 1 rfl (Or.inl rfl))) (x0a)) (x00 (x0a) (x03) x08) x1a) x04)) (x03) x0o)))) (x39))
    (x06 (x41 (x9b hr (x02 (qv 2 rfl (Or.inl rfl))) (x0a)) (x0d (x0n (x09 c__law_couples hr (by decide) (x00 (x09 c__law_chain hr (by decide) (x00 (x0a) (x03) x08)) (x00 (x09 c__law_couples hr (by decide) (x00 (x09 c__law_chain hr (by decide) (x00 (x0a) (x03) x08)) (x00 (x09 c__law_chain hr (by decide) (x00 (x0a) (x03) x08)) (x03) x0o) x0o)) (x03) x0o) x0o)))) (x39))
    (x06 (x0l (i := 3) x5h.nd rfl (Or.inl rfl) (x24 (x00 (x24 (x00 (x0a) (x00 (x0a) (x00 (x0a) (x00 (x0a) (x00 (x0a) (x03) x08) x08) x08) x08) x08)) (x00 (x24 (x00 (x0a) (x00 (x0a) (x00 (x0a) (x00 (x0a) (x00 (x0a) (x03) x08) x08) x08) x08) x08)) (x00 (x24 (x00 (x0a) (x00 (x0a) (x00 (x0a) (x00 (x0a) (x00 (x0a) (x03) x08) x08) x08) x08) x08)) (x00 (x24 (x00 (x0a) (x00 (x0a) (x00 (x0a) (x00 (x0a) (x00 (x0a) (x03) x08) x08) x08) x08) x08)) (x00 (x24 (x00 (x0a) (x00 (x0a) (x00 (x0a) (x00 (x0a) (x00 (x0a) (x03) x08) x08) x08) x08) x08)) (x03) x9c) x9c) x9c) x9c) x9c)))
    (x0d (x0n (x02 (qv 3 rfl (Or.inl rfl))))))))))
noncomputable def x7o : x1b := x13 (x1p 2 (x0g x48 2 (x01 (x05 0) (x01 (x05 1) (x0e)))))
  (x13 (x1p 3 (x8m (x01 (x14 2) (x0e))))
  (x13 (x1p 4 (x33 1 (x17 (x01 (x14 2) (x0e))) (x0m 8) (x2o) (z51 3 (x01 (x0g x0b 3 (x01 (x05 0) (x01 (e2 x2w (e2 x2w (x05 1) (eC (.int 2))) (x05 8)) (x01 (x14 3) (x0e))))) (x0e))) false))
  (x13 (x1p 5 (x33 1 (x5d (x05 2)) (x0m 8) (x2o) (x9a (x4k (x01 (eC (.int 0)) (x0e))) (x14 2)) true))
  (x13 (x6k (x17 (x01 (x14 2) (x0e))) (x0m 6) (x6k (x17 (x01 (x14 2) (x0e))) (x0m 7) (y68 5 (qIx 4 (y6p 6)) (qIx 4 (y6p 7)) (x1k 4 (eIx (x1k 2 (x05 6)) (x05 7))))))
  (x3g (x2e (x01 (x33 1 (x5d (x05 5)) (x0m 8) (x2o) (x2e (x01 (x05 8) (x0e))) false) (x0e))))))))
noncomputable def x3n : List D -> Option (D × Nat) := fnD 8 x7o
theorem x1y : FnScope ["_law_script", "_law_at", "_law_base_here", "_law_left", "_law_name", "_law_made", "_law_one", "_law_other"] ["_law_script", "_law_at"] (x0c (top 40)) := ⟨rfl, rfl, rfl, by decide +kernel, rfl, by decide +kernel, by decide +kernel⟩
theorem y19 (B : Bt mg) (c__law_base : Cal P w K mg base 3 "_law_base" 2 x48) (c__law_pick : Cal P w K mg base 2 "_law_pick" 3 x0b) (a : At K mg "_law_ladder" (top 40) ["_law_script", "_law_at"]) : Cal P w K mg base 4 "_law_ladder" 2 x3n :=
  Cal.mkQ (k := 3) a x1y fun f cdv A outer s H E hr =>
    x06 (x0l (i := 2) x1y.nd rfl (Or.inr rfl) (x09 c__law_base hr (by decide) (x00 (x02 (qv 0 rfl (Or.inr (Or.inl rfl)))) (x00 (x02 (qv 1 rfl (Or.inr (Or.inl rfl)))) (x03) x04) x04)))
    (x06 (x0l (i := 3) x1y.nd rfl (Or.inr rfl) (y5k rfl B.m_list PyProof.Rows.boot_list B.m_range (x00 (x11 B.m_len (qv 2 rfl (Or.inr (Or.inl rfl)))) (x03) x0o)))
    (x06 (x96 (i := 4) (k := 1) (N' := ["_law_script", "_law_at", "_law_base_here", "_law_left", "_law_name", "_law_made", "_law_one", "_law_other", "_law_k"]) false x1y.nd rfl (Or.inl rfl) rfl rfl ⟨rfl, by decide +kernel, rfl, rfl, rfl⟩ (x0t B.m_range (x00 (x11 B.m_len (qv 2 rfl (Or.inr (Or.inl rfl)))) (x03) x0o)) (fun _ _ _ _ => x0k (i := 8) (show 8 <= 8 by decide) (show List.Nodup (["_law_script", "_law_at", "_law_base_here", "_law_left", "_law_name", "_law_made", "_law_one", "_law_other", "_law_k"] : List Str) by decide +kernel) rfl (Or.inl rfl) (Or.inr rfl)) (fun _ _ _ _ => x2s) (fun _ _ _ _ => z7w (qv 3) (x00 (x09 c__law_pick hr (by decide) (x00 (x02 (qv 0)) (x00 (x1m (x1m (x02 (qv 1)) (x0a)) (x02 (qv 8))) (x00 (x11 B.m_len (qv 3)) (x03) x0o) x1a) x04)) (x03) x0o)))
    (x06 (x96 (i := 5) (k := 1) (N' := ["_law_script", "_law_at", "_law_base_here", "_law_left", "_law_name", "_law_made", "_law_one", "_law_other", "_law_row"]) true x1y.nd rfl (Or.inl rfl) rfl rfl ⟨rfl, by decide +kernel, rfl, rfl, rfl⟩ (x38 (x02 (qv 2 rfl (Or.inr (Or.inl rfl))))) (fun _ _ _ _ => x0k (i := 8) (show 8 <= 8 by decide) (show List.Nodup (["_law_script", "_law_at", "_law_base_here", "_law_left", "_law_name", "_law_made", "_law_one", "_law_other", "_law_row"] : List Str) by decide +kernel) rfl (Or.inl rfl) (Or.inr rfl)) (fun _ _ _ _ => x2s) (fun _ _ _ _ => y1m (x24 (x00 (x0a) (x03) x08)) (x11 B.m_len (qv 2))))
    (x06 (x2h PassesOwn.never rfl (x0t B.m_range (x00 (x11 B.m_len (qv 2 rfl (Or.inr (Or.inl rfl)))) (x03) x0o)) (x0k (i := 6) (show 0 <= 6 by decide) x1y.nd rfl (Or.inl rfl)) (x0d (x2h PassesOwn.never rfl (x0t B.m_range (x00 (x11 B.m_len (qv 2 rfl (Or.inr (Or.inl rfl)))) (x03) x0o)) (x0k (i := 7) (show 0 <= 7 by decide) x1y.nd rfl (Or.inl rfl)) (x0d (z04 (qv 5 rfl (Or.inl rfl)) (z5h (qv 4 rfl (Or.inl rfl)) (y57 (qv 6 rfl (Or.inl rfl)))) (z5h (qv 4 rfl (Or.inl rfl)) (y57 (qv 7 rfl (Or.inl rfl)))) (x0w (qv 4 rfl (Or.inl rfl)) (x5b (x0w (qv 2 rfl (Or.inr (Or.inl rfl))) (x02 (qv 6 rfl (Or.inl rfl)))) (x02 (qv 7 rfl (Or.inl rfl))))))))))
    (x0d (x0n (x22 B.m_tuple PyProof.Rows.boot_tuple (x00 (x3b (k := 1) (N' := ["_law_script", "_law_at", "_law_base_here", "_law_left", "_law_name", "_law_made", "_law_one", "_law_other", "_law_row"]) false rfl ⟨rfl, by decide +kernel, rfl, rfl, rfl⟩ (x38 (x02 (qv 5 rfl (Or.inl rfl)))) (fun _ _ _ _ => x0k (i := 8) (show 8 <= 8 by decide) (show List.Nodup (["_law_script", "_law_at", "_law_base_here", "_law_left", "_law_name", "_law_made", "_law_one", "_law_other", "_law_row"] : List Str) by decide +kernel) rfl (Or.inl rfl) (Or.inr rfl)) (fun _ _ _ _ => x2s) (fun _ _ _ _ => x22 B.m_tuple PyProof.Rows.boot_tuple (x00 (x02 (qv 8)) (x03) x04))) (x03) x3c))))))))
noncomputable def y0i : x1b := x3g (eIx (x33 1 (x17 (x01 (x14 0) (x0e))) (x0m 1) (x37 (e2 dEq (x6l (x01 (x1k 0 (x05 1)) (x0e))) (x8m (x01 (x14 0) (x0e))))) (x05 1) false) (eC (.int 0)))
noncomputable def x16 : List D -> Option (D × Nat) := fnD 1 y0i
theorem y3o : FnScope ["_law_ladder_here"] ["_law_ladder_here"] (x0c (top 41)) := ⟨rfl, rfl, rfl, by decide +kernel, rfl, by decide +kernel, by decide +kernel⟩
theorem y67 (B : Bt mg)  (a : At K mg "_law_low" (top 41) ["_law_ladder_here"]) : Cal P w K mg base 1 "_law_low" 1 x16 :=
  Cal.mkQ (k := 0) a y3o fun f cdv A outer s H E hr =>
    x0d (x0n (x5b (x3b (k := 1) (N' := ["_law_ladder_here", "_law_worth"]) false rfl ⟨rfl, by decide +kernel, rfl, rfl, rfl⟩ (x0t B.m_range (x00 (x11 B.m_len (qv 0 rfl (Or.inr (Or.inl rfl)))) (x03) x0o)) (fun _ _ _ _ => x0k (i := 1) (show 1 <= 1 by decide) (show List.Nodup (["_law_ladder_here", "_law_worth"] : List Str) by decide +kernel) rfl (Or.inl rfl) (Or.inr rfl)) (fun _ _ _ _ => x7g (x9b hr (y31 B.m_list PyProof.Rows.boot_list (x00 (x0w (qv 0) (x02 (qv 1))) (x03) x0s)) (y5k rfl B.m_list PyProof.Rows.boot_list B.m_range (x00 (x11 B.m_len (qv 0)) (x03) x0o)))) (fun _ _ _ _ => x02 (qv 1))) (x0a)))
noncomputable def y00 : x1b := x13 (x1p 2 (x0g x16 1 (x01 (x05 0) (x0e))))
  (x13 (x6k (x5d (x05 1)) (x0m 3) (x1p 2 (eIx (x1k 0 (x05 2)) (x05 3))))
  (x3g (x05 2)))
noncomputable def x3a : List D -> Option (D × Nat) := fnD 4 y00
theorem x4e : FnScope ["_law_ladder_here", "_law_worths", "_law_here", "_law_worth"] ["_law_ladder_here", "_law_worths"] (x0c (top 42)) := ⟨rfl, rfl, rfl, by decide +kernel, rfl, by decide +kernel, by decide +kernel⟩
theorem y4h (B : Bt mg) (c__law_low : Cal P w K mg base 1 "_law_low" 1 x16) (a : At K mg "_law_join" (top 42) ["_law_ladder_here", "_law_worths"]) : Cal P w K mg base 2 "_law_join" 2 x3a :=
  Cal.mkQ (k := 1) a x4e fun f cdv A outer s H E hr =>
    x06 (x0l (i := 2) x4e.nd rfl (Or.inl rfl) (x09 c__law_low hr (by decide) (x00 (x02 (qv 0 rfl (Or.inl rfl))) (x03) x04)))
    (x06 (x2h PassesOwn.never rfl (x38 (x02 (qv 1 rfl (Or.inl rfl)))) (x0k (i := 3) (show 0 <= 3 by decide) x4e.nd rfl (Or.inl rfl)) (x0d (x0l (i := 2) x4e.nd rfl (Or.inl rfl) (x5b (x0w (qv 0 rfl (Or.inl rfl)) (x02 (qv 2 rfl (Or.inl rfl)))) (x02 (qv 3 rfl (Or.inl rfl)))))))
    (x0d (x0n (x02 (qv 2 rfl (Or.inl rfl))))))
noncomputable def x8g : x1b := x3g (x33 1 (x17 (x01 (x14 0) (x0e))) (x0m 2) (x37 (e2 dEq (eIx (x1k 0 (x05 2)) (x05 1)) (x05 1))) (x05 2) false)
noncomputable def x2c : List D -> Option (D × Nat) := fnD 2 x8g
theorem y24 : FnScope ["_law_ladder_here", "_law_worth"] ["_law_ladder_here", "_law_worth"] (x0c (top 43)) := ⟨rfl, rfl, rfl, by decide +kernel, rfl, by decide +kernel, by decide +kernel⟩
theorem y39 (B : Bt mg)  (a : At K mg "_law_under" (top 43) ["_law_ladder_here", "_law_worth"]) : Cal P w K mg base 1 "_law_under" 2 x2c :=
  Cal.mkQ (k := 0) a y24 fun f cdv A outer s H E hr =>
    x0d (x0n (x3b (k := 1) (N' := ["_law_ladder_here", "_law_worth", "_law_one"]) false rfl ⟨rfl, by decide +kernel, rfl, rfl, rfl⟩ (x0t B.m_range (x00 (x11 B.m_len (qv 0 rfl (Or.inr (Or.inl rfl)))) (x03) x0o)) (fun _ _ _ _ => x0k (i := 2) (show 2 <= 2 by decide) (show List.Nodup (["_law_ladder_here", "_law_worth", "_law_one"] : List Str) by decide +kernel) rfl (Or.inl rfl) (Or.inr rfl)) (fun _ _ _ _ => x7g (x9b hr (x5b (x0w (qv 0) (x02 (qv 2))) (x02 (qv 1))) (x02 (qv 1)))) (fun _ _ _ _ => x02 (qv 2))))
noncomputable def x9k : x1b := x13 (x1p 3 (x0g x16 1 (x01 (x05 2) (x0e))))
  (x13 (x1p 4 (x4k (x0e)))
  (x13 (x6k (x17 (x01 (x14 2) (x0e))) (x0m 5) (x3f (x7v 4 (x01 (eIx (x4k (x01 (x05 3) (x01 (x05 5) (x01 (x0g x0b 3 (x01 (x05 0) (x01 (e2 x2w (x05 1) (x05 5)) (x01 (x14 2) (x0e))))) (x0e))))) (x0g x0b 3 (x01 (x05 0) (x01 (e2 x2w (e2 x2w (x05 1) (eC (.int 8))) (x05 5)) (x01 (eC (.int 3)) (x0e)))))) (x0e)))))
  (x13 (x1p 6 (x4k (x0e)))
  (x13 (x6k (x17 (x01 (x14 2) (x0e))) (x0m 5) (x3f (x7v 6 (x01 (x0g x3a 2 (x01 (x05 2) (x01 (x33 1 (x5d (x0g x2c 2 (x01 (x05 2) (x01 (x05 5) (x0e))))) (x0m 7) (x2o) (x1k 4 (x05 7)) false) (x0e)))) (x0e)))))
  (x3g (x2e (x01 (x05 6) (x0e))))))))
noncomputable def x2u : List D -> Option (D × Nat) := fnD 7 x9k
theorem x3e : FnScope ["_law_script", "_law_at", "_law_ladder_here", "_law_low_here", "_law_drawn", "_law_worth", "_law_made"] ["_law_script", "_law_at", "_law_ladder_here"] (x0c (top 44)) := ⟨rfl, rfl, rfl, by decide +kernel, rfl, by decide +kernel, by decide +kernel⟩
theorem y3r (B : Bt mg) (c__law_low : Cal P w K mg base 1 "_law_low" 1 x16) (c__law_pick : Cal P w K mg base 2 "_law_pick" 3 x0b) (c__law_join : Cal P w K mg base 2 "_law_join" 2 x3a) (c__law_under : Cal P w K mg base 1 "_law_under" 2 x2c) (a : At K mg "_law_rule" (top 44) ["_law_script", "_law_at", "_law_ladder_here"]) : Cal P w K mg base 3 "_law_rule" 3 x2u :=
  Cal.mkQ (k := 2) a x3e fun f cdv A outer s H E hr =>
    x06 (x0l (i := 3) x3e.nd rfl (Or.inl rfl) (x09 c__law_low hr (by decide) (x00 (x02 (qv 2 rfl (Or.inl rfl))) (x03) x04)))
    (x06 (x0l (i := 4) x3e.nd rfl (Or.inr rfl) (x24 (x03)))
    (x06 (x2h PassesOwn.never rfl (x0t B.m_range (x00 (x11 B.m_len (qv 2 rfl (Or.inl rfl))) (x03) x0o)) (x0k (i := 5) (show 0 <= 5 by decide) x3e.nd rfl (Or.inl rfl)) (x0d (x2z (x2k (qv 4 rfl (Or.inr (Or.inl rfl))) (x00 (x5b (x24 (x00 (x02 (qv 3 rfl (Or.inl rfl))) (x00 (x02 (qv 5 rfl (Or.inl rfl))) (x00 (x09 c__law_pick hr (by decide) (x00 (x02 (qv 0 rfl (Or.inl rfl))) (x00 (x1m (x02 (qv 1 rfl (Or.inl rfl))) (x02 (qv 5 rfl (Or.inl rfl)))) (x00 (x11 B.m_len (qv 2 rfl (Or.inl rfl))) (x03) x0o) x1a) x04)) (x03) x0o) x04) x04)) (x09 c__law_pick hr (by decide) (x00 (x02 (qv 0 rfl (Or.inl rfl))) (x00 (x1m (x1m (x02 (qv 1 rfl (Or.inl rfl))) (x0a)) (x02 (qv 5 rfl (Or.inl rfl)))) (x00 (x0a) (x03) x08) x1a) x04))) (x03) x0s)))))
    (x06 (x0l (i := 6) x3e.nd rfl (Or.inl rfl) (x24 (x03)))
    (x06 (x2h PassesOwn.never rfl (x0t B.m_range (x00 (x11 B.m_len (qv 2 rfl (Or.inl rfl))) (x03) x0o)) (x0k (i := 5) (show 0 <= 5 by decide) x3e.nd rfl (Or.inl rfl)) (x0d (x2z (x2k (qv 6 rfl (Or.inl rfl)) (x00 (x09 c__law_join hr (by decide) (x00 (x02 (qv 2 rfl (Or.inl rfl))) (x00 (x3b (k := 1) (N' := ["_law_script", "_law_at", "_law_ladder_here", "_law_low_here", "_law_drawn", "_law_worth", "_law_made", "_law_one"]) false rfl ⟨rfl, by decide +kernel, rfl, rfl, rfl⟩ (x38 (x09 c__law_under hr (by decide) (x00 (x02 (qv 2 rfl (Or.inl rfl))) (x00 (x02 (qv 5 rfl (Or.inl rfl))) (x03) x04) x04))) (fun _ _ _ _ => x0k (i := 7) (show 7 <= 7 by decide) (show List.Nodup (["_law_script", "_law_at", "_law_ladder_here", "_law_low_here", "_law_drawn", "_law_worth", "_law_made", "_law_one"] : List Str) by decide +kernel) rfl (Or.inl rfl) (Or.inr rfl)) (fun _ _ _ _ => x2s) (fun _ _ _ _ => x0w (qv 4) (x02 (qv 7)))) (x03) x3c) x04)) (x03) x0o)))))
    (x0d (x0n (x22 B.m_tuple PyProof.Rows.boot_tuple (x00 (x02 (qv 6 rfl (Or.inl rfl))) (x03) x04))))))))
noncomputable abbrev x5l : x1b := x13 (x1p 6 (e2 x2w (eC (.int 1)) (x0g x0b 3 (x01 (x05 0) (x01 (e2 x2w (e2 x2w (x05 1) (eC (.int 1))) (x05 5)) (x01 (eC (.int 4)) (x0e)))))))
  (x13 (x1p 7 (x4k (x0e)))
  (x13 (x6k (x17 (x01 (x0g x0b 3 (x01 (x05 0) (x01 (e2 x2w (e2 x2w (x05 1) (eC (.int 4))) (x05 5)) (x01 (eC (.int 6)) (x0e))))) (x0e))) (x0m 8) (x13 (x1p 9 (e2 x2w (e2 x2w (e2 x2w (x05 1) (eC (.int 10))) (e2 x9s (eC (.int 120)) (x05 5))) (e2 x9s (eC (.int 23)) (x05 8))))
  (x13 (x1p 10 (x0g x2u 3 (x01 (x05 0) (x01 (e2 x2w (x05 9) (eC (.int 4))) (x01 (x05 2) (x0e))))))
  (x13 (sIf (x37 (e2 dEq (x0g x0b 3 (x01 (x05 0) (x01 (e2 x2w (x05 9) (eC (.int 2))) (x01 (eC (.int 3)) (x0e))))) (eC (.int 0)))) (x1p 10 (x0g x0b 3 (x01 (x05 0) (x01 (e2 x2w (x05 9) (eC (.int 3))) (x01 (x05 3) (x0e)))))) (x8u))
  (x3f (x7v 7 (x01 (x4n (x01 (x0g x0b 3 (x01 (x05 0) (x01 (x05 9) (x01 (x05 6) (x0e))))) (x01 (x0g x0b 3 (x01 (x05 0) (x01 (e2 x2w (x05 9) (eC (.int 1))) (x01 (x05 6) (x0e))))) (x01 (x05 10) (x0e))))) (x0e))))))))
  (x3f (x7v 4 (x01 (x4n (x01 (x05 6) (x01 (x2e (x01 (x05 7) (x0e))) (x0e)))) (x0e))))))
noncomputable abbrev x40 : x1b := x13 (x1p 9 (e2 x2w (e2 x2w (e2 x2w (x05 1) (eC (.int 10))) (e2 x9s (eC (.int 120)) (x05 5))) (e2 x9s (eC (.int 23)) (x05 8))))
  (x13 (x1p 10 (x0g x2u 3 (x01 (x05 0) (x01 (e2 x2w (x05 9) (eC (.int 4))) (x01 (x05 2) (x0e))))))
  (x13 (sIf (x37 (e2 dEq (x0g x0b 3 (x01 (x05 0) (x01 (e2 x2w (x05 9) (eC (.int 2))) (x01 (eC (.int 3)) (x0e))))) (eC (.int 0)))) (x1p 10 (x0g x0b 3 (x01 (x05 0) (x01 (e2 x2w (x05 9) (eC (.int 3))) (x01 (x05 3) (x0e)))))) (x8u))
  (x3f (x7v 7 (x01 (x4n (x01 (x0g x0b 3 (x01 (x05 0) (x01 (x05 9) (x01 (x05 6) (x0e))))) (x01 (x0g x0b 3 (x01 (x05 0) (x01 (e2 x2w (x05 9) (eC (.int 1))) (x01 (x05 6) (x0e))))) (x01 (x05 10) (x0e))))) (x0e))))))
noncomputable def x6f : x1b := x13 (x1p 3 (e2 x2w (eC (.int 1)) (x0g x0b 3 (x01 (x05 0) (x01 (x05 1) (x01 (eC (.int 3)) (x0e)))))))
  (x13 (x1p 4 (x4k (x0e)))
  (x13 (x6k (x17 (x01 (x05 3) (x0e))) (x0m 5) (x13 (x1p 6 (e2 x2w (eC (.int 1)) (x0g x0b 3 (x01 (x05 0) (x01 (e2 x2w (e2 x2w (x05 1) (eC (.int 1))) (x05 5)) (x01 (eC (.int 4)) (x0e)))))))
  (x13 (x1p 7 (x4k (x0e)))
  (x13 (x6k (x17 (x01 (x0g x0b 3 (x01 (x05 0) (x01 (e2 x2w (e2 x2w (x05 1) (eC (.int 4))) (x05 5)) (x01 (eC (.int 6)) (x0e))))) (x0e))) (x0m 8) (x13 (x1p 9 (e2 x2w (e2 x2w (e2 x2w (x05 1) (eC (.int 10))) (e2 x9s (eC (.int 120)) (x05 5))) (e2 x9s (eC (.int 23)) (x05 8))))
  (x13 (x1p 10 (x0g x2u 3 (x01 (x05 0) (x01 (e2 x2w (x05 9) (eC (.int 4))) (x01 (x05 2) (x0e))))))
  (x13 (sIf (x37 (e2 dEq (x0g x0b 3 (x01 (x05 0) (x01 (e2 x2w (x05 9) (eC (.int 2))) (x01 (eC (.int 3)) (x0e))))) (eC (.int 0)))) (x1p 10 (x0g x0b 3 (x01 (x05 0) (x01 (e2 x2w (x05 9) (eC (.int 3))) (x01 (x05 3) (x0e)))))) (x8u))
  (x3f (x7v 7 (x01 (x4n (x01 (x0g x0b 3 (x01 (x05 0) (x01 (x05 9) (x01 (x05 6) (x0e))))) (x01 (x0g x0b 3 (x01 (x05 0) (x01 (e2 x2w (x05 9) (eC (.int 1))) (x01 (x05 6) (x0e))))) (x01 (x05 10) (x0e))))) (x0e))))))))
  (x3f (x7v 4 (x01 (x4n (x01 (x05 6) (x01 (x2e (x01 (x05 7) (x0e))) (x0e)))) (x0e))))))))
  (x3g (x2e (x01 (x05 4) (x0e))))))
noncomputable def x35 : List D -> Option (D × Nat) := fnD 11 x6f
theorem x12 : FnScope ["_law_script", "_law_at", "_law_ladder_here", "_law_houses", "_law_made", "_law_j", "_law_places", "_law_ways", "_law_k", "_law_base_here", "_law_rule_here"] ["_law_script", "_law_at", "_law_ladder_here"] (x0c (top 47)) := ⟨rfl, rfl, rfl, by decide +kernel, rfl, by decide +kernel, by decide +kernel⟩
theorem y0a (B : Bt mg) (c__law_pick : Cal P w K mg base 2 "_law_pick" 3 x0b) (c__law_rule : Cal P w K mg base 3 "_law_rule" 3 x2u) (a : At K mg "_law_program" (top 47) ["_law_script", "_law_at", "_law_ladder_here"]) : Cal P w K mg base 4 "_law_program" 3 x35 :=
  Cal.mkQ (k := 3) a x12 fun f cdv A outer s H E hr =>
    x06 (x0l (i := 3) x12.nd rfl (Or.inl rfl) (x1m (x0a) (x09 c__law_pick hr (by decide) (x00 (x02 (qv 0 rfl (Or.inl rfl))) (x00 (x02 (qv 1 rfl (Or.inl rfl))) (x00 (x0a) (x03) x08) x04) x04))))
    (x06 (x0l (i := 4) x12.nd rfl (Or.inl rfl) (x24 (x03)))
    (x06 (x2h PassesOwn.never rfl (x0t B.m_range (x00 (x02 (qv 3 rfl (Or.inl rfl))) (x03) x04)) (x0k (i := 5) (show 0 <= 5 by decide) x12.nd rfl (Or.inl rfl)) (x06 (x0l (i := 6) x12.nd rfl (Or.inl rfl) (x1m (x0a) (x09 c__law_pick hr (by decide) (x00 (x02 (qv 0 rfl (Or.inl rfl))) (x00 (x1m (x1m (x02 (qv 1 rfl (Or.inl rfl))) (x0a)) (x02 (qv 5 rfl (Or.inl rfl)))) (x00 (x0a) (x03) x08) x1a) x04))))
    (x06 (x0l (i := 7) x12.nd rfl (Or.inl rfl) (x24 (x03)))
    (x06 (x2h PassesOwn.never rfl (x0t B.m_range (x00 (x09 c__law_pick hr (by decide) (x00 (x02 (qv 0 rfl (Or.inl rfl))) (x00 (x1m (x1m (x02 (qv 1 rfl (Or.inl rfl))) (x0a)) (x02 (qv 5 rfl (Or.inl rfl)))) (x00 (x0a) (x03) x08) x1a) x04)) (x03) x0o)) (x0k (i := 8) (show 0 <= 8 by decide) x12.nd rfl (Or.inl rfl)) (x06 (x0l (i := 9) x12.nd rfl (Or.inl rfl) (x1m (x1m (x1m (x02 (qv 1 rfl (Or.inl rfl))) (x0a)) (x5n (x0a) (x02 (qv 5 rfl (Or.inl rfl))))) (x5n (x0a) (x02 (qv 8 rfl (Or.inl rfl))))))
    (x06 (x0l (i := 10) x12.nd rfl (Or.inl rfl) (x09 c__law_rule hr (by decide) (x00 (x02 (qv 0 rfl (Or.inl rfl))) (x00 (x1m (x02 (qv 9 rfl (Or.inl rfl))) (x0a)) (x00 (x02 (qv 2 rfl (Or.inl rfl))) (x03) x04) x1a) x04)))
    (x06 (x41 (x9b hr (x09 c__law_pick hr (by decide) (x00 (x02 (qv 0 rfl (Or.inl rfl))) (x00 (x1m (x02 (qv 9 rfl (Or.inl rfl))) (x0a)) (x00 (x0a) (x03) x08) x1a) x04)) (x0a)) (x0d (x0l (i := 10) x12.nd rfl (Or.inl rfl) (x09 c__law_pick hr (by decide) (x00 (x02 (qv 0 rfl (Or.inl rfl))) (x00 (x1m (x02 (qv 9 rfl (Or.inl rfl))) (x0a)) (x00 (x02 (qv 3 rfl (Or.inl rfl))) (x03) x04) x1a) x04)))) (x39))
    (x0d (x2z (x2k (qv 7 rfl (Or.inl rfl)) (x00 (x3o (x00 (x09 c__law_pick hr (by decide) (x00 (x02 (qv 0 rfl (Or.inl rfl))) (x00 (x02 (qv 9 rfl (Or.inl rfl))) (x00 (x02 (qv 6 rfl (Or.inl rfl))) (x03) x04) x04) x04)) (x00 (x09 c__law_pick hr (by decide) (x00 (x02 (qv 0 rfl (Or.inl rfl))) (x00 (x1m (x02 (qv 9 rfl (Or.inl rfl))) (x0a)) (x00 (x02 (qv 6 rfl (Or.inl rfl))) (x03) x04) x1a) x04)) (x00 (x02 (qv 10 rfl (Or.inl rfl))) (x03) x04) x0o) x0o)) (x03) x54))))))))
    (x0d (x2z (x2k (qv 4 rfl (Or.inl rfl)) (x00 (x3o (x00 (x02 (qv 6 rfl (Or.inl rfl))) (x00 (x22 B.m_tuple PyProof.Rows.boot_tuple (x00 (x02 (qv 7 rfl (Or.inl rfl))) (x03) x04)) (x03) x0o) x04)) (x03) x54))))))))
    (x0d (x0n (x22 B.m_tuple PyProof.Rows.boot_tuple (x00 (x02 (qv 4 rfl (Or.inl rfl))) (x03) x04))))))
noncomputable def y51 : x1b := x3g (x2e (x01 (x9a (x4k (x01 (x05 1) (x0e))) (x14 0)) (x0e)))
noncomputable def x4d : List D -> Option (D × Nat) := fnD 2 y51
theorem y72 : FnScope ["ladder", "worth"] ["ladder", "worth"] (x0c (top 15)) := ⟨rfl, rfl, rfl, by decide +kernel, rfl, by decide +kernel, by decide +kernel⟩
theorem y8w (B : Bt mg)  (a : At K mg "steady" (top 15) ["ladder", "worth"]) : Cal P w K mg base 1 "steady" 2 x4d :=
  Cal.mkQ (k := 0) a y72 fun f cdv A outer s H E hr =>
    x0d (x0n (x22 B.m_tuple PyProof.Rows.boot_tuple (x00 (y1m (x24 (x00 (x02 (qv 1 rfl (Or.inl rfl))) (x03) x04)) (x11 B.m_len (qv 0 rfl (Or.inl rfl)))) (x03) x1a)))
noncomputable def x6e : x1b := x3g (z45 (x01 (x05 0) (x0e)))
noncomputable def x32 : List D -> Option (D × Nat) := fnD 1 x6e
theorem x9r : FnScope ["many"] ["many"] (x0c (top 8)) := ⟨rfl, rfl, rfl, by decide +kernel, rfl, by decide +kernel, by decide +kernel⟩
theorem y06 (B : Bt mg)  (a : At K mg "row_of_least" (top 8) ["many"]) : Cal P w K mg base 1 "row_of_least" 1 x32 :=
  Cal.mkQ (k := 0) a x9r fun f cdv A outer s H E hr =>
    x0d (x0n (z27 rfl B.m_tuple PyProof.Rows.boot_tuple B.m_range (x00 (x02 (qv 0 rfl (Or.inl rfl))) (x03) x04)))
noncomputable def y15 : x1b := x3g (y5m (x05 0) (x01 (x0g x32 1 (x01 (x14 0) (x0e))) (x0e)))
noncomputable def x2n : List D -> Option (D × Nat) := fnD 1 y15
theorem y40 : FnScope ["ladder"] ["ladder"] (x0c (top 9)) := ⟨rfl, rfl, rfl, by decide +kernel, rfl, by decide +kernel, by decide +kernel⟩
theorem y62 (B : Bt mg) (c_row_of_least : Cal P w K mg base 1 "row_of_least" 1 x32) (a : At K mg "least_of" (top 9) ["ladder"]) : Cal P w K mg base 2 "least_of" 1 x2n :=
  Cal.mkQ (k := 1) a y40 fun f cdv A outer s H E hr =>
    x0d (x0n (y8y hr (x02 (qv 0 rfl (Or.inl rfl))) (x00 (x09 c_row_of_least hr (by decide) (x00 (x11 B.m_len (qv 0 rfl (Or.inl rfl))) (x03) x0o)) (x03) x0o)))
noncomputable def x7s : x1b := x3g (x2e (x01 (x9a (x4k (x01 (x0g x4d 2 (x01 (x05 0) (x01 (x0g x2n 1 (x01 (x05 0) (x0e))) (x0e)))) (x0e))) (x14 1)) (x0e)))
noncomputable def x3l : List D -> Option (D × Nat) := fnD 2 x7s
theorem y05 : FnScope ["ladder", "program"] ["ladder", "program"] (x0c (top 30)) := ⟨rfl, rfl, rfl, by decide +kernel, rfl, by decide +kernel, by decide +kernel⟩
theorem y1e (B : Bt mg) (c_steady : Cal P w K mg base 1 "steady" 2 x4d) (c_least_of : Cal P w K mg base 2 "least_of" 1 x2n) (a : At K mg "least_rules" (top 30) ["ladder", "program"]) : Cal P w K mg base 3 "least_rules" 2 x3l :=
  Cal.mkQ (k := 2) a y05 fun f cdv A outer s H E hr =>
    x0d (x0n (x22 B.m_tuple PyProof.Rows.boot_tuple (x00 (y1m (x24 (x00 (x09 c_steady hr (by decide) (x00 (x02 (qv 0 rfl (Or.inl rfl))) (x00 (x09 c_least_of hr (by decide) (x00 (x02 (qv 0 rfl (Or.inl rfl))) (x03) x04)) (x03) x0o) x04)) (x03) x0o)) (x11 B.m_len (qv 1 rfl (Or.inl rfl)))) (x03) x1a)))
noncomputable def y0s : x1b := x3g (z2v (y6o .int (x05 0)) (z8s (y6o .bool (x05 0))))
noncomputable def x30 : List D -> Option (D × Nat) := fnD 1 y0s
theorem y4q : FnScope ["thing"] ["thing"] (x0c (top 4)) := ⟨rfl, rfl, rfl, by decide +kernel, rfl, by decide +kernel, by decide +kernel⟩
theorem y5t (B : Bt mg)  (a : At K mg "is_whole" (top 4) ["thing"]) : Cal P w K mg base 1 "is_whole" 1 x30 :=
  Cal.mkQ (k := 0) a y4q fun f cdv A outer s H E hr =>
    x0d (x0n (y7d (y0x .int B.m_isinstance B.m_int PyProof.Rows.boot_int (x02 (qv 0 rfl (Or.inl rfl)))) (y7k (z65 (y0x .bool B.m_isinstance B.m_bool PyProof.Rows.boot_bool (x02 (qv 0 rfl (Or.inl rfl))))))))
noncomputable def x6d : x1b := x3g (z2v (x0g x30 1 (x01 (x05 0) (x0e))) (eCh dLe dLt (eC (.int 0)) (x05 0) (x05 1)))
noncomputable def x1z : List D -> Option (D × Nat) := fnD 2 x6d
theorem x9v : FnScope ["thing", "many"] ["thing", "many"] (x0c (top 5)) := ⟨rfl, rfl, rfl, by decide +kernel, rfl, by decide +kernel, by decide +kernel⟩
theorem y09 (B : Bt mg) (c_is_whole : Cal P w K mg base 1 "is_whole" 1 x30) (a : At K mg "is_number_of" (top 5) ["thing", "many"]) : Cal P w K mg base 2 "is_number_of" 2 x1z :=
  Cal.mkQ (k := 1) a x9v fun f cdv A outer s H E hr =>
    x0d (x0n (y7d (x09 c_is_whole hr (by decide) (x00 (x02 (qv 0 rfl (Or.inl rfl))) (x03) x04)) (y7k (y48 (x0a) (x02 (qv 0 rfl (Or.inl rfl))) (x02 (qv 1 rfl (Or.inl rfl)))))))
noncomputable def x4s : x1b := x13 (sIf (y8v (x4t (x7w (y6o .tuple (x05 0)))) (y8v (x37 (e2 dNe (x14 0) (eC (.int 2)))) (x4t (x7w (y6o .str (x1k 0 (eC (.int 0)))))))) (x3g (eC (.bl false))) (x8u))
  (x3g (x0g x1z 2 (x01 (x1k 0 (eC (.int 1))) (x01 (y91 (x05 1) (x1k 0 (eC (.int 0))) (eC (.int 0))) (x0e)))))
noncomputable def x25 : List D -> Option (D × Nat) := fnD 2 x4s
theorem x7q : FnScope ["thing", "many_by_name"] ["thing", "many_by_name"] (x0c (top 6)) := ⟨rfl, rfl, rfl, by decide +kernel, rfl, by decide +kernel, by decide +kernel⟩
theorem x89 (B : Bt mg) (c_is_number_of : Cal P w K mg base 2 "is_number_of" 2 x1z) (a : At K mg "is_named_number" (top 6) ["thing", "many_by_name"]) : Cal P w K mg base 3 "is_named_number" 2 x25 :=
  Cal.mkQ (k := 2) a x7q fun f cdv A outer s H E hr =>
    x06 (x41 (z0l (y34 (x6p (x4m (y0x .tuple B.m_isinstance B.m_tuple PyProof.Rows.boot_tuple (x02 (qv 0 rfl (Or.inl rfl)))))) (y34 (x75 hr (x11 B.m_len (qv 0 rfl (Or.inl rfl))) (x0a)) (y4k (x6p (x4m (y0x .str B.m_isinstance B.m_str PyProof.Rows.boot_str (x0w (qv 0 rfl (Or.inl rfl)) (x0a))))))))) (x0d (x0n (y6g))) (x39))
    (x0d (x0n (x09 c_is_number_of hr (by decide) (x00 (x0w (qv 0 rfl (Or.inl rfl)) (x0a)) (x00 (z33 hr (x02 (qv 1 rfl (Or.inl rfl))) (x0w (qv 0 rfl (Or.inl rfl)) (x0a)) (x0a)) (x03) x0o) x0s))))
noncomputable def y2h : x1b := x3g (x0g x25 2 (x01 (x05 1) (x01 (y6c "begin" "way" (x6w 0 2) (x6w 0 1)) (x0e))))
noncomputable def x47 : List D -> Option (D × Nat) := fnD 2 y2h
theorem y5x : FnScope ["chart", "thing"] ["chart", "thing"] (x0c (top 20)) := ⟨rfl, rfl, rfl, by decide +kernel, rfl, by decide +kernel, by decide +kernel⟩
theorem y6t (B : Bt mg) (c_is_named_number : Cal P w K mg base 3 "is_named_number" 2 x25) (a : At K mg "is_step" (top 20) ["chart", "thing"]) : Cal P w K mg base 4 "is_step" 2 x47 :=
  Cal.mkQ (k := 3) a y5x fun f cdv A outer s H E hr =>
    x0d (x0n (x09 c_is_named_number hr (by decide) (x00 (x02 (qv 1 rfl (Or.inl rfl))) (x00 (z31 (by decide) (y4r B.m_len (qv 0 rfl (Or.inl rfl))) (y4r B.m_len (qv 0 rfl (Or.inl rfl)))) (x03) z3f) x04)))
noncomputable def x5a : x1b := sIf (x4t (x7w (eB z1c (x01 (x33 1 (x5d (x05 1)) (x0m 2) (x2o) (x0g x47 2 (x01 (x05 0) (x01 (x05 2) (x0e)))) false) (x0e))))) (y4t) (x8u)
noncomputable def x2l : List D -> Option (D × Nat) := fnD 2 x5a
theorem x87 : FnScope ["chart", "steps"] ["chart", "steps"] (x0c (top 21)) := ⟨rfl, rfl, rfl, by decide +kernel, rfl, by decide +kernel, by decide +kernel⟩
theorem x8x (B : Bt mg) (c_is_step : Cal P w K mg base 4 "is_step" 2 x47) (a : At K mg "refuse_no_step" (top 21) ["chart", "steps"]) : Cal P w K mg base 5 "refuse_no_step" 2 x2l :=
  Cal.mkQ (k := 4) a x87 fun f cdv A outer s H E hr =>
    x0d (x41 (x6p (x4m (z1u rfl B.m_all (x00 (x3b (k := 1) (N' := ["chart", "steps", "step"]) false rfl ⟨rfl, by decide +kernel, rfl, rfl, rfl⟩ (x38 (x02 (qv 1 rfl (Or.inl rfl)))) (fun _ _ _ _ => x0k (i := 2) (show 2 <= 2 by decide) (show List.Nodup (["chart", "steps", "step"] : List Str) by decide +kernel) rfl (Or.inl rfl) (Or.inr rfl)) (fun _ _ _ _ => x2s) (fun _ _ _ _ => x09 c_is_step hr (by decide) (x00 (x02 (qv 0)) (x00 (x02 (qv 2)) (x03) x04) x04))) (x03) x3c)))) (x0d (y6v)) (x39))
noncomputable def x4v : x1b := x13 (sIf (x37 (e2 dEq (x1k 2 (eC (.int 0))) (eC (.str "begin")))) (x3g (eIx (x1k 0 (eC (.int 2))) (x1k 2 (eC (.int 1))))) (x8u))
  (x13 (x1p 3 (eIx (x1k 0 (eC (.int 1))) (x1k 2 (eC (.int 1)))))
  (x3g (x4n (x01 (x1k 3 (eC (.int 1))) (x01 (eIx (x1k 3 (eC (.int 2))) (x1k 1 (x1k 3 (eC (.int 0))))) (x0e))))))
noncomputable def x27 : List D -> Option (D × Nat) := fnD 4 x4v
theorem x4c : FnScope ["chart", "worths", "step", "way"] ["chart", "worths", "step"] (x0c (top 22)) := ⟨rfl, rfl, rfl, by decide +kernel, rfl, by decide +kernel, by decide +kernel⟩
theorem x8d (B : Bt mg)  (a : At K mg "place_and_worth" (top 22) ["chart", "worths", "step"]) : Cal P w K mg base 1 "place_and_worth" 3 x27 :=
  Cal.mkQ (k := 0) a x4c fun f cdv A outer s H E hr =>
    x06 (x41 (x9b hr (x0w (qv 2 rfl (Or.inl rfl)) (x0a)) (y8q)) (x0d (x0n (x5b (x0w (qv 0 rfl (Or.inl rfl)) (x0a)) (x0w (qv 2 rfl (Or.inl rfl)) (x0a))))) (x39))
    (x06 (x0l (i := 3) x4c.nd rfl (Or.inl rfl) (x5b (x0w (qv 0 rfl (Or.inl rfl)) (x0a)) (x0w (qv 2 rfl (Or.inl rfl)) (x0a))))
    (x0d (x0n (x3o (x00 (x0w (qv 3 rfl (Or.inl rfl)) (x0a)) (x00 (x5b (x0w (qv 3 rfl (Or.inl rfl)) (x0a)) (x0w (qv 1 rfl (Or.inl rfl)) (x0w (qv 3 rfl (Or.inl rfl)) (x0a)))) (x03) x0s) x0s)))))
noncomputable def x5i : x1b := x13 (x1p 4 (x0g x27 3 (x01 (x05 1) (x01 (x05 2) (x01 (x05 3) (x0e))))))
  (x13 (x1p 5 (x1k 4 (eC (.int 0))))
  (x13 (x1p 6 (eIx (x1k 0 (x1k 2 (x05 5))) (x1k 4 (eC (.int 1)))))
  (x3g (z70 (z70 (eSl (x05 2) (z0x) (y71 (x05 5))) (x4n (x01 (x05 6) (x0e)))) (eSl (x05 2) (y71 (e2 x2w (x05 5) (eC (.int 1)))) (z0x))))))
noncomputable def x1l : List D -> Option (D × Nat) := fnD 7 x5i
theorem x36 : FnScope ["ladder", "chart", "worths", "step", "coming", "place", "joined"] ["ladder", "chart", "worths", "step"] (x0c (top 23)) := ⟨rfl, rfl, rfl, by decide +kernel, rfl, by decide +kernel, by decide +kernel⟩
theorem x9o (B : Bt mg) (c_place_and_worth : Cal P w K mg base 1 "place_and_worth" 3 x27) (a : At K mg "worths_behind" (top 23) ["ladder", "chart", "worths", "step"]) : Cal P w K mg base 2 "worths_behind" 4 x1l :=
  Cal.mkQ (k := 1) a x36 fun f cdv A outer s H E hr =>
    x06 (x0l (i := 4) x36.nd rfl (Or.inl rfl) (x09 c_place_and_worth hr (by decide) (x00 (x02 (qv 1 rfl (Or.inl rfl))) (x00 (x02 (qv 2 rfl (Or.inl rfl))) (x00 (x02 (qv 3 rfl (Or.inl rfl))) (x03) x04) x04) x04)))
    (x06 (x0l (i := 5) x36.nd rfl (Or.inl rfl) (x0w (qv 4 rfl (Or.inl rfl)) (x0a)))
    (x06 (x0l (i := 6) x36.nd rfl (Or.inl rfl) (x5b (x0w (qv 0 rfl (Or.inl rfl)) (x0w (qv 2 rfl (Or.inl rfl)) (x02 (qv 5 rfl (Or.inl rfl))))) (x0w (qv 4 rfl (Or.inl rfl)) (x0a))))
    (x0d (x0n (z1q (z1q (z6e (x02 (qv 2 rfl (Or.inl rfl))) (y5f) (y55 (x02 (qv 5 rfl (Or.inl rfl))))) (x3o (x00 (x02 (qv 6 rfl (Or.inl rfl))) (x03) x04))) (z6e (x02 (qv 2 rfl (Or.inl rfl))) (y55 (x1m (x02 (qv 5 rfl (Or.inl rfl))) (x0a))) (y5f)))))))
noncomputable abbrev y1w : x1b := x13 (x1p 5 (x05 3))
  (x6k (x5d (x05 2)) (x0m 6) (x13 (x1p 7 (x0g x1l 4 (x01 (x05 0) (x01 (x05 1) (x01 (x05 3) (x01 (x05 6) (x0e)))))))
  (x13 (sIf (x37 (e2 dNe (x05 7) (x05 3))) (x3f (x7v 4 (x01 (x05 6) (x0e)))) (x8u))
  (x1p 3 (x05 7)))))
noncomputable abbrev x95 : x1b := x13 (x1p 7 (x0g x1l 4 (x01 (x05 0) (x01 (x05 1) (x01 (x05 3) (x01 (x05 6) (x0e)))))))
  (x13 (sIf (x37 (e2 dNe (x05 7) (x05 3))) (x3f (x7v 4 (x01 (x05 6) (x0e)))) (x8u))
  (x1p 3 (x05 7)))
noncomputable def y8t : x1b := x13 (x1p 4 (x4k (x0e)))
  (x13 (x1p 5 (eC .non))
  (x13 (x8i (x37 (e2 dNe (x05 3) (x05 5))) (x13 (x1p 5 (x05 3))
  (x6k (x5d (x05 2)) (x0m 6) (x13 (x1p 7 (x0g x1l 4 (x01 (x05 0) (x01 (x05 1) (x01 (x05 3) (x01 (x05 6) (x0e)))))))
  (x13 (sIf (x37 (e2 dNe (x05 7) (x05 3))) (x3f (x7v 4 (x01 (x05 6) (x0e)))) (x8u))
  (x1p 3 (x05 7)))))))
  (x3g (x4n (x01 (x05 3) (x01 (x05 4) (x0e)))))))
noncomputable def y01 : List D -> Option (D × Nat) := fnD 8 y8t
theorem x56 : FnScope ["ladder", "chart", "order", "worths", "raising", "ahead", "step", "behind"] ["ladder", "chart", "order", "worths"] (x0c (top 24)) := ⟨rfl, rfl, rfl, by decide +kernel, rfl, by decide +kernel, by decide +kernel⟩
theorem z2p (B : Bt mg) (c_worths_behind : Cal P w K mg base 2 "worths_behind" 4 x1l) (a : At K mg "risen" (top 24) ["ladder", "chart", "order", "worths"]) : Cal P w K mg base 3 "risen" 4 y01 :=
  Cal.mkQ (k := 2) a x56 fun f cdv A outer s H E hr =>
    x06 (x0l (i := 4) x56.nd rfl (Or.inl rfl) (x24 (x03)))
    (x06 (x0l (i := 5) x56.nd rfl (Or.inl rfl) (z1l))
    (x06 (x71 PassesOwn.never (x75 hr (x02 (qv 3 rfl (Or.inl rfl))) (x02 (qv 5 rfl (Or.inl rfl)))) (x06 (x0l (i := 5) x56.nd rfl (Or.inl rfl) (x02 (qv 3 rfl (Or.inl rfl))))
    (x0d (x2h PassesOwn.never rfl (x38 (x02 (qv 2 rfl (Or.inl rfl)))) (x0k (i := 6) (show 0 <= 6 by decide) x56.nd rfl (Or.inl rfl)) (x06 (x0l (i := 7) x56.nd rfl (Or.inl rfl) (x09 c_worths_behind hr (by decide) (x00 (x02 (qv 0 rfl (Or.inl rfl))) (x00 (x02 (qv 1 rfl (Or.inl rfl))) (x00 (x02 (qv 3 rfl (Or.inl rfl))) (x00 (x02 (qv 6 rfl (Or.inl rfl))) (x03) x04) x04) x04) x04)))
    (x06 (x41 (x75 hr (x02 (qv 7 rfl (Or.inl rfl))) (x02 (qv 3 rfl (Or.inl rfl)))) (x0d (x2z (x2k (qv 4 rfl (Or.inl rfl)) (x00 (x02 (qv 6 rfl (Or.inl rfl))) (x03) x04)))) (x39))
    (x0d (x0l (i := 3) x56.nd rfl (Or.inl rfl) (x02 (qv 7 rfl (Or.inl rfl)))))))))))
    (x0d (x0n (x3o (x00 (x02 (qv 3 rfl (Or.inl rfl))) (x00 (x02 (qv 4 rfl (Or.inl rfl))) (x03) x04) x04))))))
noncomputable def y5r : x1b := x3g (x2e (x01 (x9a (x4k (x01 (x0g x2n 1 (x01 (x05 0) (x0e))) (x0e))) (x1k 1 (eC (.int 0)))) (x0e)))
noncomputable def x7l : List D -> Option (D × Nat) := fnD 2 y5r
theorem y8c : FnScope ["ladder", "chart"] ["ladder", "chart"] (x0c (top 17)) := ⟨rfl, rfl, rfl, by decide +kernel, rfl, by decide +kernel, by decide +kernel⟩
theorem z12 (B : Bt mg) (c_least_of : Cal P w K mg base 2 "least_of" 1 x2n) (a : At K mg "lowest" (top 17) ["ladder", "chart"]) : Cal P w K mg base 3 "lowest" 2 x7l :=
  Cal.mkQ (k := 2) a y8c fun f cdv A outer s H E hr =>
    x0d (x0n (x22 B.m_tuple PyProof.Rows.boot_tuple (x00 (y1m (x24 (x00 (x09 c_least_of hr (by decide) (x00 (x02 (qv 0 rfl (Or.inl rfl))) (x03) x04)) (x03) x0o)) (x0w (qv 1 rfl (Or.inl rfl)) (x0a))) (x03) x1a)))
noncomputable def y0n : x1b := x13 (x3f (x0g x2l 2 (x01 (x05 1) (x01 (x05 2) (x0e)))))
  (x13 (x1p 3 (x0g y01 4 (x01 (x05 0) (x01 (x05 1) (x01 (x05 2) (x01 (x0g x7l 2 (x01 (x05 0) (x01 (x05 1) (x0e)))) (x0e)))))))
  (x3g (x4n (x01 (x1k 3 (eC (.int 0))) (x01 (eB z0q (x01 (x1k 3 (eC (.int 1))) (x0e))) (x0e))))))
noncomputable def x4q : List D -> Option (D × Nat) := fnD 4 y0n
theorem x9d : FnScope ["ladder", "chart", "order", "ended"] ["ladder", "chart", "order"] (x0c (top 25)) := ⟨rfl, rfl, rfl, by decide +kernel, rfl, by decide +kernel, by decide +kernel⟩
theorem y69 (B : Bt mg) (c_refuse_no_step : Cal P w K mg base 5 "refuse_no_step" 2 x2l) (c_risen : Cal P w K mg base 3 "risen" 4 y01) (c_lowest : Cal P w K mg base 3 "lowest" 2 x7l) (a : At K mg "least_by" (top 25) ["ladder", "chart", "order"]) : Cal P w K mg base 6 "least_by" 3 x4q :=
  Cal.mkQ (k := 5) a x9d fun f cdv A outer s H E hr =>
    x06 (x2z (x09 c_refuse_no_step hr (by decide) (x00 (x02 (qv 1 rfl (Or.inl rfl))) (x00 (x02 (qv 2 rfl (Or.inl rfl))) (x03) x04) x04)))
    (x06 (x0l (i := 3) x9d.nd rfl (Or.inl rfl) (x09 c_risen hr (by decide) (x00 (x02 (qv 0 rfl (Or.inl rfl))) (x00 (x02 (qv 1 rfl (Or.inl rfl))) (x00 (x02 (qv 2 rfl (Or.inl rfl))) (x00 (x09 c_lowest hr (by decide) (x00 (x02 (qv 0 rfl (Or.inl rfl))) (x00 (x02 (qv 1 rfl (Or.inl rfl))) (x03) x04) x04)) (x03) x0o) x04) x04) x04)))
    (x0d (x0n (x3o (x00 (x0w (qv 3 rfl (Or.inl rfl)) (x0a)) (x00 (y8l B.m_len (x00 (x0w (qv 3 rfl (Or.inl rfl)) (x0a)) (x03) x0s)) (x03) x0o) x0s)))))
noncomputable def x9w : x1b := x13 (x1p 1 (x33 1 (x17 (x01 (eB z0q (x01 (x1k 0 (eC (.int 2))) (x0e))) (x0e))) (x0m 2) (x2o) (x4n (x01 (eC (.str "begin")) (x01 (x05 2) (x0e)))) false))
  (x3g (y7o (x05 1) (x33 1 (x17 (x01 (eB z0q (x01 (x1k 0 (eC (.int 1))) (x0e))) (x0e))) (x0m 2) (x2o) (x4n (x01 (eC (.str "way")) (x01 (x05 2) (x0e)))) false)))
noncomputable def x3z : List D -> Option (D × Nat) := fnD 2 x9w
theorem x8n : FnScope ["chart", "begins"] ["chart"] (x0c (top 19)) := ⟨rfl, rfl, rfl, by decide +kernel, rfl, by decide +kernel, by decide +kernel⟩
theorem y3w (B : Bt mg)  (a : At K mg "all_steps" (top 19) ["chart"]) : Cal P w K mg base 1 "all_steps" 1 x3z :=
  Cal.mkQ (k := 0) a x8n fun f cdv A outer s H E hr =>
    x06 (x96 (i := 1) (k := 1) (N' := ["chart", "begins", "number"]) false x8n.nd rfl (Or.inl rfl) rfl rfl ⟨rfl, by decide +kernel, rfl, rfl, rfl⟩ (x0t B.m_range (x00 (y8l B.m_len (x00 (x0w (qv 0 rfl (Or.inl rfl)) (x0a)) (x03) x0s)) (x03) x0o)) (fun _ _ _ _ => x0k (i := 2) (show 2 <= 2 by decide) (show List.Nodup (["chart", "begins", "number"] : List Str) by decide +kernel) rfl (Or.inl rfl) (Or.inr rfl)) (fun _ _ _ _ => x2s) (fun _ _ _ _ => x3o (x00 (y8q) (x00 (x02 (qv 2)) (x03) x04) x08)))
    (x0d (x0n (z43 (x02 (qv 1 rfl (Or.inl rfl))) (x3b (k := 1) (N' := ["chart", "begins", "number"]) false rfl ⟨rfl, by decide +kernel, rfl, rfl, rfl⟩ (x0t B.m_range (x00 (y8l B.m_len (x00 (x0w (qv 0 rfl (Or.inl rfl)) (x0a)) (x03) x0s)) (x03) x0o)) (fun _ _ _ _ => x0k (i := 2) (show 2 <= 2 by decide) (show List.Nodup (["chart", "begins", "number"] : List Str) by decide +kernel) rfl (Or.inl rfl) (Or.inr rfl)) (fun _ _ _ _ => x2s) (fun _ _ _ _ => x3o (x00 (y8q) (x00 (x02 (qv 2)) (x03) x04) x08))))))
noncomputable def y7b : x1b := x3g (eIx (x0g x4q 3 (x01 (x05 0) (x01 (x05 1) (x01 (x0g x3z 1 (x01 (x05 1) (x0e))) (x0e))))) (eC (.int 0)))
noncomputable def x58 : List D -> Option (D × Nat) := fnD 2 y7b
theorem z02 : FnScope ["ladder", "chart"] ["ladder", "chart"] (x0c (top 18)) := ⟨rfl, rfl, rfl, by decide +kernel, rfl, by decide +kernel, by decide +kernel⟩
theorem z2n (B : Bt mg) (c_least_by : Cal P w K mg base 6 "least_by" 3 x4q) (c_all_steps : Cal P w K mg base 1 "all_steps" 1 x3z) (a : At K mg "least" (top 18) ["ladder", "chart"]) : Cal P w K mg base 7 "least" 2 x58 :=
  Cal.mkQ (k := 6) a z02 fun f cdv A outer s H E hr =>
    x0d (x0n (x5b (x09 c_least_by hr (by decide) (x00 (x02 (qv 0 rfl (Or.inl rfl))) (x00 (x02 (qv 1 rfl (Or.inl rfl))) (x00 (x09 c_all_steps hr (by decide) (x00 (x02 (qv 1 rfl (Or.inl rfl))) (x03) x04)) (x03) x0o) x04) x04)) (x0a)))
noncomputable def x6g : x1b := x13 (x1p 3 (x33 3 (x5d (x1k 0 (eC (.int 1)))) (y3j (x15 (x0m 4) (x15 (x0m 5) (x15 (x0m 6) (x66))))) (x2o) (x4n (x01 (x05 4) (x01 (x05 5) (x01 (eIf (x7w (x0g x30 1 (x01 (x05 6) (x0e)))) (x1k 1 (x05 6)) (x05 6)) (x0e))))) false))
  (x3g (x4n (x01 (x1k 0 (eC (.int 0))) (x01 (x2e (x01 (x05 3) (x0e))) (x01 (x4n (x01 (x4n (x01 (eC (.int 0)) (x01 (x05 2) (x0e)))) (x0e))) (x0e))))))
noncomputable def x2m : List D -> Option (D × Nat) := fnD 4 x6g
theorem x5g : FnScope ["house", "rules", "worth", "ways"] ["house", "rules", "worth"] (x0c (top 27)) := ⟨rfl, rfl, rfl, by decide +kernel, rfl, by decide +kernel, by decide +kernel⟩
theorem y0d (B : Bt mg) (c_is_whole : Cal P w K mg base 1 "is_whole" 1 x30) (a : At K mg "called_chart" (top 27) ["house", "rules", "worth"]) : Cal P w K mg base 2 "called_chart" 3 x2m :=
  Cal.mkQ (k := 1) a x5g fun f cdv A outer s H E hr =>
    x06 (x96 (i := 3) (k := 3) (N' := ["house", "rules", "worth", "ways", "start", "goal", "led"]) false x5g.nd rfl (Or.inl rfl) rfl rfl ⟨rfl, by decide +kernel, rfl, rfl, rfl⟩ (x38 (x0w (qv 0 rfl (Or.inl rfl)) (x0a))) (fun _ _ _ _ => y02 (n := 3) rfl (x28 (x0k (i := 4) (show 4 <= 4 by decide) (show List.Nodup (["house", "rules", "worth", "ways", "start", "goal", "led"] : List Str) by decide +kernel) rfl (Or.inl rfl) (Or.inr rfl)) (x28 (x0k (i := 5) (show 4 <= 5 by decide) (show List.Nodup (["house", "rules", "worth", "ways", "start", "goal", "led"] : List Str) by decide +kernel) rfl (Or.inl rfl) (Or.inr rfl)) (x28 (x0k (i := 6) (show 4 <= 6 by decide) (show List.Nodup (["house", "rules", "worth", "ways", "start", "goal", "led"] : List Str) by decide +kernel) rfl (Or.inl rfl) (Or.inr rfl)) (x7p)))) y43) (fun _ _ _ _ => x2s) (fun _ _ _ _ => x3o (x00 (x02 (qv 4)) (x00 (x02 (qv 5)) (x00 (y1v (x4m (x09 c_is_whole hr (by decide) (x00 (x02 (qv 6)) (x03) x04))) (x0w (qv 1) (x02 (qv 6))) (x02 (qv 6))) (x03) y1n) x04) x04)))
    (x0d (x0n (x3o (x00 (x0w (qv 0 rfl (Or.inl rfl)) (x0a)) (x00 (x22 B.m_tuple PyProof.Rows.boot_tuple (x00 (x02 (qv 3 rfl (Or.inl rfl))) (x03) x04)) (x00 (x3o (x00 (x3o (x00 (x0a) (x00 (x02 (qv 2 rfl (Or.inl rfl))) (x03) x04) x08)) (x03) x54)) (x03) x54) x0o) x0s))))
noncomputable def x8h : x1b := x3g (x2e (x01 (x33 1 (x17 (x01 (x14 0) (x0e))) (x0m 3) (x2o) (eIx (x0g x58 2 (x01 (x05 0) (x01 (x0g x2m 3 (x01 (x05 1) (x01 (x05 2) (x01 (x05 3) (x0e))))) (x0e)))) (z53 (eC (.int 1)))) false) (x0e)))
noncomputable def x3d : List D -> Option (D × Nat) := fnD 3 x8h
theorem y1u : FnScope ["ladder", "house", "rules"] ["ladder", "house", "rules"] (x0c (top 28)) := ⟨rfl, rfl, rfl, by decide +kernel, rfl, by decide +kernel, by decide +kernel⟩
theorem y2i (B : Bt mg) (c_least : Cal P w K mg base 7 "least" 2 x58) (c_called_chart : Cal P w K mg base 2 "called_chart" 3 x2m) (a : At K mg "house_rule" (top 28) ["ladder", "house", "rules"]) : Cal P w K mg base 8 "house_rule" 3 x3d :=
  Cal.mkQ (k := 7) a y1u fun f cdv A outer s H E hr =>
    x0d (x0n (x22 B.m_tuple PyProof.Rows.boot_tuple (x00 (x3b (k := 1) (N' := ["ladder", "house", "rules", "worth"]) false rfl ⟨rfl, by decide +kernel, rfl, rfl, rfl⟩ (x0t B.m_range (x00 (x11 B.m_len (qv 0 rfl (Or.inr (Or.inl rfl)))) (x03) x0o)) (fun _ _ _ _ => x0k (i := 3) (show 3 <= 3 by decide) (show List.Nodup (["ladder", "house", "rules", "worth"] : List Str) by decide +kernel) rfl (Or.inl rfl) (Or.inr rfl)) (fun _ _ _ _ => x2s) (fun _ _ _ _ => x5b (x09 c_least hr (by decide) (x00 (x02 (qv 0)) (x00 (x09 c_called_chart hr (by decide) (x00 (x02 (qv 1)) (x00 (x02 (qv 2)) (x00 (x02 (qv 3)) (x03) x04) x04) x04)) (x03) x0o) x04)) (z5q (x0a)))) (x03) x3c)))
noncomputable def x4x : x1b := x3g (x2e (x01 (x33 1 (x5d (x05 1)) (x0m 3) (x2o) (x0g x3d 3 (x01 (x05 0) (x01 (x05 3) (x01 (x05 2) (x0e))))) false) (x0e)))
noncomputable def x1j : List D -> Option (D × Nat) := fnD 3 x4x
theorem x7r : FnScope ["ladder", "program", "rules"] ["ladder", "program", "rules"] (x0c (top 29)) := ⟨rfl, rfl, rfl, by decide +kernel, rfl, by decide +kernel, by decide +kernel⟩
theorem x7z (B : Bt mg) (c_house_rule : Cal P w K mg base 8 "house_rule" 3 x3d) (a : At K mg "one_call_deeper" (top 29) ["ladder", "program", "rules"]) : Cal P w K mg base 9 "one_call_deeper" 3 x1j :=
  Cal.mkQ (k := 8) a x7r fun f cdv A outer s H E hr =>
    x0d (x0n (x22 B.m_tuple PyProof.Rows.boot_tuple (x00 (x3b (k := 1) (N' := ["ladder", "program", "rules", "house"]) false rfl ⟨rfl, by decide +kernel, rfl, rfl, rfl⟩ (x38 (x02 (qv 1 rfl (Or.inl rfl)))) (fun _ _ _ _ => x0k (i := 3) (show 3 <= 3 by decide) (show List.Nodup (["ladder", "program", "rules", "house"] : List Str) by decide +kernel) rfl (Or.inl rfl) (Or.inr rfl)) (fun _ _ _ _ => x2s) (fun _ _ _ _ => x09 c_house_rule hr (by decide) (x00 (x02 (qv 0)) (x00 (x02 (qv 3)) (x00 (x02 (qv 2)) (x03) x04) x04) x04))) (x03) x3c)))
noncomputable abbrev x44 : x1b := x13 (x1p 4 (x05 3))
  (x13 (x1p 3 (x0g x1j 3 (x01 (x05 0) (x01 (x05 1) (x01 (x05 4) (x0e))))))
  (x1p 5 (e2 z1n (x05 5) (eC (.int 1)))))
noncomputable def x69 : x1b := x13 (x1p 3 (x0g x3l 2 (x01 (x05 0) (x01 (x05 1) (x0e)))))
  (x13 (x1p 4 (eC .non))
  (x13 (x1p 5 (x05 2))
  (x13 (x8i (y2v (x37 (e2 dGe (x05 5) (eC (.int 0)))) (x37 (e2 dNe (x05 3) (x05 4)))) (x13 (x1p 4 (x05 3))
  (x13 (x1p 3 (x0g x1j 3 (x01 (x05 0) (x01 (x05 1) (x01 (x05 4) (x0e))))))
  (x1p 5 (e2 z1n (x05 5) (eC (.int 1)))))))
  (x3g (x05 3)))))
noncomputable def x34 : List D -> Option (D × Nat) := fnD 6 x69
theorem x1o : FnScope ["ladder", "program", "deep", "rules", "ahead", "left"] ["ladder", "program", "deep"] (x0c (top 32)) := ⟨rfl, rfl, rfl, by decide +kernel, rfl, by decide +kernel, by decide +kernel⟩
theorem y07 (B : Bt mg) (c_least_rules : Cal P w K mg base 3 "least_rules" 2 x3l) (c_one_call_deeper : Cal P w K mg base 9 "one_call_deeper" 3 x1j) (a : At K mg "summaries_by" (top 32) ["ladder", "program", "deep"]) : Cal P w K mg base 10 "summaries_by" 3 x34 :=
  Cal.mkQ (k := 9) a x1o fun f cdv A outer s H E hr =>
    x06 (x0l (i := 3) x1o.nd rfl (Or.inl rfl) (x09 c_least_rules hr (by decide) (x00 (x02 (qv 0 rfl (Or.inl rfl))) (x00 (x02 (qv 1 rfl (Or.inl rfl))) (x03) x04) x04)))
    (x06 (x0l (i := 4) x1o.nd rfl (Or.inl rfl) (z1l))
    (x06 (x0l (i := 5) x1o.nd rfl (Or.inl rfl) (x02 (qv 2 rfl (Or.inl rfl))))
    (x06 (x71 PassesOwn.never (z0l (z38 (z7b (x02 (qv 5 rfl (Or.inl rfl))) (x0a)) (z17 (x75 hr (x02 (qv 3 rfl (Or.inl rfl))) (x02 (qv 4 rfl (Or.inl rfl))))))) (x06 (x0l (i := 4) x1o.nd rfl (Or.inl rfl) (x02 (qv 3 rfl (Or.inl rfl))))
    (x06 (x0l (i := 3) x1o.nd rfl (Or.inl rfl) (x09 c_one_call_deeper hr (by decide) (x00 (x02 (qv 0 rfl (Or.inl rfl))) (x00 (x02 (qv 1 rfl (Or.inl rfl))) (x00 (x02 (qv 4 rfl (Or.inl rfl))) (x03) x04) x04) x04)))
    (x0d (x0l (i := 5) x1o.nd rfl (Or.inl rfl) (z1y (x02 (qv 5 rfl (Or.inl rfl))) (x0a)))))))
    (x0d (x0n (x02 (qv 3 rfl (Or.inl rfl))))))))
noncomputable def x9u : x1b := x3g (x0g x34 3 (x01 (x05 0) (x01 (x05 1) (x01 (e2 x9s (e2 x9s (x14 1) (x14 0)) (x14 0)) (x0e)))))
noncomputable def x4b : List D -> Option (D × Nat) := fnD 2 x9u
theorem y2l : FnScope ["ladder", "program"] ["ladder", "program"] (x0c (top 31)) := ⟨rfl, rfl, rfl, by decide +kernel, rfl, by decide +kernel, by decide +kernel⟩
theorem y3s (B : Bt mg) (c_summaries_by : Cal P w K mg base 10 "summaries_by" 3 x34) (a : At K mg "summaries" (top 31) ["ladder", "program"]) : Cal P w K mg base 11 "summaries" 2 x4b :=
  Cal.mkQ (k := 10) a y2l fun f cdv A outer s H E hr =>
    x0d (x0n (x09 c_summaries_by hr (by decide) (x00 (x02 (qv 0 rfl (Or.inl rfl))) (x00 (x02 (qv 1 rfl (Or.inl rfl))) (x00 (x5n (x5n (x11 B.m_len (qv 1 rfl (Or.inl rfl))) (x11 B.m_len (qv 0 rfl (Or.inl rfl)))) (x11 B.m_len (qv 0 rfl (Or.inl rfl)))) (x03) x1a) x04) x04)))
noncomputable abbrev x42 : x1b := x3f (x7v 3 (x01 (x4n (x01 (x05 4) (x01 (x05 5) (x01 (eIf (x7w (y6o .int (x05 6))) (x1k 1 (x05 6)) (x05 6)) (x0e))))) (x0e)))
noncomputable def x4g : x1b := x13 (x1p 3 (x4k (x0e)))
  (x13 (x6k (x5d (x1k 0 (eC (.int 1)))) (y3j (x15 (x0m 4) (x15 (x0m 5) (x15 (x0m 6) (x66))))) (x3f (x7v 3 (x01 (x4n (x01 (x05 4) (x01 (x05 5) (x01 (eIf (x7w (y6o .int (x05 6))) (x1k 1 (x05 6)) (x05 6)) (x0e))))) (x0e)))))
  (x3g (x4n (x01 (x1k 0 (eC (.int 0))) (x01 (x2e (x01 (x05 3) (x0e))) (x01 (x4n (x01 (x4n (x01 (eC (.int 0)) (x01 (x05 2) (x0e)))) (x0e))) (x0e)))))))
noncomputable def x19 : List D -> Option (D × Nat) := fnD 7 x4g
theorem x1n : FnScope ["_law_house", "_law_rules", "_law_worth", "_law_ways", "_law_start", "_law_goal", "_law_rule_here"] ["_law_house", "_law_rules", "_law_worth"] (x0c (top 51)) := ⟨rfl, rfl, rfl, by decide +kernel, rfl, by decide +kernel, by decide +kernel⟩
theorem x7i (B : Bt mg)  (a : At K mg "_law_house_chart" (top 51) ["_law_house", "_law_rules", "_law_worth"]) : Cal P w K mg base 1 "_law_house_chart" 3 x19 :=
  Cal.mkQ (k := 0) a x1n fun f cdv A outer s H E hr =>
    x06 (x0l (i := 3) x1n.nd rfl (Or.inl rfl) (x24 (x03)))
    (x06 (x2h PassesOwn.never rfl (x38 (x0w (qv 0 rfl (Or.inl rfl)) (x0a))) (y02 (n := 3) rfl (x28 (x0k (i := 4) (show 0 <= 4 by decide) x1n.nd rfl (Or.inl rfl)) (x28 (x0k (i := 5) (show 0 <= 5 by decide) x1n.nd rfl (Or.inl rfl)) (x28 (x0k (i := 6) (show 0 <= 6 by decide) x1n.nd rfl (Or.inl rfl)) (x7p)))) y43) (x0d (x2z (x2k (qv 3 rfl (Or.inl rfl)) (x00 (x3o (x00 (x02 (qv 4 rfl (Or.inl rfl))) (x00 (x02 (qv 5 rfl (Or.inl rfl))) (x00 (y1v (x4m (y0x .int B.m_isinstance B.m_int PyProof.Rows.boot_int (x02 (qv 6 rfl (Or.inl rfl))))) (x0w (qv 1 rfl (Or.inl rfl)) (x02 (qv 6 rfl (Or.inl rfl)))) (x02 (qv 6 rfl (Or.inl rfl)))) (x03) y1n) x04) x04)) (x03) x54)))))
    (x0d (x0n (x3o (x00 (x0w (qv 0 rfl (Or.inl rfl)) (x0a)) (x00 (x22 B.m_tuple PyProof.Rows.boot_tuple (x00 (x02 (qv 3 rfl (Or.inl rfl))) (x03) x04)) (x00 (x3o (x00 (x3o (x00 (x0a) (x00 (x02 (qv 2 rfl (Or.inl rfl))) (x03) x04) x08)) (x03) x54)) (x03) x54) x0o) x0s)))))
noncomputable abbrev x6b : x1b := y45 2 (y6p 3) (eIx (x1k 0 (x1k 2 (x05 3))) (x05 4))
noncomputable abbrev x6h : x1b := x13 (x1p 8 (x1k 7 (x1k 2 (x05 5))))
  (y45 2 (y6p 6) (eIx (x1k 0 (x1k 2 (x05 6))) (x05 8)))
noncomputable def x7h : x1b := x13 (x1p 2 (x6l (x01 (x05 2) (x0e))))
  (x13 (x6k (x5d (x1k 1 (eC (.int 2)))) (y3j (x15 (x0m 3) (x15 (x0m 4) (x66)))) (y45 2 (y6p 3) (eIx (x1k 0 (x1k 2 (x05 3))) (x05 4))))
  (x13 (x6k (x5d (x1k 1 (eC (.int 1)))) (y3j (x15 (x0m 5) (x15 (x0m 6) (x15 (x0m 7) (x66))))) (x13 (x1p 8 (x1k 7 (x1k 2 (x05 5))))
  (y45 2 (y6p 6) (eIx (x1k 0 (x1k 2 (x05 6))) (x05 8)))))
  (x3g (x2e (x01 (x05 2) (x0e))))))
noncomputable def x2i : List D -> Option (D × Nat) := fnD 9 x7h
theorem x1i : FnScope ["_law_ladder_here", "_law_chart", "_law_worths", "_law_place", "_law_worth", "_law_start", "_law_goal", "_law_rule_here", "_law_comes"] ["_law_ladder_here", "_law_chart", "_law_worths"] (x0c (top 48)) := ⟨rfl, rfl, rfl, by decide +kernel, rfl, by decide +kernel, by decide +kernel⟩
theorem y1x (B : Bt mg)  (a : At K mg "_law_raised" (top 48) ["_law_ladder_here", "_law_chart", "_law_worths"]) : Cal P w K mg base 1 "_law_raised" 3 x2i :=
  Cal.mkQ (k := 0) a x1i fun f cdv A outer s H E hr =>
    x06 (x0l (i := 2) x1i.nd rfl (Or.inl rfl) (y31 B.m_list PyProof.Rows.boot_list (x00 (x02 (qv 2 rfl (Or.inl rfl))) (x03) x04)))
    (x06 (x2h PassesOwn.never rfl (x38 (x0w (qv 1 rfl (Or.inl rfl)) (x0a))) (y02 (n := 2) rfl (x28 (x0k (i := 3) (show 0 <= 3 by decide) x1i.nd rfl (Or.inl rfl)) (x28 (x0k (i := 4) (show 0 <= 4 by decide) x1i.nd rfl (Or.inl rfl)) (x7p))) y8s) (x0d (y4u (qv 2 rfl (Or.inl rfl)) (y57 (qv 3 rfl (Or.inl rfl))) (x5b (x0w (qv 0 rfl (Or.inl rfl)) (x0w (qv 2 rfl (Or.inl rfl)) (x02 (qv 3 rfl (Or.inl rfl))))) (x02 (qv 4 rfl (Or.inl rfl)))))))
    (x06 (x2h PassesOwn.never rfl (x38 (x0w (qv 1 rfl (Or.inl rfl)) (x0a))) (y02 (n := 3) rfl (x28 (x0k (i := 5) (show 0 <= 5 by decide) x1i.nd rfl (Or.inl rfl)) (x28 (x0k (i := 6) (show 0 <= 6 by decide) x1i.nd rfl (Or.inl rfl)) (x28 (x0k (i := 7) (show 0 <= 7 by decide) x1i.nd rfl (Or.inl rfl)) (x7p)))) y43) (x06 (x0l (i := 8) x1i.nd rfl (Or.inl rfl) (x0w (qv 7 rfl (Or.inl rfl)) (x0w (qv 2 rfl (Or.inl rfl)) (x02 (qv 5 rfl (Or.inl rfl))))))
    (x0d (y4u (qv 2 rfl (Or.inl rfl)) (y57 (qv 6 rfl (Or.inl rfl))) (x5b (x0w (qv 0 rfl (Or.inl rfl)) (x0w (qv 2 rfl (Or.inl rfl)) (x02 (qv 6 rfl (Or.inl rfl))))) (x02 (qv 8 rfl (Or.inl rfl))))))))
    (x0d (x0n (x22 B.m_tuple PyProof.Rows.boot_tuple (x00 (x02 (qv 2 rfl (Or.inl rfl))) (x03) x04))))))
noncomputable abbrev x6c : x1b := x13 (x1p 2 (x05 3))
  (x1p 3 (x0g x2i 3 (x01 (x05 0) (x01 (x05 1) (x01 (x05 2) (x0e))))))
noncomputable def x73 : x1b := x13 (x1p 3 (x0g x2i 3 (x01 (x05 0) (x01 (x05 1) (x01 (x05 2) (x0e))))))
  (x13 (x8i (x37 (e2 dNe (x05 3) (x05 2))) (x13 (x1p 2 (x05 3))
  (x1p 3 (x0g x2i 3 (x01 (x05 0) (x01 (x05 1) (x01 (x05 2) (x0e))))))))
  (x3g (x05 2)))
noncomputable def x1v : List D -> Option (D × Nat) := fnD 4 x73
theorem x3u : FnScope ["_law_ladder_here", "_law_chart", "_law_worths", "_law_more"] ["_law_ladder_here", "_law_chart", "_law_worths"] (x0c (top 49)) := ⟨rfl, rfl, rfl, by decide +kernel, rfl, by decide +kernel, by decide +kernel⟩
theorem y1l (B : Bt mg) (c__law_raised : Cal P w K mg base 1 "_law_raised" 3 x2i) (a : At K mg "_law_lowest" (top 49) ["_law_ladder_here", "_law_chart", "_law_worths"]) : Cal P w K mg base 2 "_law_lowest" 3 x1v :=
  Cal.mkQ (k := 1) a x3u fun f cdv A outer s H E hr =>
    x06 (x0l (i := 3) x3u.nd rfl (Or.inl rfl) (x09 c__law_raised hr (by decide) (x00 (x02 (qv 0 rfl (Or.inl rfl))) (x00 (x02 (qv 1 rfl (Or.inl rfl))) (x00 (x02 (qv 2 rfl (Or.inl rfl))) (x03) x04) x04) x04)))
    (x06 (x71 PassesOwn.never (x75 hr (x02 (qv 3 rfl (Or.inl rfl))) (x02 (qv 2 rfl (Or.inl rfl)))) (x06 (x0l (i := 2) x3u.nd rfl (Or.inl rfl) (x02 (qv 3 rfl (Or.inl rfl))))
    (x0d (x0l (i := 3) x3u.nd rfl (Or.inl rfl) (x09 c__law_raised hr (by decide) (x00 (x02 (qv 0 rfl (Or.inl rfl))) (x00 (x02 (qv 1 rfl (Or.inl rfl))) (x00 (x02 (qv 2 rfl (Or.inl rfl))) (x03) x04) x04) x04))))))
    (x0d (x0n (x02 (qv 2 rfl (Or.inl rfl))))))
noncomputable abbrev x4h : x1b := x13 (x1p 5 (x4k (x0e)))
  (x13 (x6k (x17 (x01 (x14 0) (x0e))) (x0m 6) (x13 (x1p 7 (x0g x19 3 (x01 (x05 4) (x01 (x05 2) (x01 (x05 6) (x0e))))))
  (x3f (x7v 5 (x01 (eIx (x0g x1v 3 (x01 (x05 0) (x01 (x05 7) (x01 (x9n (x4n (x01 (x0g x16 1 (x01 (x05 0) (x0e))) (x0e))) (x1k 4 (eC (.int 0)))) (x0e))))) (e2 z1n (x1k 4 (eC (.int 0))) (eC (.int 1)))) (x0e))))))
  (x3f (x7v 3 (x01 (x2e (x01 (x05 5) (x0e))) (x0e)))))
noncomputable abbrev x4i : x1b := x13 (x1p 7 (x0g x19 3 (x01 (x05 4) (x01 (x05 2) (x01 (x05 6) (x0e))))))
  (x3f (x7v 5 (x01 (eIx (x0g x1v 3 (x01 (x05 0) (x01 (x05 7) (x01 (x9n (x4n (x01 (x0g x16 1 (x01 (x05 0) (x0e))) (x0e))) (x1k 4 (eC (.int 0)))) (x0e))))) (e2 z1n (x1k 4 (eC (.int 0))) (eC (.int 1)))) (x0e))))
noncomputable def x4w : x1b := x13 (x1p 3 (x4k (x0e)))
  (x13 (x6k (x5d (x05 1)) (x0m 4) (x13 (x1p 5 (x4k (x0e)))
  (x13 (x6k (x17 (x01 (x14 0) (x0e))) (x0m 6) (x13 (x1p 7 (x0g x19 3 (x01 (x05 4) (x01 (x05 2) (x01 (x05 6) (x0e))))))
  (x3f (x7v 5 (x01 (eIx (x0g x1v 3 (x01 (x05 0) (x01 (x05 7) (x01 (x9n (x4n (x01 (x0g x16 1 (x01 (x05 0) (x0e))) (x0e))) (x1k 4 (eC (.int 0)))) (x0e))))) (e2 z1n (x1k 4 (eC (.int 0))) (eC (.int 1)))) (x0e))))))
  (x3f (x7v 3 (x01 (x2e (x01 (x05 5) (x0e))) (x0e)))))))
  (x3g (x2e (x01 (x05 3) (x0e)))))
noncomputable def x10 : List D -> Option (D × Nat) := fnD 8 x4w
theorem x1g : FnScope ["_law_ladder_here", "_law_program_here", "_law_rules", "_law_made", "_law_house", "_law_row", "_law_worth", "_law_chart"] ["_law_ladder_here", "_law_program_here", "_law_rules"] (x0c (top 52)) := ⟨rfl, rfl, rfl, by decide +kernel, rfl, by decide +kernel, by decide +kernel⟩
theorem x8a (B : Bt mg) (c__law_house_chart : Cal P w K mg base 1 "_law_house_chart" 3 x19) (c__law_lowest : Cal P w K mg base 2 "_law_lowest" 3 x1v) (c__law_low : Cal P w K mg base 1 "_law_low" 1 x16) (a : At K mg "_law_next_rules" (top 52) ["_law_ladder_here", "_law_program_here", "_law_rules"]) : Cal P w K mg base 3 "_law_next_rules" 3 x10 :=
  Cal.mkQ (k := 2) a x1g fun f cdv A outer s H E hr =>
    x06 (x0l (i := 3) x1g.nd rfl (Or.inl rfl) (x24 (x03)))
    (x06 (x2h PassesOwn.never rfl (x38 (x02 (qv 1 rfl (Or.inl rfl)))) (x0k (i := 4) (show 0 <= 4 by decide) x1g.nd rfl (Or.inl rfl)) (x06 (x0l (i := 5) x1g.nd rfl (Or.inl rfl) (x24 (x03)))
    (x06 (x2h PassesOwn.never rfl (x0t B.m_range (x00 (x11 B.m_len (qv 0 rfl (Or.inl rfl))) (x03) x0o)) (x0k (i := 6) (show 0 <= 6 by decide) x1g.nd rfl (Or.inl rfl)) (x06 (x0l (i := 7) x1g.nd rfl (Or.inl rfl) (x09 c__law_house_chart hr (by decide) (x00 (x02 (qv 4 rfl (Or.inl rfl))) (x00 (x02 (qv 2 rfl (Or.inl rfl))) (x00 (x02 (qv 6 rfl (Or.inl rfl))) (x03) x04) x04) x04)))
    (x0d (x2z (x2k (qv 5 rfl (Or.inl rfl)) (x00 (x5b (x09 c__law_lowest hr (by decide) (x00 (x02 (qv 0 rfl (Or.inl rfl))) (x00 (x02 (qv 7 rfl (Or.inl rfl))) (x00 (y85 (x3o (x00 (x09 c__law_low hr (by decide) (x00 (x02 (qv 0 rfl (Or.inl rfl))) (x03) x04)) (x03) x0o)) (x0w (qv 4 rfl (Or.inl rfl)) (x0a))) (x03) x1a) x04) x04)) (z1y (x0w (qv 4 rfl (Or.inl rfl)) (x0a)) (x0a))) (x03) x0s))))))
    (x0d (x2z (x2k (qv 3 rfl (Or.inl rfl)) (x00 (x22 B.m_tuple PyProof.Rows.boot_tuple (x00 (x02 (qv 5 rfl (Or.inl rfl))) (x03) x04)) (x03) x0o)))))))
    (x0d (x0n (x22 B.m_tuple PyProof.Rows.boot_tuple (x00 (x02 (qv 3 rfl (Or.inl rfl))) (x03) x04)))))
noncomputable def y17 : x1b := x3g (e2 dEq (eIx (x1k 0 (x05 1)) (x05 2)) (x05 2))
noncomputable def x1u : List D -> Option (D × Nat) := fnD 3 y17
theorem y4c : FnScope ["ladder", "one", "other"] ["ladder", "one", "other"] (x0c (top 10)) := ⟨rfl, rfl, rfl, by decide +kernel, rfl, by decide +kernel, by decide +kernel⟩
theorem y6a (B : Bt mg)  (a : At K mg "is_below" (top 10) ["ladder", "one", "other"]) : Cal P w K mg base 1 "is_below" 3 x1u :=
  Cal.mkQ (k := 0) a y4c fun f cdv A outer s H E hr =>
    x0d (x0n (z3u hr (x5b (x0w (qv 0 rfl (Or.inl rfl)) (x02 (qv 1 rfl (Or.inl rfl)))) (x02 (qv 2 rfl (Or.inl rfl)))) (x02 (qv 2 rfl (Or.inl rfl)))))
noncomputable def x8f : x1b := x3g (eB z1c (x01 (x33 2 (y88 (x01 (x05 1) (x01 (x05 2) (x0e)))) (y3j (x15 (x0m 3) (x15 (x0m 4) (x66)))) (x2o) (x0g x1u 3 (x01 (x05 0) (x01 (x05 3) (x01 (x05 4) (x0e))))) false) (x0e)))
noncomputable def x2x : List D -> Option (D × Nat) := fnD 3 x8f
theorem y1b : FnScope ["ladder", "one", "other"] ["ladder", "one", "other"] (x0c (top 14)) := ⟨rfl, rfl, rfl, by decide +kernel, rfl, by decide +kernel, by decide +kernel⟩
theorem y3f (B : Bt mg) (c_is_below : Cal P w K mg base 1 "is_below" 3 x1u) (a : At K mg "is_no_more" (top 14) ["ladder", "one", "other"]) : Cal P w K mg base 2 "is_no_more" 3 x2x :=
  Cal.mkQ (k := 1) a y1b fun f cdv A outer s H E hr =>
    x0d (x0n (z1u rfl B.m_all (x00 (x3b (k := 2) (N' := ["ladder", "one", "other", "x", "y"]) false rfl ⟨rfl, by decide +kernel, rfl, rfl, rfl⟩ (z2l B.m_zip (x00 (x02 (qv 1 rfl (Or.inl rfl))) (x00 (x02 (qv 2 rfl (Or.inl rfl))) (x03) x04) x04)) (fun _ _ _ _ => y02 (n := 2) rfl (x28 (x0k (i := 3) (show 3 <= 3 by decide) (show List.Nodup (["ladder", "one", "other", "x", "y"] : List Str) by decide +kernel) rfl (Or.inl rfl) (Or.inr rfl)) (x28 (x0k (i := 4) (show 3 <= 4 by decide) (show List.Nodup (["ladder", "one", "other", "x", "y"] : List Str) by decide +kernel) rfl (Or.inl rfl) (Or.inr rfl)) (x7p))) y8s) (fun _ _ _ _ => x2s) (fun _ _ _ _ => x09 c_is_below hr (by decide) (x00 (x02 (qv 0)) (x00 (x02 (qv 3)) (x00 (x02 (qv 4)) (x03) x04) x04) x04))) (x03) x3c)))
noncomputable def y7s : x1b := x3g (x33 1 (x17 (x01 (x14 0) (x0e))) (x0m 2) (x7w (x0g x1u 3 (x01 (x05 0) (x01 (x05 2) (x01 (x05 1) (x0e)))))) (x05 2) false)
noncomputable def x5f : List D -> Option (D × Nat) := fnD 2 y7s
theorem y9w : FnScope ["ladder", "worth"] ["ladder", "worth"] (x0c (top 11)) := ⟨rfl, rfl, rfl, by decide +kernel, rfl, by decide +kernel, by decide +kernel⟩
theorem z41 (B : Bt mg) (c_is_below : Cal P w K mg base 1 "is_below" 3 x1u) (a : At K mg "below" (top 11) ["ladder", "worth"]) : Cal P w K mg base 2 "below" 2 x5f :=
  Cal.mkQ (k := 1) a y9w fun f cdv A outer s H E hr =>
    x0d (x0n (x3b (k := 1) (N' := ["ladder", "worth", "x"]) false rfl ⟨rfl, by decide +kernel, rfl, rfl, rfl⟩ (x0t B.m_range (x00 (x11 B.m_len (qv 0 rfl (Or.inr (Or.inl rfl)))) (x03) x0o)) (fun _ _ _ _ => x0k (i := 2) (show 2 <= 2 by decide) (show List.Nodup (["ladder", "worth", "x"] : List Str) by decide +kernel) rfl (Or.inl rfl) (Or.inr rfl)) (fun _ _ _ _ => x7g (x4m (x09 c_is_below hr (by decide) (x00 (x02 (qv 0)) (x00 (x02 (qv 2)) (x00 (x02 (qv 1)) (x03) x04) x04) x04)))) (fun _ _ _ _ => x02 (qv 2))))
noncomputable def y7p : x1b := x13 (x6k (x17 (x01 (x14 0) (x0e))) (x0m 2) (x6k (x5d (x0g x5f 2 (x01 (x05 0) (x01 (x05 2) (x0e))))) (x0m 3) (sIf (x4t (x7w (x0g x1u 3 (x01 (x05 0) (x01 (x1k 1 (x05 3)) (x01 (x1k 1 (x05 2)) (x0e))))))) (x3g (eC (.bl false))) (x8u))))
  (x3g (eC (.bl true)))
noncomputable def x83 : List D -> Option (D × Nat) := fnD 4 y7p
theorem y22 : FnScope ["ladder", "rule", "y", "x"] ["ladder", "rule"] (x0c (top 13)) := ⟨rfl, rfl, rfl, by decide +kernel, rfl, by decide +kernel, by decide +kernel⟩
theorem z4b (B : Bt mg) (c_below : Cal P w K mg base 2 "below" 2 x5f) (c_is_below : Cal P w K mg base 1 "is_below" 3 x1u) (a : At K mg "rises" (top 13) ["ladder", "rule"]) : Cal P w K mg base 3 "rises" 2 x83 :=
  Cal.mkQ (k := 2) a y22 fun f cdv A outer s H E hr =>
    x06 (x2h PassesOwn.never rfl (x0t B.m_range (x00 (x11 B.m_len (qv 0 rfl (Or.inl rfl))) (x03) x0o)) (x0k (i := 2) (show 0 <= 2 by decide) y22.nd rfl (Or.inl rfl)) (x0d (x2h PassesOwn.never rfl (x38 (x09 c_below hr (by decide) (x00 (x02 (qv 0 rfl (Or.inl rfl))) (x00 (x02 (qv 2 rfl (Or.inl rfl))) (x03) x04) x04))) (x0k (i := 3) (show 0 <= 3 by decide) y22.nd rfl (Or.inl rfl)) (x0d (x41 (x6p (x4m (x09 c_is_below hr (by decide) (x00 (x02 (qv 0 rfl (Or.inl rfl))) (x00 (x0w (qv 1 rfl (Or.inl rfl)) (x02 (qv 3 rfl (Or.inl rfl)))) (x00 (x0w (qv 1 rfl (Or.inl rfl)) (x02 (qv 2 rfl (Or.inl rfl)))) (x03) x0s) x0s) x04)))) (x0d (x0n (y6g))) (x39))))))
    (x0d (x0n (y6g)))
noncomputable abbrev y7y : x1b := x13 (sIf (x37 (e2 dNe (x33 1 (x17 (x01 (x14 2) (x0e))) (x0m 6) (x4t (x7w (x0g x2x 3 (x01 (x05 1) (x01 (x1k 4 (x05 6)) (x01 (x1k 5 (x05 6)) (x0e))))))) (x05 6) false) (x4k (x0e)))) (x3g (eC (.bl false))) (x8u))
  (x13 (x1p 4 (x05 5))
  (x1p 5 (x0g x10 3 (x01 (x05 1) (x01 (x05 2) (x01 (x05 4) (x0e)))))))
noncomputable def z80 : x1b := x13 (x1p 1 (x0g x3n 2 (x01 (x05 0) (x01 (eC (.int 0)) (x0e)))))
  (x13 (sIf (x37 (e2 dGt (x14 1) (eC (.int 5)))) (x3g (eC (.bl true))) (x8u))
  (x13 (x1p 2 (x0g x35 3 (x01 (x05 0) (x01 (eC (.int 20)) (x01 (x05 1) (x0e))))))
  (x13 (x1p 3 (x0g x4b 2 (x01 (x05 1) (x01 (x05 2) (x0e)))))
  (x13 (sIf (y8v (x4t (x7w (y6o .tuple (x05 3)))) (y8v (x37 (e2 dNe (x14 3) (x14 2))) (x37 (e2 dNe (x0g x10 3 (x01 (x05 1) (x01 (x05 2) (x01 (x05 3) (x0e))))) (x05 3))))) (x3g (eC (.bl false))) (x8u))
  (x13 (x1p 4 (x2e (x01 (x33 1 (x5d (x05 2)) (x0m 6) (x2o) (x9n (x4n (x01 (x0g x16 1 (x01 (x05 1) (x0e))) (x0e))) (x14 1)) false) (x0e))))
  (x13 (x1p 5 (x0g x10 3 (x01 (x05 1) (x01 (x05 2) (x01 (x05 4) (x0e))))))
  (x13 (x8i (x37 (e2 dNe (x05 5) (x05 4))) (x13 (sIf (x37 (e2 dNe (x33 1 (x17 (x01 (x14 2) (x0e))) (x0m 6) (x4t (x7w (x0g x2x 3 (x01 (x05 1) (x01 (x1k 4 (x05 6)) (x01 (x1k 5 (x05 6)) (x0e))))))) (x05 6) false) (x4k (x0e)))) (x3g (eC (.bl false))) (x8u))
  (x13 (x1p 4 (x05 5))
  (x1p 5 (x0g x10 3 (x01 (x05 1) (x01 (x05 2) (x01 (x05 4) (x0e)))))))))
  (x3g (z2v (e2 dEq (x05 3) (x05 4)) (e2 dEq (x33 1 (x5d (x05 3)) (x0m 6) (x4t (x7w (x0g x83 2 (x01 (x05 1) (x01 (x05 6) (x0e)))))) (x05 6) false) (x4k (x0e))))))))))))
noncomputable def y5s : List D -> Option (D × Nat) := fnD 6 z80
theorem x8q : FnScope ["_law_script", "_law_ladder_here", "_law_program_here", "_law_told", "_law_rules", "_law_more"] ["_law_script"] (x0c (top 53)) := ⟨rfl, rfl, rfl, by decide +kernel, rfl, by decide +kernel, by decide +kernel⟩
theorem z4c (B : Bt mg) (c__law_ladder : Cal P w K mg base 4 "_law_ladder" 2 x3n) (c__law_program : Cal P w K mg base 4 "_law_program" 3 x35) (c_summaries : Cal P w K mg base 11 "summaries" 2 x4b) (c__law_next_rules : Cal P w K mg base 3 "_law_next_rules" 3 x10) (c__law_low : Cal P w K mg base 1 "_law_low" 1 x16) (c_is_no_more : Cal P w K mg base 2 "is_no_more" 3 x2x) (c_rises : Cal P w K mg base 3 "rises" 2 x83) {f : Addr} {fd : FuncData} (F : Fun K "law" "law" (top 53) f fd) : FnOk P w K mg base CX0 12 f fd ["_law_script"] (spD K 1 y5s) :=
  z35 (k := 11) F x8q fun f cdv A outer s H E hr =>
    x06 (x0l (i := 1) x8q.nd rfl (Or.inr rfl) (x09 c__law_ladder hr (by decide) (x00 (x02 (qv 0 rfl (Or.inl rfl))) (x00 (x0a) (x03) x08) x04)))
    (x06 (x41 (z6x (x11 B.m_len (qv 1 rfl (Or.inr (Or.inl rfl)))) (x0a)) (x0d (x0n (y6g))) (x39))
    (x06 (x0l (i := 2) x8q.nd rfl (Or.inl rfl) (x09 c__law_program hr (by decide) (x00 (x02 (qv 0 rfl (Or.inl rfl))) (x00 (x0a) (x00 (x02 (qv 1 rfl (Or.inr (Or.inl rfl)))) (x03) x04) x08) x04)))
    (x06 (x0l (i := 3) x8q.nd rfl (Or.inl rfl) (x09 c_summaries hr (by decide) (x00 (x02 (qv 1 rfl (Or.inr (Or.inl rfl)))) (x00 (x02 (qv 2 rfl (Or.inl rfl))) (x03) x04) x04)))
    (x06 (x41 (z0l (y34 (x6p (x4m (y0x .tuple B.m_isinstance B.m_tuple PyProof.Rows.boot_tuple (x02 (qv 3 rfl (Or.inl rfl)))))) (y34 (x75 hr (x11 B.m_len (qv 3 rfl (Or.inl rfl))) (x11 B.m_len (qv 2 rfl (Or.inl rfl)))) (y4k (x75 hr (x09 c__law_next_rules hr (by decide) (x00 (x02 (qv 1 rfl (Or.inr (Or.inl rfl)))) (x00 (x02 (qv 2 rfl (Or.inl rfl))) (x00 (x02 (qv 3 rfl (Or.inl rfl))) (x03) x04) x04) x04)) (x02 (qv 3 rfl (Or.inl rfl)))))))) (x0d (x0n (y6g))) (x39))
    (x06 (x0l (i := 4) x8q.nd rfl (Or.inr rfl) (x22 B.m_tuple PyProof.Rows.boot_tuple (x00 (x3b (k := 1) (N' := ["_law_script", "_law_ladder_here", "_law_program_here", "_law_told", "_law_rules", "_law_more", "_law_house"]) false rfl ⟨rfl, by decide +kernel, rfl, rfl, rfl⟩ (x38 (x02 (qv 2 rfl (Or.inl rfl)))) (fun _ _ _ _ => x0k (i := 6) (show 6 <= 6 by decide) (show List.Nodup (["_law_script", "_law_ladder_here", "_law_program_here", "_law_told", "_law_rules", "_law_more", "_law_house"] : List Str) by decide +kernel) rfl (Or.inl rfl) (Or.inr rfl)) (fun _ _ _ _ => x2s) (fun _ _ _ _ => y85 (x3o (x00 (x09 c__law_low hr (by decide) (x00 (x02 (qv 1)) (x03) x04)) (x03) x0o)) (x11 B.m_len (qv 1)))) (x03) x3c)))
    (x06 (x0l (i := 5) x8q.nd rfl (Or.inr rfl) (x09 c__law_next_rules hr (by decide) (x00 (x02 (qv 1 rfl (Or.inr (Or.inl rfl)))) (x00 (x02 (qv 2 rfl (Or.inl rfl))) (x00 (x02 (qv 4 rfl (Or.inr (Or.inl rfl)))) (x03) x04) x04) x04)))
    (x06 (x71 PassesOwn.never (x75 hr (x02 (qv 5 rfl (Or.inr (Or.inl rfl)))) (x02 (qv 4 rfl (Or.inr (Or.inl rfl))))) (x06 (x41 (x75 hr (x3b (k := 1) (N' := ["_law_script", "_law_ladder_here", "_law_program_here", "_law_told", "_law_rules", "_law_more", "_law_k"]) false rfl ⟨rfl, by decide +kernel, rfl, rfl, rfl⟩ (x0t B.m_range (x00 (x11 B.m_len (qv 2 rfl (Or.inl rfl))) (x03) x0o)) (fun _ _ _ _ => x0k (i := 6) (show 6 <= 6 by decide) (show List.Nodup (["_law_script", "_law_ladder_here", "_law_program_here", "_law_told", "_law_rules", "_law_more", "_law_k"] : List Str) by decide +kernel) rfl (Or.inl rfl) (Or.inr rfl)) (fun _ _ _ _ => x7g (x6p (x4m (x09 c_is_no_more hr (by decide) (x00 (x02 (qv 1)) (x00 (x0w (qv 4) (x02 (qv 6))) (x00 (x0w (qv 5) (x02 (qv 6))) (x03) x0s) x0s) x04))))) (fun _ _ _ _ => x02 (qv 6))) (x24 (x03))) (x0d (x0n (y6g))) (x39))
    (x06 (x0l (i := 4) x8q.nd rfl (Or.inr rfl) (x02 (qv 5 rfl (Or.inr (Or.inl rfl)))))
    (x0d (x0l (i := 5) x8q.nd rfl (Or.inr rfl) (x09 c__law_next_rules hr (by decide) (x00 (x02 (qv 1 rfl (Or.inr (Or.inl rfl)))) (x00 (x02 (qv 2 rfl (Or.inl rfl))) (x00 (x02 (qv 4 rfl (Or.inr (Or.inl rfl)))) (x03) x04) x04) x04)))))))
    (x0d (x0n (y7d (z3u hr (x02 (qv 3 rfl (Or.inl rfl))) (x02 (qv 4 rfl (Or.inr (Or.inl rfl))))) (y7k (z3u hr (x3b (k := 1) (N' := ["_law_script", "_law_ladder_here", "_law_program_here", "_law_told", "_law_rules", "_law_more", "_law_rule_here"]) false rfl ⟨rfl, by decide +kernel, rfl, rfl, rfl⟩ (x38 (x02 (qv 3 rfl (Or.inl rfl)))) (fun _ _ _ _ => x0k (i := 6) (show 6 <= 6 by decide) (show List.Nodup (["_law_script", "_law_ladder_here", "_law_program_here", "_law_told", "_law_rules", "_law_more", "_law_rule_here"] : List Str) by decide +kernel) rfl (Or.inl rfl) (Or.inr rfl)) (fun _ _ _ _ => x7g (x6p (x4m (x09 c_rises hr (by decide) (x00 (x02 (qv 1)) (x00 (x02 (qv 6)) (x03) x04) x04))))) (fun _ _ _ _ => x02 (qv 6))) (x24 (x03))))))))))))))
end
noncomputable abbrev scr (ns : List Int) : D := .lst (ns.map D.int)
noncomputable def y96 (ns : List Int) (k : Int) : Int := if k < ns.length then ns.getD k.toNat 0 else if ns = [] then 0 else ns.getD (k % ns.length).toNat 0 * 31 + k
theorem z1z {ns : List Int} {k : Int} (h0 : 0 <= k) (h : k < ns.length) : L2.atI (ns.map D.int) k = some (.int (ns.getD k.toNat 0)) := by
  obtain ⟨m, rfl⟩ : ∃ m : Nat, k = Int.ofNat m := ⟨k.toNat, by show k = (k.toNat : Int); omega⟩
  have hk : m < ns.length := by have : (m : Int) < ns.length := h; omega
  apply y2y
  rw [List.getElem?_map, List.getElem?_eq_getElem hk]
  simp [hk]
theorem z74 (ns : List Int) : Sh 1 (scr ns) := .lst fun d m => by
  obtain ⟨x, _, rfl⟩ := List.mem_map.mp m
  exact .int _
theorem z1t (ns : List Int) : dEq (scr ns) (.lst []) = some (.bl (decide (ns = []))) := by
  unfold dEq
  rw [if_pos ⟨(z74 ns).ok, (z5n []).ok⟩]
  cases ns <;> rfl
theorem z4k (ns : List Int) (k : Int) (h0 : 0 <= k) : x49 [scr ns, .int k] = some (.int (y96 ns k), 9) := by
  unfold x49 x9h y96
  by_cases h : k < ns.length
  · simp [h, z1z h0 h, x8r, atD]
  · by_cases hn : ns = []
    · subst hn
      have h' : ¬ k < 0 := by omega
      simp [h', x8r, z1t]
    · have hp : (0 : Int) < ns.length := by have := List.length_pos_iff.mpr hn; omega
      have h1 := Int.emod_nonneg k (Int.ne_of_gt hp)
      have h2 := Int.emod_lt_of_pos k hp
      have h3 := z1z h1 h2
      have hp' := List.length_pos_iff.mpr hn
      simp [h, x8r, atD, z1t, hn, hp', h3]
noncomputable def x8j (ns : List Int) (k : Int) : Int := (y96 ns k + 6151 * (k + 1)) * 40692 % 2147483399
noncomputable def x8v (ns : List Int) (k m : Int) : Int := (x8j ns k * x8j ns k + x8j ns k / 31) % 2147483629 % m
theorem x6i (ns : List Int) (k m : Int) (h0 : 0 <= k) (hm : 0 < m) : x0b [scr ns, .int k, .int m] = some (.int (x8v ns k m), 9) := by
  have d0 : 0 <= x8j ns k := Int.emod_nonneg _ (by decide)
  have d1 : x8j ns k < 2147483399 := Int.emod_lt_of_pos _ (by decide)
  have g1 : -18446744073709551616 < x8j ns k := by omega
  have g2 : x8j ns k < 18446744073709551616 := by omega
  have hd : (y96 ns k + 6151 * (k + 1)) * 40692 % 2147483399 = x8j ns k := rfl
  unfold x0b x9y x8v
  simp [z4k ns k h0, hm, hd, g1, g2]
theorem x5s (ns : List Int) (k : Int) {m : Int} (hm : 0 < m) : 0 <= x8v ns k m := Int.emod_nonneg _ (Int.ne_of_gt hm)
theorem x6u (ns : List Int) (k : Int) {m : Int} (hm : 0 < m) : x8v ns k m < m := Int.emod_lt_of_pos _ hm
noncomputable def tf (rows : List (List Nat)) (i j : Nat) : Nat := (rows.getD i []).getD j 0
noncomputable def x3h (rows : List (List Nat)) : D := x3q rows.length (tf rows)
noncomputable def ch (n : Nat) : List (List Nat) := (List.range n).map fun i => (List.range n).map fun j => max i j
noncomputable def cp (a b : List (List Nat)) : List (List Nat) := (List.range (a.length * b.length)).map fun i => (List.range (a.length * b.length)).map fun j => tf a (i / b.length) (j / b.length) * b.length + tf b (i % b.length) (j % b.length)
noncomputable def sb (n : Nat) : List (List Nat) := (List.range (n + 2)).map fun i => (List.range (n + 2)).map fun j => if i = 0 \/ j = 0 \/ i = j then max i j else n + 1
noncomputable def n5 : List (List Nat) := [[0, 1, 2, 3, 4], [1, 1, 2, 4, 4], [2, 2, 2, 4, 4], [3, 4, 4, 3, 4], [4, 4, 4, 4, 4]]
noncomputable def y2t : List (List (List Nat)) := [ch 1, ch 2, ch 3, ch 4, ch 5, cp (ch 2) (ch 2), cp (ch 2) (ch 3), cp (ch 2) (ch 4), sb 0, sb 1, sb 2, sb 3, sb 4, cp (ch 2) (cp (ch 2) (ch 2)), n5]
theorem ch1 : x0y [.int 1] = some (x3h (ch 1), 1) := by rfl
theorem ch2 : x0y [.int 2] = some (x3h (ch 2), 1) := by rfl
theorem ch3 : x0y [.int 3] = some (x3h (ch 3), 1) := by rfl
theorem ch4 : x0y [.int 4] = some (x3h (ch 4), 1) := by rfl
theorem ch5 : x0y [.int 5] = some (x3h (ch 5), 1) := by rfl
theorem sb0 : x0v [.int 0] = some (x3h (sb 0), 0) := by rfl
theorem sb1 : x0v [.int 1] = some (x3h (sb 1), 0) := by rfl
theorem sb2 : x0v [.int 2] = some (x3h (sb 2), 0) := by rfl
theorem sb3 : x0v [.int 3] = some (x3h (sb 3), 0) := by rfl
theorem sb4 : x0v [.int 4] = some (x3h (sb 4), 0) := by rfl
theorem j0m : x18 [x3h (ch 2), x3h (ch 2)] = some (x3h (cp (ch 2) (ch 2)), 0) := by rfl
theorem j1c : x18 [x3h (ch 2), x3h (ch 3)] = some (x3h (cp (ch 2) (ch 3)), 0) := by rfl
theorem j15 : x18 [x3h (ch 2), x3h (ch 4)] = some (x3h (cp (ch 2) (ch 4)), 0) := by rfl
theorem z9x : x18 [x3h (ch 2), x3h (cp (ch 2) (ch 2))] = some (x3h (cp (ch 2) (cp (ch 2) (ch 2))), 0) := by rfl
theorem z3t (ns : List Int) (t : Int) (h0 : 0 <= t) : ∃ rows ∈ y2t, ∃ q, x48 [scr ns, .int t] = some (x3h rows, q) := by
  have k0 := x5s ns t (m := 9) (by decide)
  have k1 := x6u ns t (m := 9) (by decide)
  have p0 := x5s ns (t + 1) (m := 5) (by decide)
  have p1 := x6u ns (t + 1) (m := 5) (by decide)
  have r0 := x5s ns (t + 1) (m := 3) (by decide)
  have r1 := x6u ns (t + 1) (m := 3) (by decide)
  have e9 := x6i ns t 9 h0 (by decide)
  have e5 := x6i ns (t + 1) 5 (by omega) (by decide)
  have e3 := x6i ns (t + 1) 3 (by omega) (by decide)
  have mem : ∀ i : Nat, i < 15 -> y2t.getD i [] ∈ y2t := fun i hi => by
    rw [List.getD_eq_getElem?_getD, List.getElem?_eq_getElem (show i < y2t.length from hi)]
    exact List.getElem_mem _
  have hc : ∀ p : Int, 0 <= p -> p < 5 -> ∃ rows ∈ y2t, x0y [.int (1 + p)] = some (x3h rows, 1) := fun p a b => by
    have : p = 0 \/ p = 1 \/ p = 2 \/ p = 3 \/ p = 4 := by omega
    rcases this with rfl | rfl | rfl | rfl | rfl
    · exact ⟨_, mem 0 (by decide), ch1⟩
    · exact ⟨_, mem 1 (by decide), ch2⟩
    · exact ⟨_, mem 2 (by decide), ch3⟩
    · exact ⟨_, mem 3 (by decide), ch4⟩
    · exact ⟨_, mem 4 (by decide), ch5⟩
  have hs : ∀ p : Int, 0 <= p -> p < 5 -> ∃ rows ∈ y2t, x0v [.int p] = some (x3h rows, 0) := fun p a b => by
    have : p = 0 \/ p = 1 \/ p = 2 \/ p = 3 \/ p = 4 := by omega
    rcases this with rfl | rfl | rfl | rfl | rfl
    · exact ⟨_, mem 8 (by decide), sb0⟩
    · exact ⟨_, mem 9 (by decide), sb1⟩
    · exact ⟨_, mem 10 (by decide), sb2⟩
    · exact ⟨_, mem 11 (by decide), sb3⟩
    · exact ⟨_, mem 12 (by decide), sb4⟩
  have hp : ∀ r : Int, 0 <= r -> r < 3 -> ∃ x rows1 rows, atD (.lst [.int 2, .int 3, .int 4]) r = some (.int x) /\ x0y [.int x] = some (x3h rows1, 1) /\ rows ∈ y2t /\ x18 [x3h (ch 2), x3h rows1] = some (x3h rows, 0) := fun r a b => by
    have : r = 0 \/ r = 1 \/ r = 2 := by omega
    rcases this with rfl | rfl | rfl
    · exact ⟨2, _, _, rfl, ch2, mem 5 (by decide), j0m⟩
    · exact ⟨3, _, _, rfl, ch3, mem 6 (by decide), j1c⟩
    · exact ⟨4, _, _, rfl, ch4, mem 7 (by decide), j15⟩
  unfold x48 x9t
  generalize x8v ns t 9 = k at *
  generalize x8v ns (t + 1) 5 = p at *
  generalize x8v ns (t + 1) 3 = r at *
  by_cases h3 : k < 3
  · obtain ⟨rows, hm, e⟩ := hc p p0 p1
    exact ⟨rows, hm, 1, by simp [e9, e5, h3, e]⟩
  by_cases h5 : k < 5
  · obtain ⟨x, rows1, rows, ea, e1, hm, e2'⟩ := hp r r0 r1
    exact ⟨rows, hm, 0, by simp [e9, e3, h3, h5, ch2, ea, e1, e2']⟩
  by_cases h7 : k < 7
  · obtain ⟨rows, hm, e⟩ := hs p p0 p1
    exact ⟨rows, hm, 0, by simp [e9, e5, h3, h5, h7, e]⟩
  have : k = 7 \/ k = 8 := by omega
  rcases this with rfl | rfl
  · exact ⟨_, mem 13 (by decide), 0, by simp [e9, y8p, ch2, j0m]; exact z9x⟩
  · refine ⟨_, mem 14 (by decide), 0, ?_⟩
    simp [e9, y8p]
    rfl
theorem y9k : ∀ rows ∈ y2t, z91 rows.length (tf rows) = true := by decide +kernel
noncomputable def pk (ns : List Int) (t : Int) (k m : Nat) : Nat := (x8v ns (t + 2 + Int.ofNat k) (Int.ofNat m)).toNat
theorem z2z (ns : List Int) (t : Int) (k m : Nat) (h : 0 < m) : pk ns t k m < m := by
  have h1 := x5s ns (t + 2 + Int.ofNat k) (m := Int.ofNat m) (by show (0 : Int) < m; omega)
  have h2 := x6u ns (t + 2 + Int.ofNat k) (m := Int.ofNat m) (by show (0 : Int) < m; omega)
  have h3 : (Int.ofNat m) = (m : Int) := rfl
  unfold pk
  omega
theorem j0e (ns : List Int) (t : Int) (k m : Nat) (h : 0 < m) : x8v ns (t + 2 + Int.ofNat k) (Int.ofNat m) = Int.ofNat (pk ns t k m) := by
  have h1 := x5s ns (t + 2 + Int.ofNat k) (m := Int.ofNat m) (by show (0 : Int) < m; omega)
  unfold pk
  show _ = ((x8v ns (t + 2 + Int.ofNat k) (Int.ofNat m)).toNat : Int)
  omega
section
variable (ns : List Int) (t : Int) (n : Nat) (B : Nat -> Nat -> Nat) (q : Nat)
theorem y9o (h0 : 0 <= t) (hn : n <= 8) : x5e 1 (x0m 8) x2o (z51 3 (x01 (x0g x0b 3 (x01 (x05 0) (x01 (e2 x2w (e2 x2w (x05 1) (eC (.int 2))) (x05 8)) (x01 (x14 3) (x0e))))) (x0e))) false (x1d n)
    [some (scr ns, 0), some (.int t, 9), some (x3q n B, q), some (.lst (x1d n), 1), none, none, none, none] =
    some (x0h ((List.range n).map (drawn (pk ns t) n)), [some (scr ns, 0), some (.int t, 9), some (x3q n B, q), some (.lst [], 1), none, none, none, none]) := by
  have hp := z2z ns t
  have h := x4f (k := 1) (pt := x0m 8) (tt := x2o) (te := z51 3 (x01 (x0g x0b 3 (x01 (x05 0) (x01 (e2 x2w (e2 x2w (x05 1) (eC (.int 2))) (x05 8)) (x01 (x14 3) (x0e))))) (x0e))) (deep := false) (x1d n)
    (fun k => [some (scr ns, 0), some (.int t, 9), some (x3q n B, q), some (.lst (x0h (x59 (pk ns t) n k)), 1), none, none, none, none]) (fun _ => true) (fun k => .int (Int.ofNat (drawn (pk ns t) n k))) (fun k hk => ?_)
  · rw [x0z] at h
    have hl : x59 (pk ns t) n n = [] := List.length_eq_zero_iff.mp (by rw [x7j hp n (Nat.le_refl n)]; omega)
    rw [hl] at h
    have e1 : (List.range n).filter (fun _ => true) = List.range n := by simp
    rw [e1] at h
    simp only [x0h, List.map_map, Function.comp_def]
    exact h
  · rw [x0z] at hk
    have hl := x7j hp k (Nat.le_of_lt hk)
    have hlp : 0 < (x59 (pk ns t) n k).length := by rw [hl]; omega
    have e := j0e ns t k _ hlp
    have hj := z2z ns t k _ hlp
    have hpk := x6i ns (t + 2 + Int.ofNat k) (Int.ofNat (x59 (pk ns t) n k).length) (by show 0 <= t + 2 + (k : Int); omega) (by show (0 : Int) < ((x59 (pk ns t) n k).length : Int); omega)
    have hs : seqIndex? (Int.ofNat (pk ns t k (x59 (pk ns t) n k).length)) (x0h (x59 (pk ns t) n k)).length = some (pk ns t k (x59 (pk ns t) n k).length) := (y49 (x82 (by rw [x1c]; exact hj))).1
    have hg : (x0h (x59 (pk ns t) n k))[pk ns t k (x59 (pk ns t) n k).length]? = some (.int (Int.ofNat (drawn (pk ns t) n k))) := by
      rw [y58]
      unfold drawn
      rw [List.getD_eq_getElem?_getD, List.getElem?_eq_getElem hj]
      rfl
    have hb : pk ns t k (x59 (pk ns t) n k).length <= 8 := by omega
    have he : (x0h (x59 (pk ns t) n k)).eraseIdx (pk ns t k (x59 (pk ns t) n k).length) = x0h (x59 (pk ns t) n (k + 1)) := by rw [x59, y0q]
    refine ⟨[some (scr ns, 0), some (.int t, 9), some (x3q n B, q), some (.lst (x0h (x59 (pk ns t) n k)), 1), none, none, none, none, some (.int (Int.ofNat k), 9)], _, by simp [x1d], rfl, ?_⟩
    rw [if_pos rfl]
    refine ⟨9, [some (scr ns, 0), some (.int t, 9), some (x3q n B, q), some (.lst (x0h (x59 (pk ns t) n (k + 1))), 1), none, none, none, none, some (.int (Int.ofNat k), 9)], ?_, by simp, by simp⟩
    have b1 : (-1000 : Int) <= Int.ofNat (pk ns t k (x59 (pk ns t) n k).length) := by show (-1000 : Int) <= (pk ns t k (x59 (pk ns t) n k).length : Int); omega
    have b2 : Int.ofNat (pk ns t k (x59 (pk ns t) n k).length) <= 1000 := by show (pk ns t k (x59 (pk ns t) n k).length : Int) <= 1000; omega
    have hl' : x8r (.lst (x0h (x59 (pk ns t) n k))) = some (x59 (pk ns t) n k).length := by simp [x8r, x1c]
    rw [e] at hpk
    simp [-Int.ofNat_eq_natCast, hl', hpk, hs, hg, he, b1, b2]
theorem z2a (hn : n <= 8) (x : Option (D × Nat)) : x5e 1 (x0m 8) x2o (x9a (x4k (x01 (eC (.int 0)) (x0e))) (x14 2)) true ((List.range n).map fun i => x7m n B i)
    [some (scr ns, 0), some (.int t, 9), some (x3q n B, 0), some (.lst [], 1), x, none, none, none] =
    some ((List.range n).map fun i => x7m n (fun _ _ => 0) i, [some (scr ns, 0), some (.int t, 9), some (x3q n B, 0), some (.lst [], 1), x, none, none, none]) := by
  have h := x4f (k := 1) (pt := x0m 8) (tt := x2o) (te := x9a (x4k (x01 (eC (.int 0)) (x0e))) (x14 2)) (deep := true) ((List.range n).map fun i => x7m n B i)
    (fun _ => [some (scr ns, 0), some (.int t, 9), some (x3q n B, 0), some (.lst [], 1), x, none, none, none]) (fun _ => true) (fun i => x7m n (fun _ _ => 0) i) (fun k hk => ?_)
  · rw [List.length_map, List.length_range, show (List.range n).filter (fun _ => true) = List.range n by simp] at h
    exact h
  · refine ⟨[some (scr ns, 0), some (.int t, 9), some (x3q n B, 0), some (.lst [], 1), x, none, none, none, some (x7m n B k, 0)], _, by simp [x7m], rfl, ?_⟩
    rw [if_pos rfl]
    refine ⟨1, [some (scr ns, 0), some (.int t, 9), some (x3q n B, 0), some (.lst [], 1), x, none, none, none, some (x7m n B k, 0)], ?_, by simp, by simp⟩
    have z : x7m n (fun _ _ => 0) k = D.lst (List.replicate n [D.int 0]).flatten := (z92 n).symm
    have b1 : (-1000 : Int) <= n := by omega
    have b2 : (n : Int) <= 1000 := by omega
    have b3 : n <= 1000 := by omega
    rw [z]
    simp [x6v, b1, b2, b3]
noncomputable def gst (π ι : Nat -> Nat) (i j a b : Nat) : Nat := if ι a < i \/ (ι a = i /\ ι b < j) then π (B (ι a) (ι b)) else 0
noncomputable abbrev y4l : x1b := y68 5 (qIx 4 (y6p 6)) (qIx 4 (y6p 7)) (x1k 4 (eIx (x1k 2 (x05 6)) (x05 7)))
section
variable {n B} {π ι : Nat -> Nat} (cl : ∀ i j, i < n -> j < n -> B i j < n) (h1 : ∀ i, i < n -> π i < n) (h2 : ∀ i, i < n -> ι i < n) (h3 : ∀ i, i < n -> ι (π i) = i) (h4 : ∀ i, i < n -> π (ι i) = i)
include cl h1 h2 h3 h4
theorem y89 {f : Nat -> Nat -> Nat} {i j : Nat} (hi : i < n) (hj : j < n) {y : Option (D × Nat)} :
    y4l [some (scr ns, 0), some (.int t, 9), some (x3q n B, 0), some (.lst [], 1), some (.lst (x0h ((List.range n).map π)), 1), some (x3q n f, 2), some (.int (Int.ofNat i), 9), some (.int (Int.ofNat j), 9)] =
    some (.nx [some (scr ns, 0), some (.int t, 9), some (x3q n B, 0), some (.lst [], 1), some (.lst (x0h ((List.range n).map π)), 1), some (x3q n (fun a b => if a = π i /\ b = π j then π (B i j) else f a b), 2), some (.int (Int.ofNat i), 9), some (.int (Int.ofNat j), 9)]) := by
  have a1 := z2b (f := B) hi
  have a2 := z4i (f := B) (i := i) hj
  have a3 : atD (.lst (x0h ((List.range n).map π))) (Int.ofNat (B i j)) = some (.int (Int.ofNat (π (B i j)))) := x2f (cl i j hi hj)
  have a4 : atD (.lst (x0h ((List.range n).map π))) (Int.ofNat i) = some (.int (Int.ofNat (π i))) := x2f hi
  have a5 : atD (.lst (x0h ((List.range n).map π))) (Int.ofNat j) = some (.int (Int.ofNat (π j))) := x2f hj
  have a6 : ixN ((List.range n).map fun a => x7m n f a).length (Int.ofNat (π i)) = some (π i) := x82 (by simpa using h1 i hi)
  have a7 : ((List.range n).map fun a => x7m n f a)[π i]? = some (.lst (x0h ((List.range n).map fun b => f (π i) b))) := by rw [List.getElem?_map, List.getElem?_range (h1 i hi)]; rfl
  have a8 : ixN (x0h ((List.range n).map fun b => f (π i) b)).length (Int.ofNat (π j)) = some (π j) := x82 (by simpa [x1c] using h1 j hj)
  have a9 := z13 (n := n) (f := f) (a := π i) (b := π j) (v := π (B i j))
  rw [<- a9]
  show y4l [some (scr ns, 0), some (.int t, 9), some (x3q n B, 0), some (.lst [], 1), some (.lst (x0h ((List.range n).map π)), 1), some (.lst ((List.range n).map fun a => x7m n f a), 2), some (.int (Int.ofNat i), 9), some (.int (Int.ofNat j), 9)] = _
  unfold y4l
  simp only [y68, x1k, eIx, x05, qIx, y6p, List.getElem?_cons_succ, List.getElem?_cons_zero, D.isL, if_true, a1, a2, a3, a4, a5, a6, a7, a8, ne_eq, not_true_eq_false, false_and, and_false, if_false, Bool.false_eq_true, reduceCtorEq, Nat.not_lt_zero, Nat.lt_irrefl, y0h, List.set_cons_succ, List.set_cons_zero]
noncomputable abbrev y4s (f : Nat -> Nat -> Nat) (x y : Option (D × Nat)) : Rho := [some (scr ns, 0), some (.int t, 9), some (x3q n B, 0), some (.lst [], 1), some (.lst (x0h ((List.range n).map π)), 1), some (x3q n f, 2), x, y]
omit cl h1 h2 h3 h4
theorem y0z {i : Nat} (h : i < (x1d n).length) : (x1d n)[i] = .int (Int.ofNat i) := by simp [x1d]
include cl h1 h2 h3 h4
theorem y9q {i j : Nat} (hi : i < n) (hj : j < n) : x3q n (fun a b => if a = π i /\ b = π j then π (B i j) else gst B π ι i j a b) = x3q n (gst B π ι i (j + 1)) := by
  refine x5y fun a b ha hb => ?_
  unfold gst
  by_cases h : a = π i /\ b = π j
  · obtain ⟨rfl, rfl⟩ := h
    rw [if_pos ⟨rfl, rfl⟩, h3 i hi, h3 j hj, if_pos (.inr ⟨rfl, Nat.lt_succ_self _⟩)]
  · rw [if_neg h]
    have : ¬ (ι a = i /\ ι b = j) := fun ⟨e1, e2⟩ => h ⟨by rw [<- e1, h4 a ha], by rw [<- e2, h4 b hb]⟩
    by_cases c : ι a < i \/ ι a = i /\ ι b < j
    · rw [if_pos c, if_pos (by omega)]
    · rw [if_neg c, if_neg (by omega)]
theorem z3w {i : Nat} : x3q n (gst B π ι i n) = x3q n (gst B π ι (i + 1) 0) := by
  refine x5y fun a b ha hb => ?_
  have := h2 b hb
  unfold gst
  by_cases c : ι a < i \/ ι a = i /\ ι b < n
  · rw [if_pos c, if_pos (by omega)]
  · rw [if_neg c, if_neg (by omega)]
theorem z0z (hn : n <= 8) {i : Nat} (hi : i < n) (y : Option (D × Nat)) : ∃ y', x8z (x0m 7) y4l (x1d n) (y4s ns t (n := n) (B := B) (π := π) (gst B π ι i 0) (some (.int (Int.ofNat i), 9)) y) =
    some (.nx (y4s ns t (n := n) (B := B) (π := π) (gst B π ι (i + 1) 0) (some (.int (Int.ofNat i), 9)) y')) := by
  obtain ⟨ρ', e, y', rfl⟩ := x5w (pt := x0m 7) (body := y4l) (x1d n) (fun j ρ => ∃ y, ρ = y4s ns t (n := n) (B := B) (π := π) (gst B π ι i j) (some (.int (Int.ofNat i), 9)) y) (y4s ns t (n := n) (B := B) (π := π) (gst B π ι i 0) (some (.int (Int.ofNat i), 9)) y) (fun j hj ρ hh0 => by
    obtain ⟨y, hy⟩ := hh0
    subst hy
    rw [x0z] at hj
    refine ⟨y4s ns t (n := n) (B := B) (π := π) (gst B π ι i j) (some (.int (Int.ofNat i), 9)) (some (.int (Int.ofNat j), 9)), _, by rw [y0z]; simp, .inl (y89 ns t cl h1 h2 h3 h4 hi hj (y := none)), ?_⟩
    rw [y9q cl h1 h2 h3 h4 hi hj]
    exact ⟨_, rfl⟩) ⟨y, rfl⟩
  refine ⟨y', ?_⟩
  rw [e, x0z]
  show some (Out.nx [_, _, _, _, _, some (x3q n (gst B π ι i n), 2), _, _]) = _
  rw [z3w cl h1 h2 h3 h4]
theorem y9n (hn : n <= 8) (x y : Option (D × Nat)) : ∃ x' y', x8z (x0m 6) (x6k (x17 (x01 (x14 2) x0e)) (x0m 7) y4l) (x1d n) (y4s ns t (n := n) (B := B) (π := π) (fun _ _ => 0) x y) =
    some (.nx (y4s ns t (n := n) (B := B) (π := π) (fun a b => π (B (ι a) (ι b))) x' y')) := by
  have z : x3q n (fun _ _ => 0) = x3q n (gst B π ι 0 0) := x5y fun a b _ _ => by unfold gst; rw [if_neg (by omega)]
  have z' : x3q n (gst B π ι n 0) = x3q n (fun a b => π (B (ι a) (ι b))) := x5y fun a b ha _ => by unfold gst; rw [if_pos (.inl (h2 a ha))]
  obtain ⟨ρ', e, x', y', rfl⟩ := x5w (pt := x0m 6) (body := x6k (x17 (x01 (x14 2) x0e)) (x0m 7) y4l) (x1d n) (fun i ρ => ∃ x y, ρ = y4s ns t (n := n) (B := B) (π := π) (gst B π ι i 0) x y) (y4s ns t (n := n) (B := B) (π := π) (gst B π ι 0 0) x y) (fun i hi ρ hh0 => by
    obtain ⟨x, y, hy⟩ := hh0
    subst hy
    rw [x0z] at hi
    obtain ⟨y', hy'⟩ := z0z ns t cl h1 h2 h3 h4 hn hi y
    refine ⟨y4s ns t (n := n) (B := B) (π := π) (gst B π ι i 0) (some (.int (Int.ofNat i), 9)) y, _, by rw [y0z]; simp, .inl (show _ = some (Out.nx (y4s ns t (n := n) (B := B) (π := π) (gst B π ι (i + 1) 0) (some (.int (Int.ofNat i), 9)) y')) from ?_), ⟨_, _, rfl⟩⟩
    have b1 : (-1000 : Int) <= Int.ofNat n := by show (-1000 : Int) <= n; omega
    have b2 : Int.ofNat n <= 1000 := by show (n : Int) <= 1000; omega
    have e : x17 (x01 (x14 2) x0e) (y4s ns t (n := n) (B := B) (π := π) (gst B π ι i 0) (some (.int (Int.ofNat i), 9)) y) = some (x1d n, y4s ns t (n := n) (B := B) (π := π) (gst B π ι i 0) (some (.int (Int.ofNat i), 9)) y) := by
      simp [-Int.ofNat_eq_natCast, x6v, b1, b2]
      rfl
    unfold x6k
    rw [e]
    exact hy') ⟨x, y, rfl⟩
  refine ⟨x', y', ?_⟩
  show x8z _ _ _ [_, _, _, _, _, some (x3q n (fun _ _ => 0), 2), _, _] = some (.nx [_, _, _, _, _, some (x3q n (fun a b => π (B (ι a) (ι b))), 2), _, _])
  rw [z, <- z']
  rw [x0z] at e
  exact e
end
end
theorem y98 {n : Nat} {f : Nat -> Nat -> Nat} {a b c d e : Option (D × Nat)} {x y : Option (D × Nat)} : x5e 1 (x0m 8) x2o (x2e (x01 (x05 8) x0e)) false ((List.range n).map fun i => x7m n f i) [a, b, c, d, e, some (x3q n f, 0), x, y] =
    some ((List.range n).map fun i => y6n n f i, [a, b, c, d, e, some (x3q n f, 0), x, y]) := by
  have h := x4f (k := 1) (pt := x0m 8) (tt := x2o) (te := x2e (x01 (x05 8) x0e)) (deep := false) ((List.range n).map fun i => x7m n f i)
    (fun _ => [a, b, c, d, e, some (x3q n f, 0), x, y]) (fun _ => true) (fun i => y6n n f i) (fun k hk => ?_)
  · rw [List.length_map, List.length_range, show (List.range n).filter (fun _ => true) = List.range n by simp] at h
    exact h
  · refine ⟨[a, b, c, d, e, some (x3q n f, 0), x, y, some (x7m n f k, 0)], _, by simp [x7m], rfl, ?_⟩
    rw [if_pos rfl]
    exact ⟨9, [a, b, c, d, e, some (x3q n f, 0), x, y, some (x7m n f k, 0)], by simp [x7m, y6n], by simp, by simp⟩
theorem x3m {n : Nat} (hn : n <= 1000) {i : Nat} {ρ : Rho} {d : D} {q : Nat} (h : ρ[i]? = some (some (d, q))) (hl : x8r d = some n) : x17 (x01 (x14 i) x0e) ρ = some (x1d n, ρ) := by
  have b1 : (-1000 : Int) <= Int.ofNat n := by show (-1000 : Int) <= n; omega
  have b2 : Int.ofNat n <= 1000 := by show (n : Int) <= 1000; omega
  simp only [x17, x01, x14, x0e, h, hl]
  rw [if_pos ⟨b1, b2⟩]
  rfl
theorem z5p (ns : List Int) (t : Int) (h0 : 0 <= t) : ∃ n f, Lad n f /\ x3n [scr ns, .int t] = some (x0r n f, 9) := by
  obtain ⟨rows, hm, q, hb⟩ := z3t ns t h0
  have L := z37 (y9k rows hm)
  unfold x3h at hb
  revert hb L
  generalize rows.length = n
  generalize tf rows = B
  intro hb L
  have hp := z2z ns t
  have hn : n <= 1000 := Nat.le_trans L.hi (by decide)
  refine ⟨n, fun a b => drawn (pk ns t) n (B (x3k (pk ns t) n a) (x3k (pk ns t) n b)), L.ren (fun i hi => y59 hp hi) (fun i hi => y0w hp hi) (fun i hi => x7b hp hi) (fun i hi => x76 hp hi), ?_⟩
  unfold x3n x7o
  refine x2t ?_
  have s0 : x7u 8 [scr ns, .int t] = [some (scr ns, 0), some (.int t, 9), none, none, none, none, none, none] := rfl
  rw [s0]
  refine (x0i (ρ1 := [some (scr ns, 0), some (.int t, 9), some (x3q n B, q), none, none, none, none, none]) ?_).trans ?_
  · simp [hb]
  refine (x0i (ρ1 := [some (scr ns, 0), some (.int t, 9), some (x3q n B, q), some (.lst (x1d n), 1), none, none, none, none]) ?_).trans ?_
  · exact x1s (y33 (x3m hn rfl x6v)) rfl
  refine (x0i (ρ1 := [some (scr ns, 0), some (.int t, 9), some (x3q n B, q), some (.lst [], 1), some (.lst (x0h ((List.range n).map (drawn (pk ns t) n))), 1), none, none, none]) ?_).trans ?_
  · exact x1s (x1x (x3m hn rfl x6v) (y9o ns t n B q h0 L.hi)) rfl
  refine (x0i (ρ1 := [some (scr ns, 0), some (.int t, 9), some (x3q n B, 0), some (.lst [], 1), some (.lst (x0h ((List.range n).map (drawn (pk ns t) n))), 1), some (x3q n (fun _ _ => 0), 2), none, none]) ?_).trans ?_
  · have e : x5d (x05 2) [some (scr ns, 0), some (.int t, 9), some (x3q n B, q), some (.lst [], 1), some (.lst (x0h ((List.range n).map (drawn (pk ns t) n))), 1), none, none, none] = some ((List.range n).map fun i => x7m n B i, [some (scr ns, 0), some (.int t, 9), some (x3q n B, 0), some (.lst [], 1), some (.lst (x0h ((List.range n).map (drawn (pk ns t) n))), 1), none, none, none]) := by
      by_cases hq : q = 0
      · subst hq; simp [x3q, hn]
      · simp [x3q, hn, hq]
    exact x1s (x1x e (z2a ns t n B L.hi _)) rfl
  obtain ⟨x', y', hf⟩ := y9n ns t (n := n) (B := B) (π := drawn (pk ns t) n) (ι := x3k (pk ns t) n) L.cl (fun i hi => y59 hp hi) (fun i hi => y0w hp hi) (fun i hi => x7b hp hi) (fun i hi => x76 hp hi) L.hi none none
  refine (x0i ((x31 (x3m hn rfl x6v)).trans hf)).trans ?_
  refine x2r (ρ1 := [some (scr ns, 0), some (.int t, 9), some (x3q n B, 0), some (.lst [], 1), some (.lst (x0h ((List.range n).map (drawn (pk ns t) n))), 1), some (x3q n (fun a b => drawn (pk ns t) n (B (x3k (pk ns t) n a) (x3k (pk ns t) n b))), 0), x', y']) ?_
  have e : x5d (x05 5) (y4s ns t (n := n) (B := B) (π := drawn (pk ns t) n) (fun a b => drawn (pk ns t) n (B (x3k (pk ns t) n a) (x3k (pk ns t) n b))) x' y') = some ((List.range n).map fun i => x7m n (fun a b => drawn (pk ns t) n (B (x3k (pk ns t) n a) (x3k (pk ns t) n b))) i, [some (scr ns, 0), some (.int t, 9), some (x3q n B, 0), some (.lst [], 1), some (.lst (x0h ((List.range n).map (drawn (pk ns t) n))), 1), some (x3q n (fun a b => drawn (pk ns t) n (B (x3k (pk ns t) n a) (x3k (pk ns t) n b))), 0), x', y']) := by
    simp [x3q, hn]
  have e2 := x1x (k := 1) (pt := x0m 8) (tt := x2o) (te := x2e (x01 (x05 8) x0e)) (deep := false) e y98
  exact x1t (x0x e2)
section
variable {n : Nat} {f : Nat -> Nat -> Nat}
theorem x55 {x w : Nat} (hx : x < n) (hw : w < n) : x1u [x0r n f, .int (Int.ofNat x), .int (Int.ofNat w)] = some (.bl (decide (f x w = w)), 9) := by
  unfold x1u y17
  simp [-Int.ofNat_eq_natCast, x6t hx, x7x hw, y3n]
theorem z0r (hn : n <= 1000) {w : Nat} (hw : w < n) : x5f [x0r n f, .int (Int.ofNat w)] = some (.lst (x0h ((List.range n).filter fun x => decide (f x w = w))), 1) := by
  unfold x5f y7s
  refine x2t (x2r (x1x (deep := false) (ρ2 := [some (x0r n f, 9), some (.int (Int.ofNat w), 9)]) (x3m hn rfl x1r) ?_))
  refine y42 (i := 2) (ρ := [some (x0r n f, 9), some (.int (Int.ofNat w), 9)]) (deep := false) rfl (fun x => decide (f x w = w)) (fun x => .int (Int.ofNat x)) (fun _ => 9) (fun j hj => ?_) (fun j hj _ => ?_)
  · simp [-Int.ofNat_eq_natCast, x55 hj hw]
  · simp [-Int.ofNat_eq_natCast]
end
section
variable {n : Nat} {f : Nat -> Nat -> Nat}
theorem y8x (hn : n <= 1000) {w : Nat} (hw : w < n) : x2c [x0r n f, .int (Int.ofNat w)] = some (.lst (x0h ((List.range n).filter fun x => decide (f x w = w))), 1) := by
  unfold x2c x8g
  refine x2t (x2r (x1x (deep := false) (ρ2 := [some (x0r n f, 9), some (.int (Int.ofNat w), 9)]) (x3m hn rfl x1r) ?_))
  refine y42 (i := 2) (ρ := [some (x0r n f, 9), some (.int (Int.ofNat w), 9)]) (deep := false) rfl (fun x => decide (f x w = w)) (fun x => .int (Int.ofNat x)) (fun _ => 9) (fun j hj => ?_) (fun j hj _ => ?_)
  · simp [-Int.ofNat_eq_natCast, x6t hj, x7x hw, y3n]
  · simp [-Int.ofNat_eq_natCast]
variable (L : Lad n f) {z : Nat} (hz : z < n) (bz : ∀ j, j < n -> f z j = j)
include L hz bz
theorem z83 {w : Nat} (hw : w < n) : decide ((List.range n).map (fun j => f w j) = List.range n) = decide (w = z) := by
  rw [decide_eq_decide, y32]
  exact ⟨fun h => L.bot_uniq hz bz hw h, fun h => by subst h; exact bz⟩
theorem y5n (hn : n <= 1000) : x16 [x0r n f] = some (.int (Int.ofNat z), 9) := by
  unfold x16 y0i
  refine x2t (x2r (ρ1 := [some (x0r n f, 9)]) ?_)
  have hc : x33 1 (x17 (x01 (x14 0) (x0e))) (x0m 1) (x37 (e2 dEq (x6l (x01 (x1k 0 (x05 1)) (x0e))) (x8m (x01 (x14 0) (x0e))))) (x05 1) false (x7u 1 [x0r n f]) = some (.lst (x0h [z]), 1, [some (x0r n f, 9)]) := by
    refine (x1x (deep := false) (ρ2 := [some (x0r n f, 9)]) (x3m hn rfl x1r) (y42 rfl (fun x => decide (x = z)) (fun x => .int (Int.ofNat x)) (fun _ => 9) (fun j hj => ?_) (fun j hj _ => ?_))).trans ?_
    · have e1 : x6l (x01 (x1k 0 (x05 1)) x0e) ([some (x0r n f, 9)] ++ [some (.int (Int.ofNat j), 9)]) = some (.lst (x0h ((List.range n).map fun k => f j k)), 1, [some (x0r n f, 9), some (.int (Int.ofNat j), 9)]) := by
        simp [-Int.ofNat_eq_natCast, x6t hj, y6n]
      have e2' : x8m (x01 (x14 0) x0e) [some (x0r n f, 9), some (.int (Int.ofNat j), 9)] = some (.lst (x0h (List.range n)), 1, [some (x0r n f, 9), some (.int (Int.ofNat j), 9)]) := y33 (x3m hn rfl x1r)
      unfold x37 e2
      rw [e1]
      simp only [e2', z64, z83 L hz bz hj]
      rfl
    · simp [-Int.ofNat_eq_natCast]
    · rw [y0r, if_pos hz]
      rfl
  unfold eIx
  rw [hc]
  simp [-Int.ofNat_eq_natCast, atD, x0h, L2.atI, ixN]
theorem z4m (hn : n <= 1000) {l : List Nat} (hl : l.length <= 1000) (hm : ∀ x ∈ l, x < n) : x3a [x0r n f, .lst (x0h l)] = some (.int (Int.ofNat (l.foldl f z)), 9) := by
  unfold x3a y00
  refine x2t ?_
  refine (x0i (ρ1 := [some (x0r n f, 9), some (.lst (x0h l), 0), some (.int (Int.ofNat z), 9), none]) ?_).trans ?_
  · simp [-Int.ofNat_eq_natCast, y5n L hz bz hn]
  obtain ⟨ρ', e, y, rfl⟩ := x5w (pt := x0m 3) (body := x1p 2 (eIx (x1k 0 (x05 2)) (x05 3))) (x0h l) (fun i ρ => ∃ y, ρ = [some (x0r n f, 9), some (.lst (x0h l), 0), some (.int (Int.ofNat ((l.take i).foldl f z)), 9), y]) [some (x0r n f, 9), some (.lst (x0h l), 0), some (.int (Int.ofNat z), 9), none] (fun i hi ρ hh0 => by
    obtain ⟨y, hy⟩ := hh0
    subst hy
    have hi' : i < l.length := by rw [x1c] at hi; exact hi
    have hg : (x0h l)[i] = .int (Int.ofNat l[i]) := by simp [x0h]
    have hx : l[i] < n := hm _ (List.getElem_mem hi')
    have ha : (l.take i).foldl f z < n := L.fold_lt hz fun x m => hm x (List.mem_of_mem_take m)
    refine ⟨[some (x0r n f, 9), some (.lst (x0h l), 0), some (.int (Int.ofNat ((l.take i).foldl f z)), 9), some (.int (Int.ofNat l[i]), 9)], [some (x0r n f, 9), some (.lst (x0h l), 0), some (.int (Int.ofNat ((l.take (i + 1)).foldl f z)), 9), some (.int (Int.ofNat l[i]), 9)], ?_, .inl ?_, ⟨_, rfl⟩⟩
    · rw [hg]; simp
    · rw [List.take_succ_eq_append_getElem hi', List.foldl_append]
      simp [-Int.ofNat_eq_natCast, x6t ha, x7x hx]) ⟨none, rfl⟩
  rw [x1c, List.take_length] at e
  refine (x0i ((x31 (ds := x0h l) (ρ1 := [some (x0r n f, 9), some (.lst (x0h l), 0), some (.int (Int.ofNat z), 9), none]) ?_).trans e)).trans ?_
  · simp [x1c, hl]
  · simp [-Int.ofNat_eq_natCast]
end
section
variable {n : Nat} {f : Nat -> Nat -> Nat}
variable (L : Lad n f) {z : Nat} (hz : z < n) (bz : ∀ j, j < n -> f z j = j)
include L hz bz
theorem y5i (hn : n <= 1000) : x2n [x0r n f] = some (.int (Int.ofNat z), 9) := by
  have b1 : (-1000 : Int) <= Int.ofNat n := by show (-1000 : Int) <= n; omega
  have b2 : Int.ofNat n <= 1000 := by show (n : Int) <= 1000; omega
  have hr : x32 [.int (Int.ofNat n)] = some (.tup (x0h (List.range n)), 9) := by
    unfold x32 x6e
    simp [-Int.ofNat_eq_natCast, b1, b2]
    rfl
  have hi : z8v (.tup (x0h (List.range n))) ((List.range n).map fun i => y6n n f i) = some z := by
    unfold z8v
    rw [y5h, List.map_map]
    have ev : ∀ i, i < n -> PyData.eqv (toP (y6n n f i)) (toP (.tup (x0h (List.range n)))) = decide (i = z) := fun i hi => (z44 _ _).trans (z83 L hz bz hi)
    refine x7k (x := toP (y6n n f z)) ?_ ?_ ?_
    · rw [List.getElem?_map, List.getElem?_range hz]; rfl
    · rw [ev z hz]; simp
    · intro i y hi hy
      have hi' : i < n := Nat.lt_trans hi hz
      rw [List.getElem?_map, List.getElem?_range hi'] at hy
      cases hy
      refine (ev i hi').trans ?_
      simp; omega
  have h1 : okD (.tup ((List.range n).map fun i => y6n n f i)) = true := (z30 n f).ok
  have h2 : okD (.tup (x0h (List.range n))) = true := (z52 _).ok
  have hl : x8r (.tup ((List.range n).map fun i => y6n n f i)) = some n := x1r (f := f)
  unfold x2n y15 x0r
  simp [-Int.ofNat_eq_natCast, hr, hl, h1, h2, hi]
end
section
variable {n : Nat} {f : Nat -> Nat -> Nat}
noncomputable def y5e (n : Nat) (f : Nat -> Nat -> Nat) (r : Nat -> Nat) : Bool := (List.range n).all fun y => (Lad.low n f y).all fun x => decide (f (r x) (r y) = r y)
theorem y5w {r : Nat -> Nat} : y5e n f r = true ↔ ∀ y x, y < n -> x < n -> f x y = y -> f (r x) (r y) = r y := by
  unfold y5e
  rw [L3.range_all]
  simp only [List.all_eq_true, Lad.mem_low, decide_eq_true_eq]
  exact ⟨fun h y x hy hx e => h y hy x ⟨hx, e⟩, fun h y hy x e => h y x hy e.1 e.2⟩
theorem z07 (hn : n <= 1000) {r : Nat -> Nat} (hr : ∀ i, i < n -> r i < n) : x83 [x0r n f, x21 n r] = some (.bl (y5e n f r), 9) := by
  unfold x83 y7p
  refine x2t ?_
  have hs : x7u 4 [x0r n f, x21 n r] = [some (x0r n f, 9), some (x21 n r, 9), none, none] := rfl
  rw [hs]
  obtain ⟨h1, h2⟩ := y1z (pt := x0m 2) (body := x6k (x5d (x0g x5f 2 (x01 (x05 0) (x01 (x05 2) (x0e))))) (x0m 3) (sIf (x4t (x7w (x0g x1u 3 (x01 (x05 0) (x01 (x1k 1 (x05 3)) (x01 (x1k 1 (x05 2)) (x0e))))))) (x3g (eC (.bl false))) (x8u))) (d := .bl false) (q := 9) (x1d n) (fun ρ => ∃ x y, ρ = [some (x0r n f, 9), some (x21 n r, 9), x, y]) (fun y => (Lad.low n f y).all fun x => decide (f (r x) (r y) = r y)) [some (x0r n f, 9), some (x21 n r, 9), none, none] (fun y hy ρ ⟨a, b, e⟩ => by
    subst e
    have hy' : y < n := by rw [x0z] at hy; exact hy
    refine ⟨[some (x0r n f, 9), some (x21 n r, 9), some (.int (Int.ofNat y), 9), b], by rw [show (x1d n)[y] = .int (Int.ofNat y) by simp [x1d]]; simp, ?_⟩
    have hl : (x0h (Lad.low n f y)).length <= 1000 := by
      rw [x1c]
      have := List.length_filter_le (fun x => decide (f x y = y)) (List.range n)
      rw [List.length_range] at this
      exact Nat.le_trans this hn
    have hi : x5d (x0g x5f 2 (x01 (x05 0) (x01 (x05 2) (x0e)))) [some (x0r n f, 9), some (x21 n r, 9), some (.int (Int.ofNat y), 9), b] = some (x0h (Lad.low n f y), [some (x0r n f, 9), some (x21 n r, 9), some (.int (Int.ofNat y), 9), b]) := by
      have hb : x5f [x0r n f, .int (Int.ofNat y)] = some (.lst (x0h (Lad.low n f y)), 1) := z0r hn hy'
      simp [-Int.ofNat_eq_natCast, hb, hl]
    obtain ⟨i1, i2⟩ := y1z (pt := x0m 3) (body := sIf (x4t (x7w (x0g x1u 3 (x01 (x05 0) (x01 (x1k 1 (x05 3)) (x01 (x1k 1 (x05 2)) (x0e))))))) (x3g (eC (.bl false))) (x8u)) (d := .bl false) (q := 9) (x0h (Lad.low n f y)) (fun ρ => ∃ b, ρ = [some (x0r n f, 9), some (x21 n r, 9), some (.int (Int.ofNat y), 9), b]) (fun i => decide (f (r ((Lad.low n f y).getD i 0)) (r y) = r y)) [some (x0r n f, 9), some (x21 n r, 9), some (.int (Int.ofNat y), 9), b] (fun i hi' ρ ⟨b, e⟩ => by
      subst e
      have hm := y1h (l := Lad.low n f y) (i := i) (by rw [x1c] at hi'; exact hi')
      have hx := (Lad.mem_low.mp hm).1
      rw [y3b hi']
      refine ⟨[some (x0r n f, 9), some (x21 n r, 9), some (.int (Int.ofNat y), 9), some (.int (Int.ofNat ((Lad.low n f y).getD i 0)), 9)], by simp, fun ok => ⟨[some (x0r n f, 9), some (x21 n r, 9), some (.int (Int.ofNat y), 9), some (.int (Int.ofNat ((Lad.low n f y).getD i 0)), 9)], ?_, ⟨_, rfl⟩⟩, fun no => ?_⟩
      · have ok' := of_decide_eq_true ok
        simp [-Int.ofNat_eq_natCast, -List.getD_eq_getElem?_getD, x63 hx, x63 hy', x55 (f := f) (hr _ hx) (hr _ hy'), ok']
      · have no' := of_decide_eq_false no
        simp [-Int.ofNat_eq_natCast, -List.getD_eq_getElem?_getD, x63 hx, x63 hy', x55 (f := f) (hr _ hx) (hr _ hy'), no']) ⟨b, rfl⟩
    rw [x1c, y5p (fun x => decide (f (r x) (r y) = r y))] at i1 i2
    refine ⟨fun ok => ?_, fun no => (x31 hi).trans (i2 no)⟩
    obtain ⟨ρ2, e, b', rfl⟩ := i1 ok
    exact ⟨_, (x31 hi).trans e, _, _, rfl⟩) ⟨none, none, rfl⟩
  rw [x0z] at h1 h2
  cases h : y5e n f r with
  | true =>
    obtain ⟨ρ', e, x, y, rfl⟩ := h1 h
    exact (x0i ((x31 (x3m hn rfl x1r)).trans e)).trans rfl
  | false => exact y70 ((x31 (x3m hn rfl x1r)).trans (h2 h))
end
section
variable {n : Nat} {f : Nat -> Nat -> Nat}
theorem y20 (hn : n <= 1000) {r s : Nat -> Nat} (hr : ∀ i, i < n -> r i < n) (hs : ∀ i, i < n -> s i < n) : x2x [x0r n f, x21 n r, x21 n s] = some (.bl ((List.range n).all fun i => decide (f (r i) (s i) = s i)), 9) := by
  unfold x2x x8f
  refine x2t (x2r (ρ1 := [some (x0r n f, 9), some (x21 n r, 9), some (x21 n s, 9)]) ?_)
  have hz : y88 (x01 (x05 1) (x01 (x05 2) (x0e))) [some (x0r n f, 9), some (x21 n r, 9), some (x21 n s, 9)] = some ((List.range n).map fun j => .tup [.int (Int.ofNat (r j)), .int (Int.ofNat (s j))], [some (x0r n f, 9), some (x21 n r, 9), some (x21 n s, 9)]) := by
    have := y7r n r s
    simp [-Int.ofNat_eq_natCast, x21, x1c, hn, this]
  have hc := x1x (k := 2) (tt := x2o) (te := x0g x1u 3 (x01 (x05 0) (x01 (x05 3) (x01 (x05 4) (x0e))))) (deep := false) hz (j0a (i := 3) rfl r s (fun _ => true) (fun j => .bl (decide (f (r j) (s j) = s j))) (fun _ => 9) (fun j hj => rfl) (fun j hj _ => by
    simp [-Int.ofNat_eq_natCast, x55 (f := f) (hr j hj) (hs j hj)]))
  rw [show (List.range n).filter (fun _ => true) = List.range n by simp] at hc
  refine z7j (x0x hc) ?_
  simp only [z1c, y53, Option.map_some]
  simp [List.all_map, Function.comp_def]
end
section
variable {n : Nat} {f : Nat -> Nat -> Nat}
variable (L : Lad n f) {z : Nat} (hz : z < n) (bz : ∀ j, j < n -> f z j = j)
include L hz bz
theorem y4f (ns : List Int) (t : Int) (h0 : 0 <= t) : ∃ d : Nat -> Nat, (∀ i, i < n -> d i < n) /\ x2u [scr ns, .int t, x0r n f] = some (x21 n (Lad.lr n f z d), 9) := by
  have hn : n <= 1000 := Nat.le_trans L.hi (by decide)
  have hnp : (0 : Int) < Int.ofNat n := by show (0 : Int) < (n : Int); omega
  -- what is drawn for a worth
  have dr : ∀ i, ∃ v, v < n /\ (i < n -> ∀ ρ : Rho, ρ[0]? = some (some (scr ns, 0)) -> ρ[1]? = some (some (.int t, 9)) -> ρ[2]? = some (some (x0r n f, 9)) -> ρ[3]? = some (some (.int (Int.ofNat z), 9)) -> ρ[5]? = some (some (.int (Int.ofNat i), 9)) ->
      eIx (x4k (x01 (x05 3) (x01 (x05 5) (x01 (x0g x0b 3 (x01 (x05 0) (x01 (e2 x2w (x05 1) (x05 5)) (x01 (x14 2) (x0e))))) (x0e))))) (x0g x0b 3 (x01 (x05 0) (x01 (e2 x2w (e2 x2w (x05 1) (eC (.int 8))) (x05 5)) (x01 (eC (.int 3)) (x0e))))) ρ = some (.int (Int.ofNat v), 9, ρ)) := fun i => by
    have e1 := x6i ns (t + Int.ofNat i) (Int.ofNat n) (by show 0 <= t + (i : Int); omega) hnp
    have e2' := x6i ns (t + 8 + Int.ofNat i) 3 (by show 0 <= t + 8 + (i : Int); omega) (by decide)
    have l1 := x5s ns (t + Int.ofNat i) hnp
    have l2 := x6u ns (t + Int.ofNat i) hnp
    have k1 := x5s ns (t + 8 + Int.ofNat i) (m := 3) (by decide)
    have k2 := x6u ns (t + 8 + Int.ofNat i) (m := 3) (by decide)
    generalize x8v ns (t + Int.ofNat i) (Int.ofNat n) = a at *
    generalize x8v ns (t + 8 + Int.ofNat i) 3 = b at *
    obtain ⟨a', rfl⟩ : ∃ a' : Nat, a = Int.ofNat a' := ⟨a.toNat, by show a = (a.toNat : Int); omega⟩
    have ha' : a' < n := by have : (a' : Int) < (n : Int) := l2; omega
    by_cases hi : i < n
    · have hb : b = 0 \/ b = 1 \/ b = 2 := by omega
      rcases hb with rfl | rfl | rfl
      · refine ⟨z, hz, fun _ ρ h0 h1 h2 h3 h5 => ?_⟩
        simp [-Int.ofNat_eq_natCast, h0, h1, h2, h3, h5, x1r, e1, e2', atD, L2.atI, ixN]
      · refine ⟨i, hi, fun _ ρ h0 h1 h2 h3 h5 => ?_⟩
        simp [-Int.ofNat_eq_natCast, h0, h1, h2, h3, h5, x1r, e1, e2', atD, L2.atI, ixN]
      · refine ⟨a', ha', fun _ ρ h0 h1 h2 h3 h5 => ?_⟩
        simp [-Int.ofNat_eq_natCast, h0, h1, h2, h3, h5, x1r, e1, e2', atD, L2.atI, ixN]
    · exact ⟨z, hz, fun h => absurd h hi⟩
  obtain ⟨d, hd⟩ : ∃ d : Nat -> Nat, ∀ i, d i < n /\ (i < n -> ∀ ρ : Rho, ρ[0]? = some (some (scr ns, 0)) -> ρ[1]? = some (some (.int t, 9)) -> ρ[2]? = some (some (x0r n f, 9)) -> ρ[3]? = some (some (.int (Int.ofNat z), 9)) -> ρ[5]? = some (some (.int (Int.ofNat i), 9)) ->
      eIx (x4k (x01 (x05 3) (x01 (x05 5) (x01 (x0g x0b 3 (x01 (x05 0) (x01 (e2 x2w (x05 1) (x05 5)) (x01 (x14 2) (x0e))))) (x0e))))) (x0g x0b 3 (x01 (x05 0) (x01 (e2 x2w (e2 x2w (x05 1) (eC (.int 8))) (x05 5)) (x01 (eC (.int 3)) (x0e))))) ρ = some (.int (Int.ofNat (d i)), 9, ρ)) :=
    ⟨fun i => (dr i).choose, fun i => (dr i).choose_spec⟩
  refine ⟨d, fun i _ => (hd i).1, ?_⟩
  unfold x2u x9k
  refine x2t ?_
  have hs : x7u 7 [scr ns, .int t, x0r n f] = [some (scr ns, 0), some (.int t, 9), some (x0r n f, 9), none, none, none, none] := rfl
  rw [hs]
  refine (x0i (ρ1 := [some (scr ns, 0), some (.int t, 9), some (x0r n f, 9), some (.int (Int.ofNat z), 9), none, none, none]) ?_).trans ?_
  · simp [-Int.ofNat_eq_natCast, y5n L hz bz hn]
  refine (x0i (ρ1 := [some (scr ns, 0), some (.int t, 9), some (x0r n f, 9), some (.int (Int.ofNat z), 9), some (.lst [], 1), none, none]) ?_).trans ?_
  · simp
  obtain ⟨ρ', e, y, rfl⟩ := x5w (pt := x0m 5) (body := x3f (x7v 4 (x01 (eIx (x4k (x01 (x05 3) (x01 (x05 5) (x01 (x0g x0b 3 (x01 (x05 0) (x01 (e2 x2w (x05 1) (x05 5)) (x01 (x14 2) (x0e))))) (x0e))))) (x0g x0b 3 (x01 (x05 0) (x01 (e2 x2w (e2 x2w (x05 1) (eC (.int 8))) (x05 5)) (x01 (eC (.int 3)) (x0e)))))) (x0e)))) (x1d n)
    (fun i ρ => ∃ y, ρ = [some (scr ns, 0), some (.int t, 9), some (x0r n f, 9), some (.int (Int.ofNat z), 9), some (.lst (x0h ((List.range i).map d)), 1), y, none])
    [some (scr ns, 0), some (.int t, 9), some (x0r n f, 9), some (.int (Int.ofNat z), 9), some (.lst [], 1), none, none] (fun i hi ρ hh0 => by
      obtain ⟨y, hy⟩ := hh0
      subst hy
      have hi' : i < n := by rw [x0z] at hi; exact hi
      have hdi := (hd i).2 hi' [some (scr ns, 0), some (.int t, 9), some (x0r n f, 9), some (.int (Int.ofNat z), 9), some (.lst (x0h ((List.range i).map d)), 1), some (.int (Int.ofNat i), 9), none] rfl rfl rfl rfl rfl
      refine ⟨[some (scr ns, 0), some (.int t, 9), some (x0r n f, 9), some (.int (Int.ofNat z), 9), some (.lst (x0h ((List.range i).map d)), 1), some (.int (Int.ofNat i), 9), none], [some (scr ns, 0), some (.int t, 9), some (x0r n f, 9), some (.int (Int.ofNat z), 9), some (.lst (x0h ((List.range (i + 1)).map d)), 1), some (.int (Int.ofNat i), 9), none], ?_, .inl ?_, ⟨_, rfl⟩⟩
      · rw [show (x1d n)[i] = .int (Int.ofNat i) by simp [x1d]]; simp
      · have ex : x0h ((List.range (i + 1)).map d) = x0h ((List.range i).map d) ++ [.int (Int.ofNat (d i))] := by rw [List.range_succ]; simp [x0h]
        have hl : (x0h ((List.range i).map d)).length <= 1000 := by rw [x1c, List.length_map, List.length_range]; omega
        exact x6j rfl (x0x hdi) rfl hl (by rw [ex]; rfl)) ⟨none, rfl⟩
  rw [x0z] at e
  refine (x0i ((x31 (x3m hn rfl x1r)).trans e)).trans ?_
  refine (x0i (ρ1 := [some (scr ns, 0), some (.int t, 9), some (x0r n f, 9), some (.int (Int.ofNat z), 9), some (.lst (x0h ((List.range n).map d)), 1), y, some (.lst [], 1)]) ?_).trans ?_
  · simp
  have hdn : ∀ i, i < n -> d i < n := fun i _ => (hd i).1
  obtain ⟨ρ', e, y', rfl⟩ := x5w (pt := x0m 5) (body := x3f (x7v 6 (x01 (x0g x3a 2 (x01 (x05 2) (x01 (x33 1 (x5d (x0g x2c 2 (x01 (x05 2) (x01 (x05 5) (x0e))))) (x0m 7) (x2o) (x1k 4 (x05 7)) false) (x0e)))) (x0e)))) (x1d n)
    (fun i ρ => ∃ y, ρ = [some (scr ns, 0), some (.int t, 9), some (x0r n f, 9), some (.int (Int.ofNat z), 9), some (.lst (x0h ((List.range n).map d)), 1), y, some (.lst (x0h ((List.range i).map (Lad.lr n f z d))), 1)])
    [some (scr ns, 0), some (.int t, 9), some (x0r n f, 9), some (.int (Int.ofNat z), 9), some (.lst (x0h ((List.range n).map d)), 1), y, some (.lst [], 1)] (fun i hi ρ hh0 => by
      obtain ⟨y, hy⟩ := hh0
      subst hy
      have hi' : i < n := by rw [x0z] at hi; exact hi
      refine ⟨[some (scr ns, 0), some (.int t, 9), some (x0r n f, 9), some (.int (Int.ofNat z), 9), some (.lst (x0h ((List.range n).map d)), 1), some (.int (Int.ofNat i), 9), some (.lst (x0h ((List.range i).map (Lad.lr n f z d))), 1)], [some (scr ns, 0), some (.int t, 9), some (x0r n f, 9), some (.int (Int.ofNat z), 9), some (.lst (x0h ((List.range n).map d)), 1), some (.int (Int.ofNat i), 9), some (.lst (x0h ((List.range (i + 1)).map (Lad.lr n f z d))), 1)], ?_, .inl ?_, ⟨_, rfl⟩⟩
      · rw [show (x1d n)[i] = .int (Int.ofNat i) by simp [x1d]]; simp
      · have ex : x0h ((List.range (i + 1)).map (Lad.lr n f z d)) = x0h ((List.range i).map (Lad.lr n f z d)) ++ [.int (Int.ofNat (Lad.lr n f z d i))] := by rw [List.range_succ]; simp [x0h]
        have hl : (x0h ((List.range i).map (Lad.lr n f z d))).length <= 1000 := by rw [x1c, List.length_map, List.length_range]; omega
        have hlow : (Lad.low n f i).length <= 1000 := by
          have := List.length_filter_le (fun y => decide (f y i = i)) (List.range n)
          rw [List.length_range] at this
          exact Nat.le_trans this hn
        have hit : x5d (x0g x2c 2 (x01 (x05 2) (x01 (x05 5) (x0e)))) [some (scr ns, 0), some (.int t, 9), some (x0r n f, 9), some (.int (Int.ofNat z), 9), some (.lst (x0h ((List.range n).map d)), 1), some (.int (Int.ofNat i), 9), some (.lst (x0h ((List.range i).map (Lad.lr n f z d))), 1)] = some (x0h (Lad.low n f i), [some (scr ns, 0), some (.int t, 9), some (x0r n f, 9), some (.int (Int.ofNat z), 9), some (.lst (x0h ((List.range n).map d)), 1), some (.int (Int.ofNat i), 9), some (.lst (x0h ((List.range i).map (Lad.lr n f z d))), 1)]) := by
          have hb : x2c [x0r n f, .int (Int.ofNat i)] = some (.lst (x0h (Lad.low n f i)), 1) := y8x hn hi'
          simp [-Int.ofNat_eq_natCast, hb, x1c, hlow]
        have hc := x1x (k := 1) (te := x1k 4 (x05 7)) (deep := false) hit (z9i (i := 7) (Lad.low n f i) rfl (fun y => .int (Int.ofNat (d y))) (fun _ => 9) (fun y hy => by
          have hyn := (Lad.mem_low.mp hy).1
          have hat : atD (.lst (x0h ((List.range n).map d))) (Int.ofNat y) = some (.int (Int.ofNat (d y))) := x2f hyn
          simp [-Int.ofNat_eq_natCast, hat]))
        have hm : ∀ y ∈ (Lad.low n f i).map d, y < n := Lad.lr_mem L hz bz hdn
        have e' : ((Lad.low n f i).map fun y => D.int (Int.ofNat (d y))) = x0h ((Lad.low n f i).map d) := by simp [x0h]
        rw [e'] at hc
        have hj : x3a [x0r n f, .lst (x0h ((Lad.low n f i).map d))] = some (.int (Int.ofNat (Lad.lr n f z d i)), 9) := z4m L hz bz hn (by rw [List.length_map]; exact hlow) hm
        have ha := x0x (x0u (n := 2) (x1e (f := x05 2) (q := 9) (d := x0r n f) (ρ := [some (scr ns, 0), some (.int t, 9), some (x0r n f, 9), some (.int (Int.ofNat z), 9), some (.lst (x0h ((List.range n).map d)), 1), some (.int (Int.ofNat i), 9), some (.lst (x0h ((List.range i).map (Lad.lr n f z d))), 1)]) (ρ1 := [some (scr ns, 0), some (.int t, 9), some (x0r n f, 9), some (.int (Int.ofNat z), 9), some (.lst (x0h ((List.range n).map d)), 1), some (.int (Int.ofNat i), 9), some (.lst (x0h ((List.range i).map (Lad.lr n f z d))), 1)]) rfl (x0x hc)) rfl hj)
        exact x6j rfl ha rfl hl (by rw [ex]; rfl)) ⟨y, rfl⟩
  rw [x0z] at e
  refine (x0i ((x31 (x3m hn rfl x1r)).trans e)).trans ?_
  exact x2r (x1t (x0x (q := 0) (ρ1 := [some (scr ns, 0), some (.int t, 9), some (x0r n f, 9), some (.int (Int.ofNat z), 9), some (.lst (x0h ((List.range n).map d)), 1), y', some (.lst (x0h ((List.range n).map (Lad.lr n f z d))), 0)]) rfl))
end
noncomputable def x86 (n : Nat) : D -> Bool
  | .int i => decide (0 <= i) && decide (i < (n : Int))
  | _ => false
theorem x2g (d : D) : x30 [d] = some (.bl (match d with | .int _ => true | _ => false), 9) := by
  unfold x30 y0s
  cases d <;> simp [isD]
theorem x8p (n : Nat) (d : D) : x1z [d, .int (Int.ofNat n)] = some (.bl (x86 n d), 9) := by
  unfold x1z x6d
  cases d with
  | int i =>
    have h := x2g (.int i)
    by_cases h0 : 0 <= i
    · by_cases h1 : i < (n : Int)
      · simp [h, x86, h0, h1]
      · simp [h, x86, h0, h1]
    · simp [h, x86, h0]
  | non => simp [x2g, x86]
  | bl b => simp [x2g, x86]
  | str x => simp [x2g, x86]
  | tup ds => simp [x2g, x86]
  | lst ds => simp [x2g, x86]
  | dic ks ds => simp [x2g, x86]
  | exc nm => simp [x2g, x86]
section
variable {n : Nat} {f : Nat -> Nat -> Nat}
theorem y6z (hn : n <= 1000) (v : Nat) : x4d [x0r n f, .int (Int.ofNat v)] = some (x21 n fun _ => v, 9) := by
  unfold x4d y51
  have b1 : (-1000 : Int) <= n := by omega
  have b2 : (n : Int) <= 1000 := by omega
  have e : (List.replicate n [D.int (Int.ofNat v)]).flatten = x0h ((List.range n).map fun _ => v) := by
    simp [x0h, List.flatten_replicate_singleton, List.map_const']
  have e' : (List.replicate n [D.int (v : Int)]).flatten = x0h ((List.range n).map fun _ => v) := e
  simp [x1r, b1, b2, hn, x21, e']
end
theorem z9q {i : Nat} {te : Den} {ρ : Rho} (ds : List D) (hi : ρ.length = i) (v : D -> D) (q : D -> Nat)
    (he : ∀ d, d ∈ ds -> te (ρ ++ [some (d, y0h d)]) = some (v d, q d, ρ ++ [some (d, y0h d)])) :
    x5e 1 (x0m i) x2o te false ds ρ = some (ds.map v, ρ) := by
  have h := x4f (k := 1) (pt := x0m i) (tt := x2o) (te := te) (deep := false) ds (fun _ => ρ) (fun _ => true) (fun j => v (ds.getD j .non)) (fun j hj => ?_)
  · rw [show (List.range ds.length).filter (fun _ => true) = List.range ds.length by simp] at h
    rw [h]
    have e : (List.range ds.length).map (fun j => v (ds.getD j .non)) = ds.map v := by
      apply List.ext_getElem?
      intro k
      by_cases hk : k < ds.length
      · simp [hk]
      · rw [List.getElem?_eq_none (by simp; omega), List.getElem?_eq_none (by simp; omega)]
    rw [e]
  · have hg : ds.getD j .non = ds[j] := by simp [hj]
    refine ⟨ρ ++ [some (ds[j], y0h ds[j])], _, ?_, rfl, ?_⟩
    · unfold x0m
      rw [if_pos (by simp [hi])]
      subst hi
      simp [-y0h, List.set_append]
    · rw [if_pos rfl, hg]
      exact ⟨q _, _, he _ (List.getElem_mem hj), by simp, by simp⟩
theorem z1g {i : Nat} {te : Den} {it : y1s} {ρ : Rho} {ds : List D} (hi : ρ.length = i) (hit : it ρ = some (ds, ρ)) (b : D -> Bool) (q : D -> Nat)
    (he : ∀ d, d ∈ ds -> te (ρ ++ [some (d, y0h d)]) = some (.bl (b d), q d, ρ ++ [some (d, y0h d)])) :
    eB z1c (x01 (x33 1 it (x0m i) x2o te false) x0e) ρ = some (.bl (ds.all b), 9, ρ) := by
  refine z7j (x0x (x1x (deep := false) hit (z9q ds hi (fun d => .bl (b d)) q he))) ?_
  simp only [z1c, y53, Option.map_some]
  simp [List.all_map, Function.comp_def]
structure Cht where
  p : Nat
  W : List (Nat × Nat × (Nat -> Nat))
  B : List (Nat × Nat)
noncomputable def x8c (n : Nat) (w : Nat × Nat × (Nat -> Nat)) : D := .tup [.int (Int.ofNat w.1), .int (Int.ofNat w.2.1), x21 n w.2.2]
noncomputable def y4e (b : Nat × Nat) : D := .tup [.int (Int.ofNat b.1), .int (Int.ofNat b.2)]
noncomputable def x0f (n : Nat) (C : Cht) : D := .tup [.int (Int.ofNat C.p), .tup (C.W.map (x8c n)), .tup (C.B.map y4e)]
noncomputable def okW (n : Nat) (f : Nat -> Nat -> Nat) (p : Nat) (w : Nat × Nat × (Nat -> Nat)) : Prop := w.1 < p /\ w.2.1 < p /\ (∀ i, i < n -> w.2.2 i < n) /\ ∀ x y, x < n -> y < n -> f x y = y -> f (w.2.2 x) (w.2.2 y) = w.2.2 y
noncomputable def okB (n : Nat) (p : Nat) (b : Nat × Nat) : Prop := b.1 < p /\ b.2 < n
structure Cht.Ok (n : Nat) (f : Nat -> Nat -> Nat) (C : Cht) : Prop where
  p1 : 1 <= C.p
  p8 : C.p <= 8
  w60 : C.W.length <= 60
  b60 : C.B.length <= 60
  ws : ∀ w ∈ C.W, okW n f C.p w
  bs : ∀ b ∈ C.B, okB n C.p b
@[simp] theorem z4z {n : Nat} {C : Cht} : (x0f n C).isL = false := rfl
@[simp] theorem z8x {n : Nat} {w : Nat × Nat × (Nat -> Nat)} : (x8c n w).isL = false := rfl
@[simp] theorem z8r {b : Nat × Nat} : (y4e b).isL = false := rfl
theorem x94 {m : Nat} (hm : m <= 1000) {fe : Den} {ρ ρ' : Rho} {q : Nat} (h : fe ρ = some (.int (Int.ofNat m), q, ρ')) : x17 (x01 fe x0e) ρ = some (x1d m, ρ') := by
  have b1 : (-1000 : Int) <= Int.ofNat m := by show (-1000 : Int) <= m; omega
  have b2 : Int.ofNat m <= 1000 := by show (m : Int) <= 1000; omega
  simp only [x17, x01, x0e, h]
  rw [if_pos ⟨b1, b2⟩]
  rfl
noncomputable def x70 (b : Nat × Nat) : ChS := (b.1, fun _ => b.2)
noncomputable def y1i (w : Nat × Nat × (Nat -> Nat)) : ChS := (w.2.1, fun v => w.2.2 (gv v w.1))
noncomputable def x2d (C : Cht) : List ChS := C.B.map x70 ++ C.W.map y1i
section
variable {n : Nat} {f : Nat -> Nat -> Nat} (L : Lad n f) {C : Cht} (hC : C.Ok n f)
include L hC
theorem x62 : ∀ s ∈ x2d C, OkS n C.p f s := fun s hs => by
  unfold x2d at hs
  rcases List.mem_append.mp hs with h | h
  · obtain ⟨b, hb, rfl⟩ := List.mem_map.mp h
    have k := hC.bs b hb
    exact ⟨k.1, fun _ _ => k.2, fun _ _ _ _ _ => L.idem _ k.2⟩
  · obtain ⟨w, hw, rfl⟩ := List.mem_map.mp h
    have k := hC.ws w hw
    exact ⟨k.2.1, fun v hv => k.2.2.1 _ (hv.gv k.1), fun u v hu hv e => k.2.2.2 _ _ (hu.gv k.1) (hv.gv k.1) (e _ k.1)⟩
theorem x7t {v : List Nat} (hv : Vn n C.p v) : x2i [x0r n f, x0f n C, .tup (x0h v)] = some (.tup (x0h ((x2d C).foldl (doS f) v)), 9) := by
  have hW := hC.w60
  have hB := hC.b60
  obtain ⟨j1, e1, hv1⟩ := x72 (J := (Option (D × Nat) × Option (D × Nat) × Option (D × Nat) × Option (D × Nat) × Option (D × Nat) × Option (D × Nat))) (pt := y3j (x15 (x0m 3) (x15 (x0m 4) (x66)))) (body := x6b) y4e (fun v a => [some (x0r n f, 9), some (x0f n C, 9), some (.lst (x0h v), 1), (a).1, (a).2.1, (a).2.2.1, (a).2.2.2.1, (a).2.2.2.2.1, (a).2.2.2.2.2]) (fun v b => doS f v (x70 b)) (Vn n C.p) C.B v (none, none, none, none, none, none) hv (fun b hb v a hv => by
    have k := hC.bs b hb
    have ok := x62 L hC (x70 b) (List.mem_append_left _ (List.mem_map.mpr ⟨b, hb, rfl⟩))
    refine ⟨L.doS_V ok hv, [some (x0r n f, 9), some (x0f n C, 9), some (.lst (x0h v), 1), ((some (D.int (Int.ofNat b.1), 9), some (D.int (Int.ofNat b.2), 9), a.2.2)).1, ((some (D.int (Int.ofNat b.1), 9), some (D.int (Int.ofNat b.2), 9), a.2.2)).2.1, ((some (D.int (Int.ofNat b.1), 9), some (D.int (Int.ofNat b.2), 9), a.2.2)).2.2.1, ((some (D.int (Int.ofNat b.1), 9), some (D.int (Int.ofNat b.2), 9), a.2.2)).2.2.2.1, ((some (D.int (Int.ofNat b.1), 9), some (D.int (Int.ofNat b.2), 9), a.2.2)).2.2.2.2.1, ((some (D.int (Int.ofNat b.1), 9), some (D.int (Int.ofNat b.2), 9), a.2.2)).2.2.2.2.2], (some (D.int (Int.ofNat b.1), 9), some (D.int (Int.ofNat b.2), 9), a.2.2), by simp [-Int.ofNat_eq_natCast, y4e], ?_⟩
    have hl : b.1 < v.length := by rw [hv.len]; exact k.1
    have a1 := z9e hl
    have a2 := x6t (f := f) (hv.gv k.1)
    have a3 := x7x (f := f) (i := gv v b.1) k.2
    have a4 : ixN (x0h v).length (Int.ofNat b.1) = some b.1 := x82 (by rw [x1c]; exact hl)
    have a5 := y4z v b.1 (f (gv v b.1) b.2)
    unfold x6b doS x70
    simp [-Int.ofNat_eq_natCast, a1, a2, a3, a4, a5])
  obtain ⟨j2, e2', hv2⟩ := x72 (J := (Option (D × Nat) × Option (D × Nat) × Option (D × Nat) × Option (D × Nat) × Option (D × Nat) × Option (D × Nat))) (pt := y3j (x15 (x0m 5) (x15 (x0m 6) (x15 (x0m 7) (x66))))) (body := x6h) (x8c n) (fun v a => [some (x0r n f, 9), some (x0f n C, 9), some (.lst (x0h v), 1), (a).1, (a).2.1, (a).2.2.1, (a).2.2.2.1, (a).2.2.2.2.1, (a).2.2.2.2.2]) (fun v w => doS f v (y1i w)) (Vn n C.p) C.W (C.B.foldl (fun v b => doS f v (x70 b)) v) j1 hv1 (fun w hw v a hv => by
    have k := hC.ws w hw
    have ok := x62 L hC (y1i w) (List.mem_append_right _ (List.mem_map.mpr ⟨w, hw, rfl⟩))
    refine ⟨L.doS_V ok hv, [some (x0r n f, 9), some (x0f n C, 9), some (.lst (x0h v), 1), ((a.1, a.2.1, some (D.int (Int.ofNat w.1), 9), some (D.int (Int.ofNat w.2.1), 9), some (x21 n w.2.2, 9), a.2.2.2.2.2)).1, ((a.1, a.2.1, some (D.int (Int.ofNat w.1), 9), some (D.int (Int.ofNat w.2.1), 9), some (x21 n w.2.2, 9), a.2.2.2.2.2)).2.1, ((a.1, a.2.1, some (D.int (Int.ofNat w.1), 9), some (D.int (Int.ofNat w.2.1), 9), some (x21 n w.2.2, 9), a.2.2.2.2.2)).2.2.1, ((a.1, a.2.1, some (D.int (Int.ofNat w.1), 9), some (D.int (Int.ofNat w.2.1), 9), some (x21 n w.2.2, 9), a.2.2.2.2.2)).2.2.2.1, ((a.1, a.2.1, some (D.int (Int.ofNat w.1), 9), some (D.int (Int.ofNat w.2.1), 9), some (x21 n w.2.2, 9), a.2.2.2.2.2)).2.2.2.2.1, ((a.1, a.2.1, some (D.int (Int.ofNat w.1), 9), some (D.int (Int.ofNat w.2.1), 9), some (x21 n w.2.2, 9), a.2.2.2.2.2)).2.2.2.2.2], (a.1, a.2.1, some (D.int (Int.ofNat w.1), 9), some (D.int (Int.ofNat w.2.1), 9), some (x21 n w.2.2, 9), some (D.int (Int.ofNat (w.2.2 (gv v w.1))), 9)), by simp [-Int.ofNat_eq_natCast, x8c], ?_⟩
    have hl : w.2.1 < v.length := by rw [hv.len]; exact k.2.1
    have hl0 : w.1 < v.length := by rw [hv.len]; exact k.1
    have a0 := z9e hl0
    have a1 := z9e hl
    have b0 := x63 (r := w.2.2) (hv.gv k.1)
    have a2 := x6t (f := f) (hv.gv k.2.1)
    have a3 := x7x (f := f) (i := gv v w.2.1) (k.2.2.1 _ (hv.gv k.1))
    have a4 : ixN (x0h v).length (Int.ofNat w.2.1) = some w.2.1 := x82 (by rw [x1c]; exact hl)
    have a5 := y4z v w.2.1 (f (gv v w.2.1) (w.2.2 (gv v w.1)))
    unfold x6h doS y1i
    simp [-Int.ofNat_eq_natCast, a0, b0, a1, a2, a3, a4, a5])
  have ef : (x2d C).foldl (doS f) v = C.W.foldl (fun v w => doS f v (y1i w)) (C.B.foldl (fun v b => doS f v (x70 b)) v) := by
    unfold x2d
    rw [List.foldl_append, List.foldl_map, List.foldl_map]
  rw [ef]
  unfold x2i x7h
  refine x2t ?_
  show x13 _ _ [some (x0r n f, 9), some (x0f n C, 9), some (.tup (x0h v), 9), none, none, none, none, none, none] = _
  refine (x0i (ρ1 := [some (x0r n f, 9), some (x0f n C, 9), some (.lst (x0h v), 1), (((none, none, none, none, none, none) : (Option (D × Nat) × Option (D × Nat) × Option (D × Nat) × Option (D × Nat) × Option (D × Nat) × Option (D × Nat)))).1, (((none, none, none, none, none, none) : (Option (D × Nat) × Option (D × Nat) × Option (D × Nat) × Option (D × Nat) × Option (D × Nat) × Option (D × Nat)))).2.1, (((none, none, none, none, none, none) : (Option (D × Nat) × Option (D × Nat) × Option (D × Nat) × Option (D × Nat) × Option (D × Nat) × Option (D × Nat)))).2.2.1, (((none, none, none, none, none, none) : (Option (D × Nat) × Option (D × Nat) × Option (D × Nat) × Option (D × Nat) × Option (D × Nat) × Option (D × Nat)))).2.2.2.1, (((none, none, none, none, none, none) : (Option (D × Nat) × Option (D × Nat) × Option (D × Nat) × Option (D × Nat) × Option (D × Nat) × Option (D × Nat)))).2.2.2.2.1, (((none, none, none, none, none, none) : (Option (D × Nat) × Option (D × Nat) × Option (D × Nat) × Option (D × Nat) × Option (D × Nat) × Option (D × Nat)))).2.2.2.2.2]) (by simp)).trans ?_
  refine (x0i ((x31 (ds := C.B.map y4e) (ρ1 := [some (x0r n f, 9), some (x0f n C, 9), some (.lst (x0h v), 1), (((none, none, none, none, none, none) : (Option (D × Nat) × Option (D × Nat) × Option (D × Nat) × Option (D × Nat) × Option (D × Nat) × Option (D × Nat)))).1, (((none, none, none, none, none, none) : (Option (D × Nat) × Option (D × Nat) × Option (D × Nat) × Option (D × Nat) × Option (D × Nat) × Option (D × Nat)))).2.1, (((none, none, none, none, none, none) : (Option (D × Nat) × Option (D × Nat) × Option (D × Nat) × Option (D × Nat) × Option (D × Nat) × Option (D × Nat)))).2.2.1, (((none, none, none, none, none, none) : (Option (D × Nat) × Option (D × Nat) × Option (D × Nat) × Option (D × Nat) × Option (D × Nat) × Option (D × Nat)))).2.2.2.1, (((none, none, none, none, none, none) : (Option (D × Nat) × Option (D × Nat) × Option (D × Nat) × Option (D × Nat) × Option (D × Nat) × Option (D × Nat)))).2.2.2.2.1, (((none, none, none, none, none, none) : (Option (D × Nat) × Option (D × Nat) × Option (D × Nat) × Option (D × Nat) × Option (D × Nat) × Option (D × Nat)))).2.2.2.2.2]) (by
    have h : atD (x0f n C) 2 = some (.tup (C.B.map y4e)) := rfl
    have hB' : C.B.length <= 1000 := by omega
    simp [h, hB'])).trans e1)).trans ?_
  refine (x0i ((x31 (ds := C.W.map (x8c n)) (ρ1 := [some (x0r n f, 9), some (x0f n C, 9), some (.lst (x0h (C.B.foldl (fun v b => doS f v (x70 b)) v)), 1), (j1).1, (j1).2.1, (j1).2.2.1, (j1).2.2.2.1, (j1).2.2.2.2.1, (j1).2.2.2.2.2]) (by
    have h : atD (x0f n C) 1 = some (.tup (C.W.map (x8c n))) := rfl
    have hW' : C.W.length <= 1000 := by omega
    simp [h, hW'])).trans e2')).trans ?_
  simp
end
section
variable {n : Nat} {f : Nat -> Nat -> Nat} (L : Lad n f) {C : Cht} (hC : C.Ok n f)
include L hC
structure Low (n : Nat) (f : Nat -> Nat -> Nat) (C : Cht) (v u : List Nat) : Prop where
  V : Vn n C.p u
  cl : ClS f (x2d C) u
  up : leV f C.p v u
  le : ∀ a, Vn n C.p a -> ClS f (x2d C) a -> leV f C.p v a -> leV f C.p u a
theorem y1f {v : List Nat} (hv : Vn n C.p v) : ∃ u, Low n f C v u /\ x1v [x0r n f, x0f n C, .tup (x0h v)] = some (.tup (x0h u), 9) := by
  have hS := x62 L hC
  have hp8 := hC.p8
  have hn8 := L.hi
  have hmu := Lad.mu_le (f := f) hv
  have hmu' : C.p * n <= 8 * 8 := Nat.mul_le_mul hp8 hn8
  obtain ⟨ρ', e, u, hu, rfl⟩ := x60 (c := x37 (e2 dNe (x05 3) (x05 2))) (b := x6c) (Q := fun ρ => ∃ u, Low n f C v u /\ ρ = [some (x0r n f, 9), some (x0f n C, 9), some (.tup (x0h u), 9), some (.tup (x0h u), 9)])
    (fun k ρ => ∃ w, Vn n C.p w /\ leV f C.p v w /\ (∀ a, Vn n C.p a -> ClS f (x2d C) a -> leV f C.p v a -> leV f C.p w a) /\ Lad.mu n f w = k /\ ρ = [some (x0r n f, 9), some (x0f n C, 9), some (.tup (x0h w), 9), some (.tup (x0h ((x2d C).foldl (doS f) w)), 9)])
    (k := Lad.mu n f v) (ρ := [some (x0r n f, 9), some (x0f n C, 9), some (.tup (x0h v), 9), some (.tup (x0h ((x2d C).foldl (doS f) v)), 9)]) (by omega) ⟨v, hv, L.leV_refl hv, fun a ha _ h => h, rfl, rfl⟩ (fun k ρ hh0 => by
      obtain ⟨w, hw, h1, h2, h3, hr⟩ := hh0
      subst hr
      have hw' := L.foldS_V hS hw
      by_cases e : (x2d C).foldl (doS f) w = w
      · refine .inl ⟨[some (x0r n f, 9), some (x0f n C, 9), some (.tup (x0h w), 9), some (.tup (x0h w), 9)], ?_, w, ⟨hw, (L.foldS_fix hS hw).mp e, h1, h2⟩, rfl⟩
        rw [e]
        simp [y6h]
      · refine .inr ⟨[some (x0r n f, 9), some (x0f n C, 9), some (.tup (x0h w), 9), some (.tup (x0h ((x2d C).foldl (doS f) w)), 9)], [some (x0r n f, 9), some (x0f n C, 9), some (.tup (x0h ((x2d C).foldl (doS f) w)), 9), some (.tup (x0h ((x2d C).foldl (doS f) ((x2d C).foldl (doS f) w))), 9)], Lad.mu n f ((x2d C).foldl (doS f) w), ?_, ?_, ?_, _, hw', L.leV_trans hv hw hw' h1 (L.foldS_up hS hw), fun a ha ca hva => L.foldS_below ha hS hw ca (h2 a ha ca hva), rfl, rfl⟩
        · simp [y6h, e]
        · have r := x7t L hC hw'
          generalize (x2d C).foldl (doS f) w = w' at *
          unfold x6c
          simp [r]
        · rw [<- h3]
          exact L.mu_lt hw hw' (L.foldS_up hS hw) (fun z => e z.symm))
  refine ⟨u, hu, ?_⟩
  unfold x1v x73
  refine x2t ?_
  show x13 _ _ [some (x0r n f, 9), some (x0f n C, 9), some (.tup (x0h v), 9), none] = _
  refine (x0i (ρ1 := [some (x0r n f, 9), some (x0f n C, 9), some (.tup (x0h v), 9), some (.tup (x0h ((x2d C).foldl (doS f) v)), 9)]) (by simp [x7t L hC hv])).trans ?_
  refine (x0i e).trans ?_
  simp
end
noncomputable abbrev Sn := Bool × Nat
noncomputable def x0j (s : Sn) : D := .tup [.str (if s.1 then "begin" else "way"), .int (Int.ofNat s.2)]
@[simp] theorem z7h {s : Sn} : (x0j s).isL = false := rfl
noncomputable def okN (C : Cht) (s : Sn) : Prop := s.2 < (if s.1 then C.B.length else C.W.length)
noncomputable def x3t (C : Cht) (s : Sn) : ChS := if s.1 then x70 (C.B.getD s.2 (0, 0)) else y1i (C.W.getD s.2 (0, 0, id))
noncomputable def z03 (C : Cht) : List Sn := (List.range C.B.length).map (fun k => (true, k)) ++ (List.range C.W.length).map (fun k => (false, k))
theorem z2k (C : Cht) : ∀ s ∈ z03 C, okN C s := fun s hs => by
  unfold z03 at hs
  rcases List.mem_append.mp hs with h | h
  · obtain ⟨k, hk, rfl⟩ := List.mem_map.mp h
    exact List.mem_range.mp hk
  · obtain ⟨k, hk, rfl⟩ := List.mem_map.mp h
    exact List.mem_range.mp hk
theorem y54 {α β : Type} (l : List α) (d : α) (g : α -> β) : (List.range l.length).map (fun k => g (l.getD k d)) = l.map g := by
  apply List.ext_getElem?
  intro k
  by_cases hk : k < l.length
  · simp [hk]
  · rw [List.getElem?_eq_none (by simp; omega), List.getElem?_eq_none (by simp; omega)]
theorem y9t (C : Cht) : (z03 C).map (x3t C) = x2d C := by
  unfold z03 x2d
  rw [List.map_append, List.map_map, List.map_map, <- y54 C.B (0, 0) x70, <- y54 C.W (0, 0, id) y1i]
  rfl
theorem y23 {C : Cht} {s : Sn} (h : okN C s) : x3t C s ∈ x2d C := by
  unfold okN at h
  unfold x3t x2d
  cases hb : s.1 with
  | true =>
    rw [hb] at h
    have h' : s.2 < C.B.length := h
    refine List.mem_append_left _ (List.mem_map.mpr ⟨C.B.getD s.2 (0, 0), ?_, rfl⟩)
    rw [List.getD_eq_getElem?_getD, List.getElem?_eq_getElem h']
    exact List.getElem_mem h'
  | false =>
    rw [hb] at h
    have h' : s.2 < C.W.length := h
    refine List.mem_append_right _ (List.mem_map.mpr ⟨C.W.getD s.2 (0, 0, id), ?_, rfl⟩)
    rw [List.getD_eq_getElem?_getD, List.getElem?_eq_getElem h']
    exact List.getElem_mem h'
theorem y93 : dEq (.str "begin") (.str "begin") = some (.bl true) := by
  have h : okD (.str "begin") = true := by decide +kernel
  unfold dEq
  rw [if_pos ⟨h, h⟩]
  rfl
theorem z5l : dEq (.str "way") (.str "begin") = some (.bl false) := by
  have h : okD (.str "begin") = true := by decide +kernel
  have h' : okD (.str "way") = true := by decide +kernel
  have e : eqD (.str "way") (.str "begin") = false := by decide +kernel
  unfold dEq
  rw [if_pos ⟨h', h⟩, e]
theorem z8q {v : List Nat} {p : Nat} (hp : p < v.length) : L3.z6y (x0h v) none (some (Int.ofNat p)) = x0h (v.take p) := by
  unfold L3.z6y
  have e1 : HT.sIx (x0h v).length 0 none = 0 := rfl
  have e2 : HT.sIx (x0h v).length (x0h v).length (some (Int.ofNat p)) = p := by
    rw [x1c]
    have : ¬ ((p : Int) < 0) := by omega
    simp [HT.sIx, this]
    omega
  rw [e1, e2, List.drop_zero, Nat.sub_zero]
  simp only [x0h, List.map_take]
theorem z0p {v : List Nat} {p : Nat} (hp : p < v.length) : L3.z6y (x0h v) (some (Int.ofNat p + 1)) none = x0h (v.drop (p + 1)) := by
  unfold L3.z6y
  have e1 : HT.sIx (x0h v).length 0 (some (Int.ofNat p + 1)) = p + 1 := by
    rw [x1c]
    have : ¬ ((p : Int) + 1 < 0) := by omega
    simp [HT.sIx, this]
    omega
  have e2 : HT.sIx (x0h v).length (x0h v).length none = (x0h v).length := rfl
  rw [e1, e2, List.take_of_length_le (by rw [List.length_drop]; exact Nat.le_refl _)]
  simp only [x0h, List.map_drop]
theorem z3d {v : List Nat} {p x : Nat} (hp : p < v.length) : x0h (v.take p) ++ [.int (Int.ofNat x)] ++ x0h (v.drop (p + 1)) = x0h (v.set p x) := by
  rw [List.set_eq_take_append_cons_drop, if_pos hp]
  simp [x0h]
section
variable {n : Nat} {f : Nat -> Nat -> Nat} (L : Lad n f) {C : Cht} (hC : C.Ok n f)
include L hC
theorem y90 {v : List Nat} (hv : Vn n C.p v) {s : Sn} (hs : okN C s) : x27 [x0f n C, .tup (x0h v), x0j s] = some (.tup [.int (Int.ofNat (x3t C s).1), .int (Int.ofNat ((x3t C s).2 v))], 9) := by
  obtain ⟨b, k⟩ := s
  unfold okN at hs
  unfold x27 x4v
  have c1 : atD (x0f n C) 1 = some (.tup (C.W.map (x8c n))) := rfl
  have c2 : atD (x0f n C) 2 = some (.tup (C.B.map y4e)) := rfl
  cases b with
  | true =>
    have hk : k < C.B.length := hs
    have s0 : atD (x0j (true, k)) 0 = some (.str "begin") := rfl
    have s1 : atD (x0j (true, k)) 1 = some (.int (Int.ofNat k)) := rfl
    have e : atD (.tup (C.B.map y4e)) (Int.ofNat k) = some (y4e (C.B.getD k (0, 0))) := y2y (by rw [List.getElem?_map, List.getElem?_eq_getElem hk]; simp [hk])
    have hst : x3t C (true, k) = x70 (C.B.getD k (0, 0)) := rfl
    rw [hst]
    generalize C.B.getD k (0, 0) = b at *
    generalize x0j (true, k) = sd at *
    have hb : y4e b = .tup [.int (Int.ofNat (x70 b).1), .int (Int.ofNat ((x70 b).2 v))] := rfl
    rw [<- hb]
    simp [-Int.ofNat_eq_natCast, s0, s1, c2, e, y93]
  | false =>
    have hk : k < C.W.length := hs
    have s0 : atD (x0j (false, k)) 0 = some (.str "way") := rfl
    have s1 : atD (x0j (false, k)) 1 = some (.int (Int.ofNat k)) := rfl
    have e : atD (.tup (C.W.map (x8c n))) (Int.ofNat k) = some (x8c n (C.W.getD k (0, 0, id))) := y2y (by rw [List.getElem?_map, List.getElem?_eq_getElem hk]; simp [hk])
    have hst : x3t C (false, k) = y1i (C.W.getD k (0, 0, id)) := rfl
    have hw : C.W.getD k (0, 0, id) ∈ C.W := by
      rw [List.getD_eq_getElem?_getD, List.getElem?_eq_getElem hk]
      exact List.getElem_mem hk
    have ok := hC.ws _ hw
    rw [hst]
    generalize C.W.getD k (0, 0, id) = w at *
    have w0 : atD (x8c n w) 0 = some (.int (Int.ofNat w.1)) := rfl
    have w1 : atD (x8c n w) 1 = some (.int (Int.ofNat w.2.1)) := rfl
    have w2 : atD (x8c n w) 2 = some (x21 n w.2.2) := rfl
    have a0 := j0d (v := v) (i := w.1) (by rw [hv.len]; exact ok.1)
    have a1 := x63 (r := w.2.2) (hv.gv ok.1)
    have hst' : x0j (false, k) = x0j (false, k) := rfl
    generalize hsd : x0j (false, k) = sd at *
    have hL : sd.isL = false := by rw [<- hsd]; rfl
    show _ = some (D.tup [.int (Int.ofNat w.2.1), .int (Int.ofNat (w.2.2 (gv v w.1)))], 9)
    generalize hwt : x8c n w = wt at *
    have hL2 : wt.isL = false := by rw [<- hwt]; rfl
    simp [-Int.ofNat_eq_natCast, s0, s1, c1, e, z5l, w0, w1, w2, a0, a1, hL, hL2]
theorem y7i {v : List Nat} (hv : Vn n C.p v) {s : Sn} (hs : okN C s) : x1l [x0r n f, x0f n C, .tup (x0h v), x0j s] = some (.tup (x0h (doS f v (x3t C s))), 9) := by
  have ok := x62 L hC _ (y23 hs)
  have hp := y90 L hC hv hs
  have hx := ok.lt v hv
  have hg := hv.gv ok.pl
  have hpl : (x3t C s).1 < v.length := by rw [hv.len]; exact ok.pl
  have hp8 := hC.p8
  have hl := hv.len
  unfold doS
  generalize (x3t C s).1 = g at *
  generalize (x3t C s).2 v = x at *
  have a0 := j0d hpl
  have a1 := x6t (f := f) hg
  have a2 := x7x (f := f) (i := gv v g) hx
  have s1 := z8q hpl
  have s2 := z0p hpl
  have s3 := z3d (x := f (gv v g) x) hpl
  have l1 : (x0h (v.take g)).length = g := by rw [x1c, List.length_take]; omega
  have l2 : (x0h (v.drop (g + 1))).length = v.length - (g + 1) := by rw [x1c, List.length_drop]
  unfold x1l x5i
  refine x2t ?_
  show x13 _ _ [some (x0r n f, 9), some (x0f n C, 9), some (.tup (x0h v), 9), some (x0j s, 9), none, none, none] = _
  refine (x0i (ρ1 := [some (x0r n f, 9), some (x0f n C, 9), some (.tup (x0h v), 9), some (x0j s, 9), some (.tup [.int (Int.ofNat g), .int (Int.ofNat x)], 9), none, none]) (by simp [-Int.ofNat_eq_natCast, hp])).trans ?_
  have t0 : atD (.tup [.int (Int.ofNat g), .int (Int.ofNat x)]) 0 = some (.int (Int.ofNat g)) := rfl
  have t1 : atD (.tup [.int (Int.ofNat g), .int (Int.ofNat x)]) 1 = some (.int (Int.ofNat x)) := rfl
  refine (x0i (ρ1 := [some (x0r n f, 9), some (x0f n C, 9), some (.tup (x0h v), 9), some (x0j s, 9), some (.tup [.int (Int.ofNat g), .int (Int.ofNat x)], 9), some (.int (Int.ofNat g), 9), none]) (by simp [-Int.ofNat_eq_natCast, t0])).trans ?_
  refine (x0i (ρ1 := [some (x0r n f, 9), some (x0f n C, 9), some (.tup (x0h v), 9), some (x0j s, 9), some (.tup [.int (Int.ofNat g), .int (Int.ofNat x)], 9), some (.int (Int.ofNat g), 9), some (.int (Int.ofNat (f (gv v g) x)), 9)]) (by simp [-Int.ofNat_eq_natCast, a0, a1, a2, t1])).trans ?_
  rw [<- s3]
  have m1 : (x0h (v.take g)).length + 1 <= 1000 := by omega
  have m2 : (x0h (v.take g)).length + 1 + (x0h (v.drop (g + 1))).length <= 1000 := by omega
  generalize x0h (v.take g) = u1 at *
  generalize x0h (v.drop (g + 1)) = u2 at *
  have m1' : u1.length <= 999 := by omega
  simp [-Int.ofNat_eq_natCast, s1, s2, m1, m1', m2]
structure LowS (n : Nat) (f : Nat -> Nat -> Nat) (p : Nat) (l : List ChS) (v u : List Nat) : Prop where
  V : Vn n p u
  cl : ClS f l u
  up : leV f p v u
  le : ∀ a, Vn n p a -> ClS f l a -> leV f p v a -> leV f p u a
theorem y9f {v : List Nat} (hv : Vn n C.p v) {l : List Sn} (hl : ∀ s ∈ l, okN C s) (hlen : l.length <= 1000) :
    ∃ (u : List Nat) (R : List Sn), LowS n f C.p (l.map (x3t C)) v u /\ (∀ s ∈ R, s ∈ l) /\ (R.map (x3t C)).foldl (doS f) v = u /\ Lad.mu n f u + R.length <= Lad.mu n f v /\ y01 [x0r n f, x0f n C, .lst (l.map x0j), .tup (x0h v)] = some (.tup [.tup (x0h u), .lst (R.map x0j)], 9) := by
  have hp8 := hC.p8
  have hn8 := L.hi
  have hmu := Lad.mu_le (f := f) hv
  have hmu' : C.p * n <= 8 * 8 := Nat.mul_le_mul hp8 hn8
  have hS : ∀ t ∈ l.map (x3t C), OkS n C.p f t := fun t ht => by
    obtain ⟨s, hs, rfl⟩ := List.mem_map.mp ht
    exact x62 L hC _ (y23 (hl s hs))
  -- one round
  have round : ∀ (w : List Nat) (R : List Sn) (a : Option (D × Nat)) (j : (Option (D × Nat) × Option (D × Nat))), Vn n C.p w -> (∀ s ∈ R, s ∈ l) -> (R.map (x3t C)).foldl (doS f) v = w -> Lad.mu n f w + R.length <= Lad.mu n f v ->
      ∃ (R' : List Sn) (j' : (Option (D × Nat) × Option (D × Nat))), (∀ s ∈ R', s ∈ l) /\ (R'.map (x3t C)).foldl (doS f) v = (l.map (x3t C)).foldl (doS f) w /\ Lad.mu n f ((l.map (x3t C)).foldl (doS f) w) + R'.length <= Lad.mu n f v /\
        x8z (x0m 6) x95 (l.map x0j) [some (x0r n f, 9), some (x0f n C, 9), some (.lst (l.map x0j), 0), some (.tup (x0h w), 9), some (.lst ((R).map x0j), 1), a, (j).1, (j).2] = some (.nx [some (x0r n f, 9), some (x0f n C, 9), some (.lst (l.map x0j), 0), some (.tup (x0h ((l.map (x3t C)).foldl (doS f) w)), 9), some (.lst ((R').map x0j), 1), a, (j').1, (j').2]) := fun w R a j hw h1 h2 h3 => by
    obtain ⟨j', e, i1, i2, i3, i4⟩ := x72 (J := (Option (D × Nat) × Option (D × Nat))) (pt := x0m 6) (body := x95) x0j (fun (σ : List Nat × List Sn) j => [some (x0r n f, 9), some (x0f n C, 9), some (.lst (l.map x0j), 0), some (.tup (x0h σ.1), 9), some (.lst ((σ.2).map x0j), 1), a, (j).1, (j).2]) (fun σ s => (doS f σ.1 (x3t C s), if doS f σ.1 (x3t C s) = σ.1 then σ.2 else σ.2 ++ [s]))
      (fun σ => Vn n C.p σ.1 /\ (∀ s ∈ σ.2, s ∈ l) /\ (σ.2.map (x3t C)).foldl (doS f) v = σ.1 /\ Lad.mu n f σ.1 + σ.2.length <= Lad.mu n f v) l (w, R) j ⟨hw, h1, h2, h3⟩ (fun s hs σ j hh0 => by
        obtain ⟨k1, k2, k3, k4⟩ := hh0
        obtain ⟨x, Q⟩ := σ
        dsimp only at k1 k2 k3 k4 ⊢
        have ok := x62 L hC _ (y23 (hl s hs))
        have hb := y7i L hC k1 (hl s hs)
        have hx' := L.doS_V ok k1
        by_cases he : doS f x (x3t C s) = x
        · rw [if_pos he]
          refine ⟨⟨hx', k2, by rw [he]; exact k3, by rw [he]; exact k4⟩, [some (x0r n f, 9), some (x0f n C, 9), some (.lst (l.map x0j), 0), some (.tup (x0h x), 9), some (.lst ((Q).map x0j), 1), a, (((some (x0j s, 9), j.2) : (Option (D × Nat) × Option (D × Nat)))).1, (((some (x0j s, 9), j.2) : (Option (D × Nat) × Option (D × Nat)))).2], (some (x0j s, 9), some (.tup (x0h (doS f x (x3t C s))), 9)), by simp, ?_⟩
          unfold x95
          refine (x0i (ρ1 := [some (x0r n f, 9), some (x0f n C, 9), some (.lst (l.map x0j), 0), some (.tup (x0h x), 9), some (.lst ((Q).map x0j), 1), a, (((some (x0j s, 9), some (.tup (x0h (doS f x (x3t C s))), 9)) : (Option (D × Nat) × Option (D × Nat)))).1, (((some (x0j s, 9), some (.tup (x0h (doS f x (x3t C s))), 9)) : (Option (D × Nat) × Option (D × Nat)))).2]) (by simp [hb])).trans ?_
          refine (x0i (ρ1 := [some (x0r n f, 9), some (x0f n C, 9), some (.lst (l.map x0j), 0), some (.tup (x0h x), 9), some (.lst ((Q).map x0j), 1), a, (((some (x0j s, 9), some (.tup (x0h (doS f x (x3t C s))), 9)) : (Option (D × Nat) × Option (D × Nat)))).1, (((some (x0j s, 9), some (.tup (x0h (doS f x (x3t C s))), 9)) : (Option (D × Nat) × Option (D × Nat)))).2]) (by rw [he]; simp [y6h])).trans ?_
          simp
        · rw [if_neg he]
          have hlt := L.mu_lt k1 hx' (L.doS_up ok k1) (fun z => he z.symm)
          refine ⟨⟨hx', fun t ht => ?_, ?_, by rw [List.length_append]; show _ + (Q.length + 1) <= _; omega⟩, [some (x0r n f, 9), some (x0f n C, 9), some (.lst (l.map x0j), 0), some (.tup (x0h x), 9), some (.lst ((Q).map x0j), 1), a, (((some (x0j s, 9), j.2) : (Option (D × Nat) × Option (D × Nat)))).1, (((some (x0j s, 9), j.2) : (Option (D × Nat) × Option (D × Nat)))).2], (some (x0j s, 9), some (.tup (x0h (doS f x (x3t C s))), 9)), by simp, ?_⟩
          · rcases List.mem_append.mp ht with h | h
            · exact k2 t h
            · rw [List.mem_singleton.mp h]; exact hs
          · rw [List.map_append, List.foldl_append, k3]; rfl
          · unfold x95
            have hQ : Q.length <= 1000 := by omega
            refine (x0i (ρ1 := [some (x0r n f, 9), some (x0f n C, 9), some (.lst (l.map x0j), 0), some (.tup (x0h x), 9), some (.lst ((Q).map x0j), 1), a, (((some (x0j s, 9), some (.tup (x0h (doS f x (x3t C s))), 9)) : (Option (D × Nat) × Option (D × Nat)))).1, (((some (x0j s, 9), some (.tup (x0h (doS f x (x3t C s))), 9)) : (Option (D × Nat) × Option (D × Nat)))).2]) (by simp [hb])).trans ?_
            refine (x0i (ρ1 := [some (x0r n f, 9), some (x0f n C, 9), some (.lst (l.map x0j), 0), some (.tup (x0h x), 9), some (.lst (((Q ++ [s])).map x0j), 1), a, (((some (x0j s, 9), some (.tup (x0h (doS f x (x3t C s))), 9)) : (Option (D × Nat) × Option (D × Nat)))).1, (((some (x0j s, 9), some (.tup (x0h (doS f x (x3t C s))), 9)) : (Option (D × Nat) × Option (D × Nat)))).2]) (by
              generalize doS f x (x3t C s) = y at *
              simp [y6h, he, hQ])).trans ?_
            simp)
    have ef : ∀ (l : List Sn) (σ : List Nat × List Sn), (l.foldl (fun (σ : List Nat × List Sn) s => (doS f σ.1 (x3t C s), if doS f σ.1 (x3t C s) = σ.1 then σ.2 else σ.2 ++ [s])) σ).1 = (l.map (x3t C)).foldl (doS f) σ.1 := by
      intro l
      induction l with
      | nil => intro σ; rfl
      | cons s l ih => intro σ; exact ih _
    have ef' := ef l (w, R)
    generalize l.foldl (fun (σ : List Nat × List Sn) s => (doS f σ.1 (x3t C s), if doS f σ.1 (x3t C s) = σ.1 then σ.2 else σ.2 ++ [s])) (w, R) = σ at *
    obtain ⟨x, Q⟩ := σ
    dsimp only at ef' i1 i2 i3 i4 e
    have ef2 : x = (l.map (x3t C)).foldl (doS f) w := ef'
    subst ef2
    exact ⟨Q, j', i2, i3, i4, e⟩
  -- all rounds
  obtain ⟨ρ', e, u, R, j, hu, hR1, hR2, hR3, rfl⟩ := x60 (c := x37 (e2 dNe (x05 3) (x05 5))) (b := y1w)
    (Q := fun ρ => ∃ (u : List Nat) (R : List Sn), ∃ j : (Option (D × Nat) × Option (D × Nat)), LowS n f C.p (l.map (x3t C)) v u /\ (∀ s ∈ R, s ∈ l) /\ (R.map (x3t C)).foldl (doS f) v = u /\ Lad.mu n f u + R.length <= Lad.mu n f v /\ ρ = [some (x0r n f, 9), some (x0f n C, 9), some (.lst (l.map x0j), 0), some (.tup (x0h u), 9), some (.lst ((R).map x0j), 1), some (.tup (x0h u), 9), (j).1, (j).2])
    (fun k ρ => ∃ (w : List Nat) (R : List Sn), ∃ j : (Option (D × Nat) × Option (D × Nat)), ∃ a : D, Vn n C.p w /\ leV f C.p v w /\ (∀ x, Vn n C.p x -> ClS f (l.map (x3t C)) x -> leV f C.p v x -> leV f C.p w x) /\ (∀ s ∈ R, s ∈ l) /\ (R.map (x3t C)).foldl (doS f) v = w /\ Lad.mu n f w + R.length <= Lad.mu n f v /\
      ((a = .non /\ k = Lad.mu n f w + 1) \/ ∃ y, a = .tup (x0h y) /\ Vn n C.p y /\ w = (l.map (x3t C)).foldl (doS f) y /\ k = Lad.mu n f w + (if y = w then 0 else 1)) /\ ρ = [some (x0r n f, 9), some (x0f n C, 9), some (.lst (l.map x0j), 0), some (.tup (x0h w), 9), some (.lst ((R).map x0j), 1), some (a, 9), (j).1, (j).2])
    (k := Lad.mu n f v + 1) (ρ := [some (x0r n f, 9), some (x0f n C, 9), some (.lst (l.map x0j), 0), some (.tup (x0h v), 9), some (.lst ((([] : List Sn)).map x0j), 1), some (.non, 9), (((none, none) : (Option (D × Nat) × Option (D × Nat)))).1, (((none, none) : (Option (D × Nat) × Option (D × Nat)))).2]) (by omega) ⟨v, [], (none, none), .non, hv, L.leV_refl hv, fun x _ _ h => h, (fun _ z => nomatch z), rfl, Nat.le_refl _, .inl ⟨rfl, rfl⟩, rfl⟩ (fun k ρ hh0 => by
      obtain ⟨w, R, j, a, hw, h1, h2, h3, h4, h5, h6, hr⟩ := hh0
      subst hr
      have next : (x37 (e2 dNe (x05 3) (x05 5)) [some (x0r n f, 9), some (x0f n C, 9), some (.lst (l.map x0j), 0), some (.tup (x0h w), 9), some (.lst ((R).map x0j), 1), some (a, 9), (j).1, (j).2] = some (true, [some (x0r n f, 9), some (x0f n C, 9), some (.lst (l.map x0j), 0), some (.tup (x0h w), 9), some (.lst ((R).map x0j), 1), some (a, 9), (j).1, (j).2])) -> Lad.mu n f w + 1 <= k -> ∃ ρ1 ρ2 k', x37 (e2 dNe (x05 3) (x05 5)) [some (x0r n f, 9), some (x0f n C, 9), some (.lst (l.map x0j), 0), some (.tup (x0h w), 9), some (.lst ((R).map x0j), 1), some (a, 9), (j).1, (j).2] = some (true, ρ1) /\ y1w ρ1 = some (.nx ρ2) /\ k' < k /\ ∃ (w : List Nat) (R : List Sn), ∃ j : (Option (D × Nat) × Option (D × Nat)), ∃ a : D, Vn n C.p w /\ leV f C.p v w /\ (∀ x, Vn n C.p x -> ClS f (l.map (x3t C)) x -> leV f C.p v x -> leV f C.p w x) /\ (∀ s ∈ R, s ∈ l) /\ (R.map (x3t C)).foldl (doS f) v = w /\ Lad.mu n f w + R.length <= Lad.mu n f v /\
      ((a = .non /\ k' = Lad.mu n f w + 1) \/ ∃ y, a = .tup (x0h y) /\ Vn n C.p y /\ w = (l.map (x3t C)).foldl (doS f) y /\ k' = Lad.mu n f w + (if y = w then 0 else 1)) /\ ρ2 = [some (x0r n f, 9), some (x0f n C, 9), some (.lst (l.map x0j), 0), some (.tup (x0h w), 9), some (.lst ((R).map x0j), 1), some (a, 9), (j).1, (j).2] := fun ht hk => by
        obtain ⟨R', j', r1, r2, r3, r4⟩ := round w R (some (.tup (x0h w), 9)) j hw h3 h4 h5
        have hw' := L.foldS_V hS hw
        have up := L.foldS_up hS hw
        refine ⟨_, [some (x0r n f, 9), some (x0f n C, 9), some (.lst (l.map x0j), 0), some (.tup (x0h ((l.map (x3t C)).foldl (doS f) w)), 9), some (.lst ((R').map x0j), 1), some (.tup (x0h w), 9), (j').1, (j').2], Lad.mu n f ((l.map (x3t C)).foldl (doS f) w) + (if w = (l.map (x3t C)).foldl (doS f) w then 0 else 1), ht, ?_, ?_, _, R', j', .tup (x0h w), hw', L.leV_trans hv hw hw' h1 up, fun x hx cx hvx => L.foldS_below hx hS hw cx (h2 x hx cx hvx), r1, r2, r3, .inr ⟨w, rfl, hw, rfl, rfl⟩, rfl⟩
        · unfold y1w
          refine (x0i (ρ1 := [some (x0r n f, 9), some (x0f n C, 9), some (.lst (l.map x0j), 0), some (.tup (x0h w), 9), some (.lst ((R).map x0j), 1), some (.tup (x0h w), 9), (j).1, (j).2]) (by simp)).trans ?_
          exact (x31 (ds := l.map x0j) (ρ1 := [some (x0r n f, 9), some (x0f n C, 9), some (.lst (l.map x0j), 0), some (.tup (x0h w), 9), some (.lst ((R).map x0j), 1), some (.tup (x0h w), 9), (j).1, (j).2]) (by simp [hlen])).trans r4
        · by_cases he : w = (l.map (x3t C)).foldl (doS f) w
          · rw [if_pos he, <- he]; omega
          · rw [if_neg he]
            have := L.mu_lt hw hw' up he
            omega
      rcases h6 with ⟨rfl, hk⟩ | ⟨y, rfl, hy, hwy, hk⟩
      · refine .inr (next ?_ (by omega))
        have hne : dNe (.tup (x0h w)) .non = some (.bl true) := by
          unfold dNe
          rw [if_pos ⟨(z52 w).ok, (Sh.non (k := 0)).ok⟩]
          rfl
        simp [hne]
      · by_cases hyw : y = w
        · subst hyw
          refine .inl ⟨[some (x0r n f, 9), some (x0f n C, 9), some (.lst (l.map x0j), 0), some (.tup (x0h y), 9), some (.lst ((R).map x0j), 1), some (.tup (x0h y), 9), (j).1, (j).2], by simp [y6h], y, R, j, ⟨hw, (L.foldS_fix hS hw).mp hwy.symm, h1, h2⟩, h3, h4, h5, rfl⟩
        · rw [if_neg hyw] at hk
          refine .inr (next ?_ (by omega))
          have : ¬ (w = y) := fun z => hyw z.symm
          simp [y6h, this])
  refine ⟨u, R, hu, hR1, hR2, hR3, ?_⟩
  unfold y01 y8t
  refine x2t ?_
  show x13 _ _ [some (x0r n f, 9), some (x0f n C, 9), some (.lst (l.map x0j), 0), some (.tup (x0h v), 9), none, none, none, none] = _
  refine (x0i (ρ1 := [some (x0r n f, 9), some (x0f n C, 9), some (.lst (l.map x0j), 0), some (.tup (x0h v), 9), some (.lst [], 1), none, none, none]) (by simp)).trans ?_
  refine (x0i (ρ1 := [some (x0r n f, 9), some (x0f n C, 9), some (.lst (l.map x0j), 0), some (.tup (x0h v), 9), some (.lst ((([] : List Sn)).map x0j), 1), some (.non, 9), (((none, none) : (Option (D × Nat) × Option (D × Nat)))).1, (((none, none) : (Option (D × Nat) × Option (D × Nat)))).2]) (by simp)).trans ?_
  refine (x0i e).trans ?_
  simp
end
theorem dg1 (a b : D) : y3k ["begin", "way"] [a, b] "begin" = some a := by unfold y3k; rw [if_pos rfl]
theorem dg2 (a b : D) : y3k ["begin", "way"] [a, b] "way" = some b := by
  unfold y3k
  rw [if_neg (by decide)]
  unfold y3k
  rw [if_pos rfl]
section
variable {n : Nat} {f : Nat -> Nat -> Nat} {C : Cht}
theorem z0c {s : Sn} (hs : okN C s) : x25 [x0j s, .dic ["begin", "way"] [.int (Int.ofNat C.B.length), .int (Int.ofNat C.W.length)]] = some (.bl true, 9) := by
  obtain ⟨b, k⟩ := s
  unfold okN at hs
  have l2 : dNe (.int 2) (.int 2) = some (.bl false) := (z4o _ _).trans (by simp)
  unfold x25 x4s
  cases b with
  | true =>
    have hk : k < C.B.length := hs
    have n1 : x1z [.int (Int.ofNat k), .int (Int.ofNat C.B.length)] = some (.bl true, 9) := by
      rw [x8p]
      have : x86 C.B.length (.int (Int.ofNat k)) = true := by
        show (decide ((0 : Int) <= (k : Int)) && decide ((k : Int) < (C.B.length : Int))) = true
        simp; exact hk
      rw [this]
    have s0 : atD (.tup [.str "begin", .int (Int.ofNat k)]) 0 = some (.str "begin") := rfl
    have s1 : atD (.tup [.str "begin", .int (Int.ofNat k)]) 1 = some (.int (Int.ofNat k)) := rfl
    have ll : x8r (.tup [.str "begin", .int (Int.ofNat k)]) = some 2 := rfl
    have g1 := dg1 (.int (Int.ofNat C.B.length)) (.int (Int.ofNat C.W.length))
    show fnD _ _ [.tup [.str "begin", .int (Int.ofNat k)], _] = _
    simp [-Int.ofNat_eq_natCast, isD, ll, l2, s0, s1, g1, n1]
  | false =>
    have hk : k < C.W.length := hs
    have n1 : x1z [.int (Int.ofNat k), .int (Int.ofNat C.W.length)] = some (.bl true, 9) := by
      rw [x8p]
      have : x86 C.W.length (.int (Int.ofNat k)) = true := by
        show (decide ((0 : Int) <= (k : Int)) && decide ((k : Int) < (C.W.length : Int))) = true
        simp; exact hk
      rw [this]
    have s0 : atD (.tup [.str "way", .int (Int.ofNat k)]) 0 = some (.str "way") := rfl
    have s1 : atD (.tup [.str "way", .int (Int.ofNat k)]) 1 = some (.int (Int.ofNat k)) := rfl
    have ll : x8r (.tup [.str "way", .int (Int.ofNat k)]) = some 2 := rfl
    have g1 := dg2 (.int (Int.ofNat C.B.length)) (.int (Int.ofNat C.W.length))
    show fnD _ _ [.tup [.str "way", .int (Int.ofNat k)], _] = _
    simp [-Int.ofNat_eq_natCast, isD, ll, l2, s0, s1, g1, n1]
theorem y6b {s : Sn} (hs : okN C s) : x47 [x0f n C, x0j s] = some (.bl true, 9) := by
  have h := z0c hs
  unfold x47 y2h
  have e1 : x6w 0 2 [some (x0f n C, 9), some (x0j s, 9)] = some (Int.ofNat C.B.length) := by
    show some (Int.ofNat (C.B.map y4e).length) = _
    rw [List.length_map]
  have e2' : x6w 0 1 [some (x0f n C, 9), some (x0j s, 9)] = some (Int.ofNat C.W.length) := by
    show some (Int.ofNat (C.W.map (x8c n)).length) = _
    rw [List.length_map]
  have ed : y6c "begin" "way" (x6w 0 2) (x6w 0 1) [some (x0f n C, 9), some (x0j s, 9)] = some (.dic ["begin", "way"] [.int (Int.ofNat C.B.length), .int (Int.ofNat C.W.length)], 9, [some (x0f n C, 9), some (x0j s, 9)]) := by
    unfold y6c
    rw [e1, e2']
  exact x2t (x2r (x0u (x1e (f := x05 1) (d := x0j s) (q := 9) (ρ := [some (x0f n C, 9), some (x0j s, 9)]) (ρ1 := [some (x0f n C, 9), some (x0j s, 9)]) rfl (x0x ed)) rfl h))
theorem x81 {l : List Sn} (hl : ∀ s ∈ l, okN C s) (hlen : l.length <= 1000) : x2l [x0f n C, .lst (l.map x0j)] = some (.non, 9) := by
  have hit : x5d (x05 1) [some (x0f n C, 9), some (.lst (l.map x0j), 0)] = some (l.map x0j, [some (x0f n C, 9), some (.lst (l.map x0j), 0)]) := by simp [hlen]
  have e := z1g (i := 2) (te := x0g x47 2 (x01 (x05 0) (x01 (x05 2) (x0e)))) (ρ := [some (x0f n C, 9), some (.lst (l.map x0j), 0)]) rfl hit (fun _ => true) (fun _ => 9) (fun d hd => by
    obtain ⟨s, hs, rfl⟩ := List.mem_map.mp hd
    simp [y6b (n := n) (hl s hs)])
  have ea : (l.map x0j).all (fun _ => true) = true := by simp
  rw [ea] at e
  unfold x2l x5a
  show (match sIf _ _ _ [some (x0f n C, 9), some (.lst (l.map x0j), 0)] with | some (.rt d q) => some (d, q) | some (.nx _) => some (D.non, 9) | _ => none) = _
  have ei : sIf (x4t (x7w (eB z1c (x01 (x33 1 (x5d (x05 1)) (x0m 2) (x2o) (x0g x47 2 (x01 (x05 0) (x01 (x05 2) (x0e)))) false) (x0e))))) (y4t) (x8u) [some (x0f n C, 9), some (.lst (l.map x0j), 0)] = some (.nx [some (x0f n C, 9), some (.lst (l.map x0j), 0)]) := by
    refine (y78 ?_).trans rfl
    unfold x4t x7w
    rw [e]
    rfl
  rw [ei]
theorem z1a : (z03 C).length = C.B.length + C.W.length := by simp [z03]
theorem y3e (hB : C.B.length <= 60) (hW : C.W.length <= 60) : x3z [x0f n C] = some (.lst ((z03 C).map x0j), 1) := by
  unfold x3z x9w
  refine x2t ?_
  show x13 _ _ [some (x0f n C, 9), none] = _
  have c1 : atD (x0f n C) 1 = some (.tup (C.W.map (x8c n))) := rfl
  have c2 : atD (x0f n C) 2 = some (.tup (C.B.map y4e)) := rfl
  have lB : x8r (.tup (C.B.map y4e)) = some C.B.length := by simp [x8r]
  have lW : x8r (.tup (C.W.map (x8c n))) = some C.W.length := by simp [x8r]
  have h1 := x1x (k := 1) (tt := x2o) (te := x4n (x01 (eC (.str "begin")) (x01 (x05 2) (x0e)))) (deep := false) (x94 (m := C.B.length) (by omega) (fe := eB z0q (x01 (x1k 0 (eC (.int 2))) (x0e))) (ρ := [some (x0f n C, 9), none]) (ρ' := [some (x0f n C, 9), none]) (q := 9) (by simp [-Int.ofNat_eq_natCast, c2, lB])) (y42 (i := 2) rfl (fun _ => true) (fun k => x0j (true, k)) (fun _ => 9) (fun k hk => rfl) (fun k hk _ => by simp [-Int.ofNat_eq_natCast, x0j]))
  rw [show (List.range C.B.length).filter (fun _ => true) = List.range C.B.length by simp] at h1
  refine (x0i (ρ1 := [some (x0f n C, 9), some (.lst ((List.range C.B.length).map fun k => x0j (true, k)), 1)]) (x1s h1 rfl)).trans ?_
  have h2 := x1x (k := 1) (tt := x2o) (te := x4n (x01 (eC (.str "way")) (x01 (x05 2) (x0e)))) (deep := false) (x94 (m := C.W.length) (by omega) (fe := eB z0q (x01 (x1k 0 (eC (.int 1))) (x0e))) (ρ := [some (x0f n C, 9), some (.lst ((List.range C.B.length).map fun k => x0j (true, k)), 0)]) (ρ' := [some (x0f n C, 9), some (.lst ((List.range C.B.length).map fun k => x0j (true, k)), 0)]) (q := 9) (by simp [-Int.ofNat_eq_natCast, c1, lW])) (y42 (i := 2) rfl (fun _ => true) (fun k => x0j (false, k)) (fun _ => 9) (fun k hk => rfl) (fun k hk _ => by simp [-Int.ofNat_eq_natCast, x0j]))
  rw [show (List.range C.W.length).filter (fun _ => true) = List.range C.W.length by simp] at h2
  have ea : (z03 C).map x0j = ((List.range C.B.length).map fun k => x0j (true, k)) ++ ((List.range C.W.length).map fun k => x0j (false, k)) := by
    unfold z03
    rw [List.map_append, List.map_map, List.map_map]
    rfl
  rw [ea]
  refine x2r (ρ1 := [some (x0f n C, 9), some (.lst ((List.range C.B.length).map fun k => x0j (true, k)), 0)]) ?_
  have v1 : x05 1 [some (x0f n C, 9), some (.lst ((List.range C.B.length).map fun k => x0j (true, k)), 1)] = some (.lst ((List.range C.B.length).map fun k => x0j (true, k)), 0, [some (x0f n C, 9), some (.lst ((List.range C.B.length).map fun k => x0j (true, k)), 0)]) := rfl
  unfold y7o
  rw [v1]
  have hl : ((List.range C.B.length).map fun k => x0j (true, k)).length + ((List.range C.W.length).map fun k => x0j (false, k)).length <= 1000 := by
    rw [List.length_map, List.length_map, List.length_range, List.length_range]; omega
  generalize ((List.range C.B.length).map fun k => x0j (true, k)) = x at *
  generalize ((List.range C.W.length).map fun k => x0j (false, k)) = y at *
  rw [if_neg (by decide)] at h2
  simp only [h2, if_pos hl]
end
section
variable {n : Nat} {f : Nat -> Nat -> Nat} (L : Lad n f) {z : Nat} (hz : z < n) (bz : ∀ j, j < n -> f z j = j) {C : Cht} (hC : C.Ok n f)
noncomputable def x93 (p z : Nat) : List Nat := List.replicate p z
theorem y80 {p : Nat} (hz : z < n) : Vn n p (x93 p z) := ⟨by simp [x93], fun x hx => by rw [(List.mem_replicate.mp hx).2]; exact hz⟩
theorem y4a {p i : Nat} (hi : i < p) : gv (x93 p z) i = z := by unfold gv x93; simp [hi]
theorem y6x {p : Nat} (bz : ∀ j, j < n -> f z j = j) {v : List Nat} (hv : Vn n p v) : leV f p (x93 p z) v := fun i hi => by rw [y4a hi]; exact bz _ (hv.gv hi)
include L hz bz hC
theorem y83 : x7l [x0r n f, x0f n C] = some (.tup (x0h (x93 C.p z)), 9) := by
  have hn : n <= 1000 := Nat.le_trans L.hi (by decide)
  have hp8 := hC.p8
  have c0 : atD (x0f n C) 0 = some (.int (Int.ofNat C.p)) := rfl
  have hl := y5i L hz bz hn
  unfold x7l y5r
  have e : (List.replicate C.p [D.int (Int.ofNat z)]).flatten = x0h (x93 C.p z) := by
    simp [x0h, x93, List.flatten_replicate_singleton]
  have b1 : (-1000 : Int) <= Int.ofNat C.p := by show (-1000 : Int) <= (C.p : Int); omega
  have b2 : Int.ofNat C.p <= 1000 := by show (C.p : Int) <= 1000; omega
  have b3 : (Int.ofNat C.p).toNat = C.p := rfl
  have b4 : C.p <= 1000 := by omega
  simp [-Int.ofNat_eq_natCast, -List.flatten_replicate_singleton, hl, c0, b1, b2, b3, b4, e]
theorem y4i {l : List Sn} (hl : ∀ s ∈ l, okN C s) (hlen : l.length <= 1000) :
    ∃ (u : List Nat) (R : List Sn), LowS n f C.p (l.map (x3t C)) (x93 C.p z) u /\ (∀ s ∈ R, s ∈ l) /\ (R.map (x3t C)).foldl (doS f) (x93 C.p z) = u /\ Lad.mu n f u + R.length <= Lad.mu n f (x93 C.p z) /\ x4q [x0r n f, x0f n C, .lst (l.map x0j)] = some (.tup [.tup (x0h u), .int (Int.ofNat R.length)], 9) := by
  obtain ⟨u, R, h1, h2, h3, h4, e⟩ := y9f L hC (y80 (p := C.p) hz) hl hlen
  refine ⟨u, R, h1, h2, h3, h4, ?_⟩
  have r0 := x81 (n := n) hl hlen
  have r1 := y83 L hz bz hC
  have a0 : atD (.tup [.tup (x0h u), .lst (R.map x0j)]) 0 = some (.tup (x0h u)) := rfl
  have a1 : atD (.tup [.tup (x0h u), .lst (R.map x0j)]) 1 = some (.lst (R.map x0j)) := rfl
  have a2 : x8r (.lst (R.map x0j)) = some R.length := by simp [x8r]
  unfold x4q y0n
  simp [-Int.ofNat_eq_natCast, r0, r1, e, a0, a1, a2]
theorem y3v : ∃ u, LowS n f C.p (x2d C) (x93 C.p z) u /\ x58 [x0r n f, x0f n C] = some (.tup (x0h u), 9) := by
  have hB := hC.b60
  have hW := hC.w60
  obtain ⟨u, R, h1, h2, h3, h4, e⟩ := y4i L hz bz hC (z2k C) (by rw [z1a]; omega)
  rw [y9t] at h1
  refine ⟨u, h1, ?_⟩
  have r0 := y3e (n := n) hB hW
  have a0 : atD (.tup [.tup (x0h u), .int (Int.ofNat R.length)]) 0 = some (.tup (x0h u)) := rfl
  unfold x58 y7b
  simp [-Int.ofNat_eq_natCast, r0, e, a0]
end
theorem x4r {α : Type} {k : Nat} {pt : x5m} {tt : x29} {te : Den} {ρ : Rho} (enc : α -> D) (ext : α -> Rho) (b : α -> Bool) (v : α -> D) (q : α -> Nat) : ∀ l : List α,
    (∀ x ∈ l, pt (enc x) (ρ ++ List.replicate k none) = some (ρ ++ ext x) /\ tt (ρ ++ ext x) = some (b x, ρ ++ ext x) /\ (b x = true -> te (ρ ++ ext x) = some (v x, q x, ρ ++ ext x))) -> x5e k pt tt te false (l.map enc) ρ = some ((l.filter b).map v, ρ)
  | [], _ => rfl
  | x :: l, h => by
    obtain ⟨h1, h2, h3⟩ := h x List.mem_cons_self
    have ih := x4r enc ext b v q l (fun y m => h y (List.mem_cons_of_mem _ m))
    have ht : (ρ ++ ext x).take ρ.length = ρ := by simp
    rw [List.map_cons]
    unfold x5e
    rw [h1]
    simp only [h2]
    cases hb : b x with
    | true =>
      simp only [if_true, h3 hb, ht, ih]
      rw [List.filter_cons_of_pos hb]
      simp
    | false =>
      simp only [ht, ih]
      rw [List.filter_cons_of_neg (by rw [hb]; simp)]
      simp
theorem z09 {i : Nat} {ρ : Rho} {x : D × Nat} (h : ρ[i]? = some (some x)) : ρ.set i (some x) = ρ := by
  apply List.ext_getElem?
  intro k
  by_cases hk : i = k
  · subst hk
    rw [h, List.getElem?_set_self (List.getElem?_eq_some_iff.mp h).1]
  · rw [List.getElem?_set_ne hk]
theorem x64 {i q : Nat} {ρ : Rho} {ds : List D} (h : ρ[i]? = some (some (.lst ds, q))) : x05 i ρ = some (.lst ds, 0, ρ.set i (some (.lst ds, 0))) := by
  unfold x05
  rw [h]
  by_cases hq : q = 0
  · subst hq
    rw [z09 h]
    rfl
  · simp [hq]
theorem z8n {g h : x29} {ρ ρ1 : Rho} (e : g ρ = some (false, ρ1)) : y8v g h ρ = h ρ1 := by unfold y8v; rw [e]; rfl
theorem y7n {g : x29} {ρ ρ1 : Rho} {b : Bool} (e : g ρ = some (b, ρ1)) : x4t g ρ = some (!b, ρ1) := by unfold x4t; rw [e]
theorem y46 {f : Den} {ρ ρ1 : Rho} {b : Bool} {q : Nat} (h : f ρ = some (.bl b, q, ρ1)) : x7w f ρ = some (b, ρ1) := by unfold x7w; rw [h]; cases b <;> rfl
theorem x4z {i q n : Nat} {ρ : Rho} {d : D} (h : ρ[i]? = some (some (d, q))) (hl : x8r d = some n) : x14 i ρ = some (.int (Int.ofNat n), 9, ρ) := by unfold x14; rw [h]; simp only [hl]
theorem y5c {i q : Nat} {ρ : Rho} {d : D} (h : ρ[i]? = some (some (d, q))) (hd : d.isL = false) : x05 i ρ = some (d, 9, ρ) := by unfold x05; rw [h]; simp [hd]
theorem y3l {i q : Nat} {ρ : Rho} {x d : D} {b : Den} {k : Int} {q' : Nat} (hb : b ρ = some (.int k, q', ρ)) (h : ρ[i]? = some (some (x, q))) (ha : atD x k = some d) (hd : d.isL = false) : x1k i b ρ = some (d, 9, ρ) := by
  unfold x1k
  rw [h]
  simp only [hb, h, ha, hd, y0h]
  simp
theorem z21 {ρ : Rho} {x d : D} {a b : Den} {k : Int} {q q' : Nat} {ρ1 ρ2 : Rho} (h : a ρ = some (x, q, ρ1)) (hb : b ρ1 = some (.int k, q', ρ2)) (ha : atD x k = some d) (hx : x.isL = false) (hd : d.isL = false) : eIx a b ρ = some (d, 9, ρ2) := by
  unfold eIx
  rw [h]
  simp only [hb, ha, hd, hx, y0h]
  simp
theorem x6q (ns : List Int) {c : Int} (hc : 0 <= c) {n : Nat} (hn : 0 < n) : ∃ v, v < n /\ x0b [scr ns, .int c, .int (Int.ofNat n)] = some (.int (Int.ofNat v), 9) := by
  have hnp : (0 : Int) < Int.ofNat n := by show (0 : Int) < (n : Int); omega
  have h1 := x5s ns c hnp
  have h2 := x6u ns c hnp
  have h3 : Int.ofNat n = (n : Int) := rfl
  obtain ⟨v, hv⟩ := Int.eq_ofNat_of_zero_le h1
  refine ⟨v, by rw [hv, h3] at h2; omega, ?_⟩
  rw [x6i ns c _ hc hnp, hv]
  rfl
theorem x5r {g : x2a} {ρ ρ1 : Rho} {ds : List D} (h : g ρ = some (ds, ρ1)) (hl : ds.length <= 1000) : x4n g ρ = some (.tup ds, 9, ρ1) := by unfold x4n; rw [h]; exact if_pos hl
theorem x98 {α J : Type} {pt : x5m} {body : x1b} (enc : α -> D) (S : List D -> J -> Rho) (v : α -> D) : ∀ (l : List α) (acc : List D) (j : J), acc.length + l.length <= 1000 ->
    (∀ a ∈ l, ∀ ds j, ds.length <= 1000 -> ∃ ρ1 j', pt (enc a) (S ds j) = some ρ1 /\ body ρ1 = some (.nx (S (ds ++ [v a]) j'))) -> ∃ j', x8z pt body (l.map enc) (S acc j) = some (.nx (S (acc ++ l.map v) j'))
  | [], acc, j, _, _ => ⟨j, by rw [List.map_nil, List.map_nil, List.append_nil]; rfl⟩
  | a :: l, acc, j, hl, h => by
    rw [List.length_cons] at hl
    obtain ⟨ρ1, j1, h1, h2⟩ := h a List.mem_cons_self acc j (by omega)
    obtain ⟨j2, e⟩ := x98 enc S v l (acc ++ [v a]) j1 (by rw [List.length_append]; show _ + 1 + _ <= 1000; omega) fun b hb => h b (List.mem_cons_of_mem _ hb)
    refine ⟨j2, ?_⟩
    rw [List.map_cons, y4p h1 h2, e, List.append_assoc]
    rfl
theorem x99 {α β J : Type} {pt : x5m} {body : x1b} (enc : α -> D) (S : List D -> J -> Rho) (dec : β -> D) (good : β -> Prop) : ∀ (l : List α) (acc : List D) (j : J), acc.length + l.length <= 1000 ->
    (∀ a ∈ l, ∀ ds j, ds.length <= 1000 -> ∃ ρ1 j' x, good x /\ pt (enc a) (S ds j) = some ρ1 /\ body ρ1 = some (.nx (S (ds ++ [dec x]) j'))) -> ∃ (xs : List β) (j' : J), xs.length = l.length /\ (∀ x ∈ xs, good x) /\ x8z pt body (l.map enc) (S acc j) = some (.nx (S (acc ++ xs.map dec) j'))
  | [], acc, j, _, _ => ⟨[], j, rfl, (fun _ h => nomatch h), by rw [List.map_nil, List.map_nil, List.append_nil]; rfl⟩
  | a :: l, acc, j, hl, h => by
    rw [List.length_cons] at hl
    obtain ⟨ρ1, j1, x, hx, h1, h2⟩ := h a List.mem_cons_self acc j (by omega)
    obtain ⟨xs, j2, l2, g2, e⟩ := x99 enc S dec good l (acc ++ [dec x]) j1 (by rw [List.length_append]; show _ + 1 + _ <= 1000; omega) fun b hb => h b (List.mem_cons_of_mem _ hb)
    refine ⟨x :: xs, j2, by rw [List.length_cons, List.length_cons, l2], fun y hy => ?_, ?_⟩
    · rcases List.mem_cons.mp hy with rfl | hy
      · exact hx
      · exact g2 y hy
    · rw [List.map_cons, y4p h1 h2, e, List.append_assoc]
      rfl
noncomputable abbrev Led := Nat ⊕ (Nat -> Nat)
structure Hs where
  p : Nat
  W : List (Nat × Nat × Led)
noncomputable def z6h : Led -> Bool
  | .inl _ => true
  | .inr _ => false
noncomputable def x8t (n : Nat) : Led -> D
  | .inl j => .int (Int.ofNat j)
  | .inr r => x21 n r
noncomputable def x7c (n : Nat) (w : Nat × Nat × Led) : D := .tup [.int (Int.ofNat w.1), .int (Int.ofNat w.2.1), x8t n w.2.2]
noncomputable def x0p (n : Nat) (H : Hs) : D := .tup [.int (Int.ofNat H.p), .tup (H.W.map (x7c n))]
noncomputable def x2q (n : Nat) (P : List Hs) : D := .tup (P.map (x0p n))
noncomputable def okL (n : Nat) (f : Nat -> Nat -> Nat) (h : Nat) : Led -> Prop
  | .inl j => j < h
  | .inr r => (∀ i, i < n -> r i < n) /\ ∀ x y, x < n -> y < n -> f x y = y -> f (r x) (r y) = r y
structure Hs.Ok (n : Nat) (f : Nat -> Nat -> Nat) (h : Nat) (H : Hs) : Prop where
  p1 : 1 <= H.p
  p8 : H.p <= 8
  w60 : H.W.length <= 60
  ws : ∀ w ∈ H.W, w.1 < H.p /\ w.2.1 < H.p /\ okL n f h w.2.2
@[simp] theorem y26 {n : Nat} {x : Led} : (x8t n x).isL = false := by cases x <;> rfl
@[simp] theorem z54 {n : Nat} {H : Hs} : (x0p n H).isL = false := rfl
@[simp] theorem z8p {n : Nat} {P : List Hs} : (x2q n P).isL = false := rfl
theorem y99 {n : Nat} {x : Led} : y0h (x8t n x) = 9 := by unfold y0h; rw [y26]; rfl
noncomputable def x4o (r : List Nat) : D := .tup (x0h r)
noncomputable def x07 (V : List (List Nat)) : D := .tup (V.map x4o)
@[simp] theorem z50 {V : List (List Nat)} : (x07 V).isL = false := rfl
theorem y2q {n : Nat} {r : List Nat} (h : r.length = n) : x4o r = x21 n (gv r) := by
  unfold x4o x21
  rw [<- h, <- j0r r]
structure RowOk (n : Nat) (f : Nat -> Nat -> Nat) (r : List Nat) : Prop where
  V : Vn n n r
  m : ∀ x y, x < n -> y < n -> f x y = y -> f (gv r x) (gv r y) = gv r y
structure VOk (n : Nat) (f : Nat -> Nat -> Nat) (h : Nat) (V : List (List Nat)) : Prop where
  len : V.length = h
  row : ∀ r ∈ V, RowOk n f r
noncomputable def y5u (f : Nat -> Nat -> Nat) (n : Nat) (V W : List (List Nat)) : Prop := ∀ j, j < V.length -> leV f n (V.getD j []) (W.getD j [])
noncomputable def y6i (V : List (List Nat)) : Led -> Nat -> Nat
  | .inl j => gv (V.getD j [])
  | .inr r => r
noncomputable def x67 (V : List (List Nat)) (H : Hs) (w : Nat) : Cht := ⟨H.p, H.W.map fun a => (a.1, a.2.1, y6i V a.2.2), [(0, w)]⟩
theorem VOk.at {n : Nat} {f : Nat -> Nat -> Nat} {h : Nat} {V : List (List Nat)} (o : VOk n f h V) {j : Nat} (hj : j < h) : RowOk n f (V.getD j []) := by
  have hj' : j < V.length := by rw [o.len]; exact hj
  refine o.row _ ?_
  rw [List.getD_eq_getElem?_getD, List.getElem?_eq_getElem hj']
  exact List.getElem_mem hj'
theorem VOk.get {n : Nat} {f : Nat -> Nat -> Nat} {h : Nat} {V : List (List Nat)} (o : VOk n f h V) {j : Nat} (hj : j < h) : atD (x07 V) (Int.ofNat j) = some (x21 n (gv (V.getD j []))) := by
  have hj' : j < V.length := by rw [o.len]; exact hj
  show L2.atI (V.map x4o) (Int.ofNat j) = _
  refine z40 ?_
  rw [List.getElem?_map, List.getElem?_eq_getElem hj', <- y2q (o.at hj).V.len, List.getD_eq_getElem?_getD, List.getElem?_eq_getElem hj']
  rfl
theorem x5q {n : Nat} {f : Nat -> Nat -> Nat} {h : Nat} {V : List (List Nat)} (o : VOk n f h V) {H : Hs} (hH : H.Ok n f h) {w : Nat} (hw : w < n) : (x67 V H w).Ok n f where
  p1 := hH.p1
  p8 := hH.p8
  w60 := by show (H.W.map _).length <= 60; rw [List.length_map]; exact hH.w60
  b60 := by show 1 <= 60; decide
  ws := fun a ha => by
    obtain ⟨b, hb, rfl⟩ := List.mem_map.mp ha
    obtain ⟨h1, h2, h3⟩ := hH.ws b hb
    refine ⟨h1, h2, ?_⟩
    show (∀ i, i < n -> y6i V b.2.2 i < n) /\ ∀ x y, x < n -> y < n -> f x y = y -> f (y6i V b.2.2 x) (y6i V b.2.2 y) = y6i V b.2.2 y
    cases hb2 : b.2.2 with
    | inl j =>
      rw [hb2] at h3
      have r := o.at (show j < h from h3)
      exact ⟨fun i hi => r.V.gv hi, r.m⟩
    | inr r =>
      rw [hb2] at h3
      exact h3
  bs := fun b hb => by
    have : b = (0, w) := List.mem_singleton.mp hb
    subst this
    exact ⟨hH.p1, hw⟩
theorem j0q {n : Nat} {f : Nat -> Nat -> Nat} {h : Nat} {V : List (List Nat)} (o : VOk n f h V) {x : Led} (hx : okL n f h x) {i j : Nat} {ρ : Rho} {c : x29} (hc : c ρ = some (z6h x, ρ)) (hi : ρ[i]? = some (some (x07 V, 9))) (hj : ρ[j]? = some (some (x8t n x, 9))) :
    eIf c (x1k i (x05 j)) (x05 j) ρ = some (x21 n (y6i V x), 9, ρ) := by
  unfold eIf
  rw [hc]
  cases x with
  | inl k => exact y3l (y5c hj rfl) hi (o.get (show k < h from hx)) rfl
  | inr r => exact y5c hj rfl
theorem y7h {n : Nat} {f : Nat -> Nat -> Nat} {h : Nat} {V : List (List Nat)} (o : VOk n f h V) {H : Hs} (hH : H.Ok n f h) {w : Nat} : x2m [x0p n H, x07 V, .int (Int.ofNat w)] = some (x0f n (x67 V H w), 9) := by
  have hw6 := hH.w60
  unfold x2m x6g
  refine x2t ?_
  show x13 _ _ [some (x0p n H, 9), some (x07 V, 9), some (.int (Int.ofNat w), 9), none] = _
  have i1 : x5d (x1k 0 (eC (.int 1))) [some (x0p n H, 9), some (x07 V, 9), some (.int (Int.ofNat w), 9), none] = some (H.W.map (x7c n), [some (x0p n H, 9), some (x07 V, 9), some (.int (Int.ofNat w), 9), none]) := by
    have e : x1k 0 (eC (.int 1)) [some (x0p n H, 9), some (x07 V, 9), some (.int (Int.ofNat w), 9), none] = some (.tup (H.W.map (x7c n)), 9, [some (x0p n H, 9), some (x07 V, 9), some (.int (Int.ofNat w), 9), none]) := rfl
    unfold x5d
    rw [e]
    simp only [List.length_map]
    rw [if_pos (by omega)]
  have c1 := x1x (k := 3) (tt := x2o) (te := x4n (x01 (x05 4) (x01 (x05 5) (x01 (eIf (x7w (x0g x30 1 (x01 (x05 6) (x0e)))) (x1k 1 (x05 6)) (x05 6)) (x0e))))) (deep := false) (pt := y3j (x15 (x0m 4) (x15 (x0m 5) (x15 (x0m 6) (x66))))) i1 (x4r (x7c n) (fun a => [some (.int (Int.ofNat a.1), 9), some (.int (Int.ofNat a.2.1), 9), some (x8t n a.2.2, 9)]) (fun _ => true) (fun a => x8c n (a.1, a.2.1, y6i V a.2.2)) (fun _ => 9) H.W (fun a ha => ⟨by
      show y3j _ (D.tup [.int (Int.ofNat a.1), .int (Int.ofNat a.2.1), x8t n a.2.2]) _ = _
      have := y99 (n := n) (x := a.2.2)
      cases hx : a.2.2 <;> rfl, rfl, fun _ => by
    obtain ⟨_, _, hx⟩ := hH.ws a ha
    have e := j0q (i := 1) (j := 6) (ρ := [some (x0p n H, 9), some (x07 V, 9), some (.int (Int.ofNat w), 9), none] ++ [some (.int (Int.ofNat a.1), 9), some (.int (Int.ofNat a.2.1), 9), some (x8t n a.2.2, 9)]) (c := x7w (x0g x30 1 (x01 (x05 6) (x0e)))) o hx (by
      have e1 := x2g (x8t n a.2.2)
      have v6 : x05 6 ([some (x0p n H, 9), some (x07 V, 9), some (.int (Int.ofNat w), 9), none] ++ [some (.int (Int.ofNat a.1), 9), some (.int (Int.ofNat a.2.1), 9), some (x8t n a.2.2, 9)]) = some (x8t n a.2.2, 9, [some (x0p n H, 9), some (x07 V, 9), some (.int (Int.ofNat w), 9), none] ++ [some (.int (Int.ofNat a.1), 9), some (.int (Int.ofNat a.2.1), 9), some (x8t n a.2.2, 9)]) := y5c rfl y26
      refine y46 (q := 9) ((x0u (x0x v6) rfl e1).trans ?_)
      cases a.2.2 <;> rfl) rfl rfl
    exact x5r (x1e (f := x05 4) (q := 9) rfl (x1e (f := x05 5) (q := 9) rfl (x0x e))) (show 3 <= 1000 by decide)⟩))
  have e1 : (H.W.filter fun _ => true).map (fun a => x8c n (a.1, a.2.1, y6i V a.2.2)) = (x67 V H w).W.map (x8c n) := by
    show _ = (H.W.map _).map (x8c n)
    rw [List.map_map, List.filter_eq_self.mpr fun _ _ => rfl]
    rfl
  rw [e1] at c1
  refine (x0i (ρ1 := [some (x0p n H, 9), some (x07 V, 9), some (.int (Int.ofNat w), 9), some (.lst ((x67 V H w).W.map (x8c n)), 1)]) (x1s c1 rfl)).trans ?_
  exact x2r (x5r (x1e (f := x1k 0 (eC (.int 0))) (q := 9) rfl (x1e (x1t (x0x (x64 (i := 3) (q := 1) (ds := (x67 V H w).W.map (x8c n)) rfl))) (x0x (f := x4n (x01 (x4n (x01 (eC (.int 0)) (x01 (x05 2) (x0e)))) (x0e))) (d := .tup [y4e (0, w)]) (q := 9) rfl))) (show 3 <= 1000 by decide))
theorem y18 {n : Nat} {f : Nat -> Nat -> Nat} {h : Nat} {V : List (List Nat)} (o : VOk n f h V) {H : Hs} (hH : H.Ok n f h) {w : Nat} : x19 [x0p n H, x07 V, .int (Int.ofNat w)] = some (x0f n (x67 V H w), 9) := by
  have hw6 := hH.w60
  unfold x19 x4g
  refine x2t ?_
  show x13 _ _ [some (x0p n H, 9), some (x07 V, 9), some (.int (Int.ofNat w), 9), none, none, none, none] = _
  refine (x0i (ρ1 := [some (x0p n H, 9), some (x07 V, 9), some (.int (Int.ofNat w), 9), some (.lst ([]), 1), none, none, none]) rfl).trans ?_
  have i1 : x5d (x1k 0 (eC (.int 1))) [some (x0p n H, 9), some (x07 V, 9), some (.int (Int.ofNat w), 9), some (.lst ([]), 1), none, none, none] = some (H.W.map (x7c n), [some (x0p n H, 9), some (x07 V, 9), some (.int (Int.ofNat w), 9), some (.lst ([]), 1), none, none, none]) := by
    have e : x1k 0 (eC (.int 1)) [some (x0p n H, 9), some (x07 V, 9), some (.int (Int.ofNat w), 9), some (.lst ([]), 1), none, none, none] = some (.tup (H.W.map (x7c n)), 9, [some (x0p n H, 9), some (x07 V, 9), some (.int (Int.ofNat w), 9), some (.lst ([]), 1), none, none, none]) := rfl
    unfold x5d
    rw [e]
    simp only [List.length_map]
    rw [if_pos (by omega)]
  obtain ⟨j, e⟩ := x98 (J := Option (D × Nat) × Option (D × Nat) × Option (D × Nat)) (pt := y3j (x15 (x0m 4) (x15 (x0m 5) (x15 (x0m 6) (x66))))) (body := x42) (x7c n) (fun l j => [some (x0p n H, 9), some (x07 V, 9), some (.int (Int.ofNat w), 9), some (.lst (l), 1), j.1, j.2.1, j.2.2]) (fun a => x8c n (a.1, a.2.1, y6i V a.2.2)) H.W [] (none, none, none) (by show 0 + _ <= 1000; omega) (fun a ha l j hl => by
    obtain ⟨_, _, hx⟩ := hH.ws a ha
    have er := j0q (i := 1) (j := 6) (ρ := [some (x0p n H, 9), some (x07 V, 9), some (.int (Int.ofNat w), 9), some (.lst (l), 1), some (.int (Int.ofNat a.1), 9), some (.int (Int.ofNat a.2.1), 9), some (x8t n a.2.2, 9)]) (c := x7w (y6o .int (x05 6))) o hx (by
      clear hx
      cases a.2.2 <;> rfl) rfl rfl
    refine ⟨[some (x0p n H, 9), some (x07 V, 9), some (.int (Int.ofNat w), 9), some (.lst (l), 1), some (.int (Int.ofNat a.1), 9), some (.int (Int.ofNat a.2.1), 9), some (x8t n a.2.2, 9)], (some (.int (Int.ofNat a.1), 9), some (.int (Int.ofNat a.2.1), 9), some (x8t n a.2.2, 9)), ?_, ?_⟩
    · show y3j _ (D.tup [.int (Int.ofNat a.1), .int (Int.ofNat a.2.1), x8t n a.2.2]) _ = _
      cases hx : a.2.2 <;> rfl
    · unfold x42
      exact x6j (ds := l) rfl (x0x (x5r (x1e (f := x05 4) (q := 9) rfl (x1e (f := x05 5) (q := 9) rfl (x0x er))) (show 3 <= 1000 by decide))) rfl hl rfl)
  have e1 : [] ++ H.W.map (fun a => x8c n (a.1, a.2.1, y6i V a.2.2)) = (x67 V H w).W.map (x8c n) := by
    show _ = (H.W.map _).map (x8c n)
    rw [List.map_map]
    rfl
  rw [e1] at e
  refine (x0i ((x31 i1).trans e)).trans ?_
  exact x2r (x5r (x1e (f := x1k 0 (eC (.int 0))) (q := 9) rfl (x1e (x1t (x0x (x64 (i := 3) (q := 1) (ds := (x67 V H w).W.map (x8c n)) rfl))) (x0x (f := x4n (x01 (x4n (x01 (eC (.int 0)) (x01 (x05 2) (x0e)))) (x0e))) (d := .tup [y4e (0, w)]) (q := 9) rfl))) (show 3 <= 1000 by decide))
theorem z6t {u : List Nat} (h : 0 < u.length) : atD (.tup (x0h u)) (-1) = some (.int (Int.ofNat (gv u (u.length - 1)))) := by
  have hne : u ≠ [] := fun z => by rw [z] at h; cases h
  have e : u = u.dropLast ++ [u.getLast hne] := (List.dropLast_concat_getLast hne).symm
  have e2 : gv u (u.length - 1) = u.getLast hne := by
    unfold gv
    rw [List.getD_eq_getElem?_getD, List.getElem?_eq_getElem (by omega), <- List.getLast_eq_getElem hne]
    rfl
  have e3 : x0h u = x0h u.dropLast ++ [.int (Int.ofNat (u.getLast hne))] := by
    have := congrArg x0h e
    rw [this]
    simp [x0h]
  rw [e2]
  show L2.atI (x0h u) (-1) = _
  rw [e3]
  have hi : ixN ((x0h u.dropLast ++ [D.int (Int.ofNat (u.getLast hne))]).length) (-1) = some (x0h u.dropLast).length := by
    rw [List.length_append]
    unfold ixN
    simp
    omega
  unfold L2.atI
  rw [hi]
  simp
noncomputable def ans (n : Nat) (f : Nat -> Nat -> Nat) (C : Cht) : List Nat := match x58 [x0r n f, x0f n C] with
  | some (.tup ds, _) => ds.map fun d => match d with | .int i => i.toNat | _ => 0
  | _ => []
theorem z5j {n : Nat} {f : Nat -> Nat -> Nat} {C : Cht} {u : List Nat} {q : Nat} (h : x58 [x0r n f, x0f n C] = some (.tup (x0h u), q)) : ans n f C = u := by
  unfold ans
  rw [h]
  show (x0h u).map _ = u
  simp [x0h, Function.comp_def]
noncomputable def nxr (n : Nat) (f : Nat -> Nat -> Nat) (V : List (List Nat)) (H : Hs) : List Nat := (List.range n).map fun w => gv (ans n f (x67 V H w)) (H.p - 1)
noncomputable def nx (n : Nat) (f : Nat -> Nat -> Nat) (P : List Hs) (V : List (List Nat)) : List (List Nat) := P.map (nxr n f V)
section
variable {n : Nat} {f : Nat -> Nat -> Nat} (L : Lad n f) {z : Nat} (hz : z < n) (bz : ∀ j, j < n -> f z j = j)
include L hz bz
theorem x9f {C : Cht} (hC : C.Ok n f) : LowS n f C.p (x2d C) (x93 C.p z) (ans n f C) /\ x58 [x0r n f, x0f n C] = some (.tup (x0h (ans n f C)), 9) := by
  obtain ⟨u, h1, h2⟩ := y3v L hz bz hC
  rw [z5j h2]
  exact ⟨h1, h2⟩
theorem z1j {C : Cht} (hC : C.Ok n f) {a : List Nat} (ha : Vn n C.p a) (cl : ClS f (x2d C) a) : leV f C.p (ans n f C) a := (x9f L hz bz hC).1.le a ha cl (y6x bz ha)
theorem z0w {V : List (List Nat)} {H : Hs} {w : Nat} {v : List Nat} : ClS f (x2d (x67 V H w)) v ↔ f w (gv v 0) = gv v 0 /\ ∀ a ∈ H.W, f (y6i V a.2.2 (gv v a.1)) (gv v a.2.1) = gv v a.2.1 := by
  constructor
  · intro h
    refine ⟨h (x70 (0, w)) (List.mem_append_left _ (List.mem_singleton.mpr rfl)), fun a ha => ?_⟩
    exact h (y1i (a.1, a.2.1, y6i V a.2.2)) (List.mem_append_right _ (List.mem_map_of_mem (List.mem_map_of_mem (f := fun a : Nat × Nat × Led => (a.1, a.2.1, y6i V a.2.2)) ha)))
  · intro h s hs
    rcases List.mem_append.mp hs with m | m
    · have : s = x70 (0, w) := List.mem_singleton.mp m
      subst this
      exact h.1
    · obtain ⟨b, hb, rfl⟩ := List.mem_map.mp m
      obtain ⟨a, ha, rfl⟩ := List.mem_map.mp hb
      exact h.2 a ha
variable {h : Nat} {P : List Hs} (hP : ∀ H ∈ P, H.Ok n f h) (hl : P.length = h)
theorem y5g {V : List (List Nat)} {H : Hs} {w : Nat} (hw : w < n) : gv (nxr n f V H) w = gv (ans n f (x67 V H w)) (H.p - 1) := y4y _ hw
include hP hl
theorem z8f {V : List (List Nat)} (o : VOk n f h V) {H : Hs} (hH : H.Ok n f h) : RowOk n f (nxr n f V H) := by
  have p1 := hH.p1
  refine ⟨⟨by unfold nxr; rw [List.length_map, List.length_range], fun x hx => ?_⟩, fun x y hx hy e => ?_⟩
  · obtain ⟨w, hw, rfl⟩ := List.mem_map.mp hx
    exact (x9f L hz bz (x5q o hH (List.mem_range.mp hw))).1.V.gv (show H.p - 1 < H.p by omega)
  · rw [y5g L hz bz hx, y5g L hz bz hy]
    have ox := x9f L hz bz (x5q o hH hx)
    have oy := x9f L hz bz (x5q o hH hy)
    have c := (z0w L hz bz).mp oy.1.cl
    refine z1j L hz bz (x5q o hH hx) oy.1.V ((z0w L hz bz).mpr ⟨?_, c.2⟩) (H.p - 1) (show H.p - 1 < H.p by omega)
    exact L.le_trans hx hy (oy.1.V.gv (show 0 < H.p by omega)) e c.1
theorem y7t {V : List (List Nat)} (o : VOk n f h V) : VOk n f h (nx n f P V) := ⟨by unfold nx; rw [List.length_map]; exact hl, fun r hr => by
  obtain ⟨H, hH, rfl⟩ := List.mem_map.mp hr
  exact z8f L hz bz hP hl o (hP H hH)⟩
theorem z5o {V : List (List Nat)} {j : Nat} (hj : j < h) : ∃ H ∈ P, ∀ V, (nx n f P V).getD j [] = nxr n f V H := by
  have hj' : j < P.length := by rw [hl]; exact hj
  refine ⟨P[j], List.getElem_mem hj', fun V => ?_⟩
  unfold nx
  rw [List.getD_eq_getElem?_getD, List.getElem?_map, List.getElem?_eq_getElem hj']
  rfl
theorem y27 {V W : List (List Nat)} (o : VOk n f h V) (o' : VOk n f h W) (le : y5u f n V W) : y5u f n (nx n f P V) (nx n f P W) := fun j hj => by
  have hj' : j < h := by rw [<- (y7t L hz bz hP hl o).len]; exact hj
  obtain ⟨H, hH, e⟩ := z5o L hz bz hP hl (V := V) hj'
  rw [e, e]
  have oH := hP H hH
  have p1 := oH.p1
  intro w hw
  rw [y5g L hz bz hw, y5g L hz bz hw]
  have ox := x9f L hz bz (x5q o' oH hw)
  have c := (z0w L hz bz).mp ox.1.cl
  refine z1j L hz bz (x5q o oH hw) ox.1.V ((z0w L hz bz).mpr ⟨c.1, fun a ha => ?_⟩) (H.p - 1) (show H.p - 1 < H.p by omega)
  obtain ⟨a1, a2, a3⟩ := oH.ws a ha
  have c2 := c.2 a ha
  cases hx : a.2.2 with
  | inr r => rw [hx] at c2; exact c2
  | inl k =>
    rw [hx] at c2 a3
    have hk : k < h := a3
    have g1 := ox.1.V.gv (show a.1 < H.p from a1)
    have g2 := ox.1.V.gv (show a.2.1 < H.p from a2)
    exact L.le_trans ((o.at hk).V.gv g1) ((o'.at hk).V.gv g1) g2 (le k (by rw [o.len]; exact hk) _ g1) c2
omit hP hl
theorem y1p {V : List (List Nat)} (o : VOk n f h V) {H : Hs} (hH : H.Ok n f h) : x3d [x0r n f, x0p n H, x07 V] = some (x4o (nxr n f V H), 9) := by
  have hn : n <= 1000 := Nat.le_trans L.hi (by decide)
  have p1 := hH.p1
  unfold x3d x8h
  have hcm := x1x (k := 1) (tt := x2o) (te := eIx (x0g x58 2 (x01 (x05 0) (x01 (x0g x2m 3 (x01 (x05 1) (x01 (x05 2) (x01 (x05 3) (x0e))))) (x0e)))) (z53 (eC (.int 1)))) (deep := false) (x3m hn (i := 0) (ρ := [some (x0r n f, 9), some (x0p n H, 9), some (x07 V, 9)]) rfl x1r) (y42 (i := 3) rfl (fun _ => true) (fun w => .int (Int.ofNat (gv (ans n f (x67 V H w)) (H.p - 1)))) (fun _ => 9) (fun j hj => rfl) (fun w hw _ => by
    have oc := x9f L hz bz (x5q o hH hw)
    have lu : (ans n f (x67 V H w)).length = H.p := oc.1.V.len
    have ae := z6t (u := ans n f (x67 V H w)) (by rw [lu]; omega)
    rw [lu] at ae
    exact z21 (x0u (x1e (f := x05 0) (q := 9) rfl (x0x (x0u (ds := [x0p n H, x07 V, .int (Int.ofNat w)]) rfl rfl (y7h o hH)))) rfl oc.2) (b := z53 (eC (.int 1))) (k := -1) (q' := 9) rfl ae rfl rfl))
  rw [show (List.range n).filter (fun _ => true) = List.range n by simp] at hcm
  have e1 : D.tup ((List.range n).map fun w => .int (Int.ofNat (gv (ans n f (x67 V H w)) (H.p - 1)))) = x4o (nxr n f V H) := by
    unfold x4o nxr
    rw [x5z]
  have e2 := x1t (x0x hcm)
  rw [e1] at e2
  exact x2t (x2r e2)
theorem y7m {V : List (List Nat)} (o : VOk n f h V) (hP : ∀ H ∈ P, H.Ok n f h) (hlen : P.length <= 1000) : x1j [x0r n f, x2q n P, x07 V] = some (x07 (nx n f P V), 9) := by
  unfold x1j x4x
  have hi : x5d (x05 1) [some (x0r n f, 9), some (x2q n P, 9), some (x07 V, 9)] = some (P.map (x0p n), [some (x0r n f, 9), some (x2q n P, 9), some (x07 V, 9)]) := by
    simp [x2q, hlen]
  have hcm := x1x (k := 1) (tt := x2o) (te := x0g x3d 3 (x01 (x05 0) (x01 (x05 3) (x01 (x05 2) (x0e))))) (deep := false) (pt := x0m 3) hi (x4r (x0p n) (fun H => [some (x0p n H, 9)]) (fun _ => true) (fun H => x4o (nxr n f V H)) (fun _ => 9) P (fun H hH => ⟨rfl, rfl, fun _ => x0u (ds := [x0r n f, x0p n H, x07 V]) rfl rfl (y1p L hz bz o (hP H hH))⟩))
  have e1 : (P.filter fun _ => true).map (fun H => x4o (nxr n f V H)) = (nx n f P V).map x4o := by
    unfold nx
    rw [List.map_map, List.filter_eq_self.mpr fun _ _ => rfl]
    rfl
  rw [e1] at hcm
  exact x2t (x2r (x1t (x0x hcm)))
noncomputable abbrev N8 (n : Nat) (f : Nat -> Nat -> Nat) (P : List Hs) (V : List (List Nat)) (l : List D) (a b c d : Option (D × Nat)) : Rho := [some (x0r n f, 9), some (x2q n P, 9), some (x07 V, 9), some (.lst l, 1), a, b, c, d]
theorem x6s {V : List (List Nat)} (o : VOk n f h V) (hP : ∀ H ∈ P, H.Ok n f h) (hlen : P.length <= 900) : x10 [x0r n f, x2q n P, x07 V] = some (x07 (nx n f P V), 9) := by
  have hn : n <= 1000 := Nat.le_trans L.hi (by decide)
  have hn8 := L.hi
  unfold x10 x4w
  refine x2t ?_
  show x13 _ _ [some (x0r n f, 9), some (x2q n P, 9), some (x07 V, 9), none, none, none, none, none] = _
  refine (x0i (ρ1 := N8 n f P V [] none none none none) rfl).trans ?_
  have hi : x5d (x05 1) (N8 n f P V [] none none none none) = some (P.map (x0p n), N8 n f P V [] none none none none) := by
    have : P.length <= 1000 := by omega
    simp [x2q, this]
  obtain ⟨j, e⟩ := x98 (J := Option (D × Nat) × Option (D × Nat) × Option (D × Nat) × Option (D × Nat)) (pt := x0m 4) (body := x4h) (x0p n) (fun l j => N8 n f P V l j.1 j.2.1 j.2.2.1 j.2.2.2) (fun H => x4o (nxr n f V H)) P [] (none, none, none, none) (by show 0 + _ <= 1000; omega) (fun H hH l j hl => by
    have oH := hP H hH
    have p1 := oH.p1
    have p8 := oH.p8
    obtain ⟨j', e⟩ := x98 (J := Option (D × Nat) × Option (D × Nat)) (pt := x0m 6) (body := x4i) (fun w : Nat => D.int (Int.ofNat w)) (fun row j => N8 n f P V l (some (x0p n H, 9)) (some (.lst row, 1)) j.1 j.2) (fun w => .int (Int.ofNat (gv (ans n f (x67 V H w)) (H.p - 1)))) (List.range n) [] (j.2.2.1, j.2.2.2) (by rw [List.length_range]; show 0 + n <= 1000; omega) (fun w hw row j hrow => by
      have hwn := List.mem_range.mp hw
      have oc := x5q o oH hwn
      have oa := x9f L hz bz oc
      have hlow := y80 (p := H.p) hz
      obtain ⟨u, hu, eu⟩ := y1f L oc hlow
      have eq : u = ans n f (x67 V H w) := L.leV_anti hu.V oa.1.V (hu.le _ oa.1.V oa.1.cl oa.1.up) (oa.1.le u hu.V hu.cl hu.up)
      subst eq
      have ae : atD (.tup (x0h (ans n f (x67 V H w)))) (Int.ofNat (H.p - 1)) = some (.int (Int.ofNat (gv (ans n f (x67 V H w)) (H.p - 1)))) := j0d (by rw [oa.1.V.len]; show H.p - 1 < H.p; omega)
      refine ⟨N8 n f P V l (some (x0p n H, 9)) (some (.lst row, 1)) (some (.int (Int.ofNat w), 9)) j.2, (some (.int (Int.ofNat w), 9), some (x0f n (x67 V H w), 9)), rfl, ?_⟩
      unfold x4i
      refine (x0i (ρ1 := N8 n f P V l (some (x0p n H, 9)) (some (.lst row, 1)) (some (.int (Int.ofNat w), 9)) (some (x0f n (x67 V H w), 9))) (x1s (x0u (ds := [x0p n H, x07 V, .int (Int.ofNat w)]) rfl rfl (y18 o oH)) rfl)).trans ?_
      have e1 : x4n (x01 (x0g x16 1 (x01 (x05 0) (x0e))) (x0e)) (N8 n f P V l (some (x0p n H, 9)) (some (.lst row, 1)) (some (.int (Int.ofNat w), 9)) (some (x0f n (x67 V H w), 9))) = some (.tup [.int (Int.ofNat z)], 9, N8 n f P V l (some (x0p n H, 9)) (some (.lst row, 1)) (some (.int (Int.ofNat w), 9)) (some (x0f n (x67 V H w), 9))) := x5r (x0x (x0u (ds := [x0r n f]) rfl rfl (y5n L hz bz hn))) (show 1 <= 1000 by decide)
      have e2 : x1k 4 (eC (.int 0)) (N8 n f P V l (some (x0p n H, 9)) (some (.lst row, 1)) (some (.int (Int.ofNat w), 9)) (some (x0f n (x67 V H w), 9))) = some (.int (Int.ofNat H.p), 9, N8 n f P V l (some (x0p n H, 9)) (some (.lst row, 1)) (some (.int (Int.ofNat w), 9)) (some (x0f n (x67 V H w), 9))) := rfl
      have e3 : x9n (x4n (x01 (x0g x16 1 (x01 (x05 0) (x0e))) (x0e))) (x1k 4 (eC (.int 0))) (N8 n f P V l (some (x0p n H, 9)) (some (.lst row, 1)) (some (.int (Int.ofNat w), 9)) (some (x0f n (x67 V H w), 9))) = some (.tup (x0h (x93 H.p z)), 9, N8 n f P V l (some (x0p n H, 9)) (some (.lst row, 1)) (some (.int (Int.ofNat w), 9)) (some (x0f n (x67 V H w), 9))) := by
        unfold x9n
        rw [e1]
        simp only [e2]
        rw [if_pos ⟨rfl, by show (1 : Int) <= (H.p : Int); omega, by show 1 * H.p <= 1000; omega⟩]
        show some (D.tup (List.replicate H.p [D.int (Int.ofNat z)]).flatten, 9, _) = _
        rw [List.flatten_replicate_singleton]
        simp [x0h, x93]
      have e4 : z1n (.int (Int.ofNat H.p)) (.int 1) = some (.int (Int.ofNat (H.p - 1))) := by
        show some (D.int (Int.ofNat H.p - 1)) = _
        have : Int.ofNat H.p - 1 = Int.ofNat (H.p - 1) := by show (H.p : Int) - 1 = ((H.p - 1 : Nat) : Int); omega
        rw [this]
      have v0 : x05 0 (N8 n f P V l (some (x0p n H, 9)) (some (.lst row, 1)) (some (.int (Int.ofNat w), 9)) (some (x0f n (x67 V H w), 9))) = some (x0r n f, 9, N8 n f P V l (some (x0p n H, 9)) (some (.lst row, 1)) (some (.int (Int.ofNat w), 9)) (some (x0f n (x67 V H w), 9))) := rfl
      have v7 : x05 7 (N8 n f P V l (some (x0p n H, 9)) (some (.lst row, 1)) (some (.int (Int.ofNat w), 9)) (some (x0f n (x67 V H w), 9))) = some (x0f n (x67 V H w), 9, N8 n f P V l (some (x0p n H, 9)) (some (.lst row, 1)) (some (.int (Int.ofNat w), 9)) (some (x0f n (x67 V H w), 9))) := rfl
      have e5 := z21 (x0u (F := x1v) (n := 3) (x1e v0 (x1e v7 (x0x e3))) rfl eu) (x3w e2 (rfl : eC (.int 1) _ = some (.int 1, 9, _)) e4) ae rfl rfl
      exact x6j (ds := row) rfl (x0x e5) rfl hrow rfl)
    have e1 : [] ++ (List.range n).map (fun w => D.int (Int.ofNat (gv (ans n f (x67 V H w)) (H.p - 1)))) = x0h (nxr n f V H) := by
      unfold nxr
      rw [x5z]
      rfl
    rw [e1] at e
    refine ⟨N8 n f P V l (some (x0p n H, 9)) j.2.1 j.2.2.1 j.2.2.2, (some (x0p n H, 9), some (.lst (x0h (nxr n f V H)), 0), j'.1, j'.2), rfl, ?_⟩
    unfold x4h
    refine (x0i (ρ1 := N8 n f P V l (some (x0p n H, 9)) (some (.lst [], 1)) j.2.2.1 j.2.2.2) rfl).trans ?_
    refine (x0i ((x31 (x3m hn rfl x1r)).trans e)).trans ?_
    exact x6j (ds := l) rfl (x0x (x1t (x0x (x64 (i := 5) (q := 1) (ds := x0h (nxr n f V H)) rfl)))) rfl hl rfl)
  have e1 : [] ++ P.map (fun H => x4o (nxr n f V H)) = (nx n f P V).map x4o := by
    unfold nx
    rw [List.map_map]
    rfl
  rw [e1] at e
  refine (x0i ((x31 hi).trans e)).trans ?_
  exact x2r (x1t (x0x (x64 (i := 3) (q := 1) (ds := (nx n f P V).map x4o) rfl)))
end
theorem y8n {i j : Int} (c : (-(2 ^ 64) < i /\ i < 2 ^ 64) \/ (-(2 ^ 64) < j /\ j < 2 ^ 64)) : x9s (.int i) (.int j) = some (.int (i * j)) := by
  unfold x9s gI
  dsimp only
  rw [if_pos c]
theorem y7c {a : Nat} (h : a < 1000) : -(2 ^ 64) < (Int.ofNat a) /\ (Int.ofNat a) < 2 ^ 64 := by
  have e : Int.ofNat a = (a : Int) := rfl
  rw [e]
  constructor <;> omega
theorem y5b {a b : Nat} (h : a < 1000) : x9s (.int (Int.ofNat a)) (.int (Int.ofNat b)) = some (.int (Int.ofNat (a * b))) := by
  rw [y8n (.inl (y7c h))]
  rfl
theorem x6x (V : List (List Nat)) : Sh 2 (x07 V) := .tup fun d hd => by
  obtain ⟨r, _, rfl⟩ := List.mem_map.mp hd
  exact z52 r
theorem z98 : ∀ A B : List (List Nat), PyData.eqvAll (x6a (A.map x4o)) (x6a (B.map x4o)) = decide (A = B)
  | [], [] => rfl
  | [], b :: B => rfl
  | a :: A, [] => rfl
  | a :: A, b :: B => by
    show (PyData.eqv (toP (x4o a)) (toP (x4o b)) && PyData.eqvAll (x6a (A.map x4o)) (x6a (B.map x4o))) = _
    have e1 : PyData.eqv (toP (x4o a)) (toP (x4o b)) = decide (a = b) := z44 a b
    rw [e1, z98 A B]
    by_cases h1 : a = b
    · by_cases h2 : A = B
      · simp [h1, h2]
      · simp [h1, h2]
    · simp [h1]
theorem x74 (A B : List (List Nat)) : dNe (x07 A) (x07 B) = some (.bl (!decide (A = B))) := by
  unfold dNe
  rw [if_pos ⟨(x6x A).ok, (x6x B).ok⟩]
  show some (D.bl (!PyData.eqvAll (x6a (A.map x4o)) (x6a (B.map x4o)))) = _
  rw [z98]
theorem y8d (A B : List (List Nat)) : dEq (x07 A) (x07 B) = some (.bl (decide (A = B))) := by
  unfold dEq
  rw [if_pos ⟨(x6x A).ok, (x6x B).ok⟩]
  show some (D.bl (PyData.eqvAll (x6a (A.map x4o)) (x6a (B.map x4o)))) = _
  rw [z98]
theorem x6z (A : List (List Nat)) : dNe (x07 A) .non = some (.bl true) := by
  unfold dNe
  rw [if_pos ⟨(x6x A).ok, (Sh.non (k := 0)).ok⟩]
  rfl
noncomputable def mS (n : Nat) (f : Nat -> Nat -> Nat) (V : List (List Nat)) : Nat := (V.map (Lad.mu n f)).sum
theorem y1k {n : Nat} {f : Nat -> Nat -> Nat} : ∀ {V : List (List Nat)}, (∀ r ∈ V, Vn n n r) -> mS n f V <= V.length * (n * n)
  | [], _ => Nat.zero_le _
  | r :: V, h => by
    have h1 := Lad.mu_le (f := f) (h r List.mem_cons_self)
    have h2 := y1k (n := n) (f := f) (V := V) fun s hs => h s (List.mem_cons_of_mem _ hs)
    show Lad.mu n f r + mS n f V <= (V.length + 1) * (n * n)
    rw [Nat.add_mul, Nat.one_mul]
    omega
section
variable {n : Nat} {f : Nat -> Nat -> Nat} (L : Lad n f) {z : Nat} (hz : z < n) (bz : ∀ j, j < n -> f z j = j) {h : Nat}
include L
theorem z4d : ∀ {V W : List (List Nat)}, V.length = W.length -> (∀ r ∈ V, Vn n n r) -> (∀ r ∈ W, Vn n n r) -> y5u f n V W -> mS n f W <= mS n f V /\ (V ≠ W -> mS n f W < mS n f V)
  | [], [], _, _, _, _ => ⟨Nat.le_refl _, fun z => absurd rfl z⟩
  | [], _ :: _, e, _, _, _ => nomatch e
  | _ :: _, [], e, _, _, _ => nomatch e
  | r :: V, s :: W, e, hV, hW, le => by
    have hr := hV r List.mem_cons_self
    have hs := hW s List.mem_cons_self
    have i := z4d (V := V) (W := W) (Nat.succ.inj e) (fun t ht => hV t (List.mem_cons_of_mem _ ht)) (fun t ht => hW t (List.mem_cons_of_mem _ ht)) fun j hj => le (j + 1) (Nat.succ_lt_succ hj)
    have l0 : leV f n r s := le 0 (Nat.zero_lt_succ _)
    by_cases hrs : r = s
    · subst hrs
      refine ⟨Nat.add_le_add_left i.1 _, fun ne => Nat.add_lt_add_left (i.2 fun q => ne (by rw [q])) _⟩
    · have := L.mu_lt hr hs l0 hrs
      have k : mS n f (s :: W) < mS n f (r :: V) := Nat.add_lt_add_of_lt_of_le this i.1
      exact ⟨Nat.le_of_lt k, fun _ => k⟩
theorem y8k {V W : List (List Nat)} (o : VOk n f h V) (o' : VOk n f h W) (a : y5u f n V W) (b : y5u f n W V) : V = W := by
  apply List.ext_getElem?
  intro j
  by_cases hj : j < h
  · have h1 : j < V.length := by rw [o.len]; exact hj
    have h2 : j < W.length := by rw [o'.len]; exact hj
    have e := L.leV_anti (o.at hj).V (o'.at hj).V (a j h1) (b j h2)
    rw [List.getD_eq_getElem?_getD, List.getD_eq_getElem?_getD, List.getElem?_eq_getElem h1, List.getElem?_eq_getElem h2] at e
    rw [List.getElem?_eq_getElem h1, List.getElem?_eq_getElem h2]
    exact congrArg some e
  · rw [List.getElem?_eq_none (by rw [o.len]; omega), List.getElem?_eq_none (by rw [o'.len]; omega)]
include hz bz
noncomputable def x4l (n h z : Nat) : List (List Nat) := List.replicate h (x93 n z)
theorem y3x : VOk n f h (x4l n h z) := ⟨List.length_replicate, fun r hr => by
  rw [(List.mem_replicate.mp hr).2]
  refine ⟨y80 hz, fun x y hx hy _ => ?_⟩
  rw [y4a hx, y4a hy]
  exact bz z hz⟩
theorem y1q {V : List (List Nat)} (o : VOk n f h V) : y5u f n (x4l n h z) V := fun j hj => by
  have hj' : j < h := by rw [show (x4l n h z).length = h from List.length_replicate] at hj; exact hj
  have e : (x4l n h z).getD j [] = x93 n z := by
    unfold x4l
    rw [List.getD_eq_getElem?_getD, List.getElem?_replicate]
    simp [hj']
  rw [e]
  exact y6x bz (o.at hj').V
variable {P : List Hs} (hP : ∀ H ∈ P, H.Ok n f h) (hl : P.length = h)
include hl
theorem y0b (hh : h <= 100) : x3l [x0r n f, x2q n P] = some (x07 (x4l n h z), 9) := by
  have hn : n <= 1000 := Nat.le_trans L.hi (by decide)
  unfold x3l x7s
  have e1 : x21 n (fun _ => z) = x4o (x93 n z) := by
    unfold x21 x4o x93
    rw [List.map_const', List.length_range]
  have s1 := y6z (f := f) hn z
  rw [e1] at s1
  have l1 : x14 1 [some (x0r n f, 9), some (x2q n P, 9)] = some (.int (Int.ofNat h), 9, [some (x0r n f, 9), some (x2q n P, 9)]) := x4z rfl (by show some (P.map (x0p n)).length = _; rw [List.length_map, hl])
  have c1 := x0u (F := x4d) (n := 2) (x1e (f := x05 0) (q := 9) (ρ := [some (x0r n f, 9), some (x2q n P, 9)]) (ρ1 := [some (x0r n f, 9), some (x2q n P, 9)]) rfl (x0x (x0u (F := x2n) (n := 1) (g := x01 (x05 0) x0e) (ds := [x0r n f]) rfl rfl (y5i L hz bz hn)))) rfl s1
  have e2 : x4k (x01 (x0g x4d 2 (x01 (x05 0) (x01 (x0g x2n 1 (x01 (x05 0) (x0e))) (x0e)))) (x0e)) [some (x0r n f, 9), some (x2q n P, 9)] = some (.lst [x4o (x93 n z)], 1, [some (x0r n f, 9), some (x2q n P, 9)]) := by
    unfold x4k
    rw [x0x c1]
    exact if_pos (show 1 <= 1000 by decide)
  have e3 : x9a (x4k (x01 (x0g x4d 2 (x01 (x05 0) (x01 (x0g x2n 1 (x01 (x05 0) (x0e))) (x0e)))) (x0e))) (x14 1) [some (x0r n f, 9), some (x2q n P, 9)] = some (.lst ((x4l n h z).map x4o), 1, [some (x0r n f, 9), some (x2q n P, 9)]) := by
    unfold x9a
    rw [e2]
    simp only [l1]
    rw [if_pos ⟨by show (-1000 : Int) <= (h : Int); omega, by show (h : Int) <= 1000; omega, by show 1 * h <= 1000; omega⟩]
    show some (D.lst (List.replicate h [x4o (x93 n z)]).flatten, 1, _) = _
    rw [List.flatten_replicate_singleton]
    unfold x4l
    rw [List.map_replicate]
  exact x2t (x2r (x1t (x0x e3)))
include hP
structure Fix (n : Nat) (f : Nat -> Nat -> Nat) (h : Nat) (P : List Hs) (V : List (List Nat)) : Prop where
  ok : VOk n f h V
  fx : nx n f P V = V
  le : ∀ W, VOk n f h W -> nx n f P W = W -> y5u f n V W
noncomputable abbrev Q6 (n : Nat) (f : Nat -> Nat -> Nat) (P : List Hs) (d : Nat) (V : List (List Nat)) (a : D) (i : Int) : Rho := [some (x0r n f, 9), some (x2q n P, 9), some (.int (Int.ofNat d), 9), some (x07 V, 9), some (a, 9), some (.int i, 9)]
theorem z9t (hh : h <= 3) (hn5 : n <= 5) {d : Nat} (hd : h * (n * n) <= d) : ∃ V, Fix n f h P V /\ x34 [x0r n f, x2q n P, .int (Int.ofNat d)] = some (x07 V, 9) := by
  have o0 : VOk n f h (x4l n h z) := y3x L hz bz
  have hb : mS n f (x4l n h z) <= h * (n * n) := by
    have := y1k (n := n) (f := f) (V := x4l n h z) fun r hr => (o0.row r hr).V
    rw [o0.len] at this
    exact this
  have h75 : h * (n * n) <= 75 := by
    have h1 : n * n <= 5 * 5 := Nat.mul_le_mul hn5 hn5
    have h2 : h * (n * n) <= 3 * (5 * 5) := Nat.mul_le_mul hh h1
    omega
  obtain ⟨ρ', e, V, a, i, hV, rfl⟩ := x60 (c := y2v (x37 (e2 dGe (x05 5) (eC (.int 0)))) (x37 (e2 dNe (x05 3) (x05 4)))) (b := x44)
    (Q := fun ρ => ∃ (V : List (List Nat)) (a : D) (i : Int), Fix n f h P V /\ ρ = Q6 n f P d V a i)
    (fun k ρ => ∃ (V : List (List Nat)) (a : D) (i : Nat), VOk n f h V /\ y5u f n V (nx n f P V) /\ (∀ W, VOk n f h W -> nx n f P W = W -> y5u f n V W) /\
      ((a = .non /\ i = 0 /\ V = x4l n h z /\ k = mS n f V + 2) \/ ∃ U, a = x07 U /\ VOk n f h U /\ V = nx n f P U /\ mS n f V + i <= mS n f (x4l n h z) + (if U = V then 1 else 0) /\ k = mS n f V + (if U = V then 0 else 1)) /\ ρ = Q6 n f P d V a ((d : Int) - (i : Int)))
    (k := mS n f (x4l n h z) + 2) (ρ := Q6 n f P d (x4l n h z) .non (Int.ofNat d)) (by omega)
    ⟨x4l n h z, .non, 0, o0, y1q L hz bz (y7t L hz bz hP hl o0), fun W oW _ => y1q L hz bz oW, .inl ⟨rfl, rfl, rfl, rfl⟩, by show _ = Q6 n f P d (x4l n h z) .non ((d : Int) - ((0 : Nat) : Int)); rw [show (d : Int) - ((0 : Nat) : Int) = (d : Int) from Int.sub_zero _]; rfl⟩ (fun k ρ hh0 => by
      obtain ⟨V, a, i, oV, up, lo, h6, rfl⟩ := hh0
      have oN := y7t L hz bz hP hl oV
      have de := y7m L hz bz oV hP (by omega)
      have lt := z4d L (by rw [oV.len, oN.len]) (fun r hr => (oV.row r hr).V) (fun r hr => (oN.row r hr).V) up
      have go : ∀ (hi : i <= d) (hne : dNe (x07 V) a = some (.bl true)) (k' : Nat), k' < k -> k' = mS n f (nx n f P V) + (if V = nx n f P V then 0 else 1) -> mS n f (nx n f P V) + (i + 1) <= mS n f (x4l n h z) + (if V = nx n f P V then 1 else 0) ->
          ∃ ρ1 ρ2 k', y2v (x37 (e2 dGe (x05 5) (eC (.int 0)))) (x37 (e2 dNe (x05 3) (x05 4))) (Q6 n f P d V a ((d : Int) - (i : Int))) = some (true, ρ1) /\ x44 ρ1 = some (.nx ρ2) /\ k' < k /\ ∃ (V : List (List Nat)) (a : D) (i : Nat), VOk n f h V /\ y5u f n V (nx n f P V) /\ (∀ W, VOk n f h W -> nx n f P W = W -> y5u f n V W) /\
      ((a = .non /\ i = 0 /\ V = x4l n h z /\ k' = mS n f V + 2) \/ ∃ U, a = x07 U /\ VOk n f h U /\ V = nx n f P U /\ mS n f V + i <= mS n f (x4l n h z) + (if U = V then 1 else 0) /\ k' = mS n f V + (if U = V then 0 else 1)) /\ ρ2 = Q6 n f P d V a ((d : Int) - (i : Int)) := fun hi hne k' hk hk' hm => by
        refine ⟨Q6 n f P d V a ((d : Int) - (i : Int)), Q6 n f P d (nx n f P V) (x07 V) ((d : Int) - ((i + 1 : Nat) : Int)), k', ?_, ?_, hk, nx n f P V, x07 V, i + 1, oN, y27 L hz bz hP hl oV oN up, fun W oW fW => ?_, .inr ⟨V, rfl, oV, rfl, hm, hk'⟩, rfl⟩
        · have g1 : x37 (e2 dGe (x05 5) (eC (.int 0))) (Q6 n f P d V a ((d : Int) - (i : Int))) = some (true, Q6 n f P d V a ((d : Int) - (i : Int))) := by
            refine x46 (x3w (fa := x05 5) (fb := eC (.int 0)) (q := 9) (q' := 9) rfl rfl ?_)
            show some (D.bl (decide ((0 : Int) <= (d : Int) - (i : Int)))) = _
            rw [decide_eq_true (by omega)]
          have g2 : x37 (e2 dNe (x05 3) (x05 4)) (Q6 n f P d V a ((d : Int) - (i : Int))) = some (true, Q6 n f P d V a ((d : Int) - (i : Int))) := by
            rcases h6 with ⟨rfl, _⟩ | ⟨U, rfl, _⟩
            · exact x46 (x3w (fa := x05 3) (fb := x05 4) (q := 9) (q' := 9) rfl rfl hne)
            · exact x46 (x3w (fa := x05 3) (fb := x05 4) (q := 9) (q' := 9) rfl rfl hne)
          unfold y2v
          rw [g1]
          exact g2
        · unfold x44
          refine (x0i (ρ1 := Q6 n f P d V (x07 V) ((d : Int) - (i : Int))) (x1s (d := x07 V) (q := 9) rfl rfl)).trans ?_
          refine (x0i (ρ1 := Q6 n f P d (nx n f P V) (x07 V) ((d : Int) - (i : Int))) (x1s (x0u (ds := [x0r n f, x2q n P, x07 V]) rfl rfl de) rfl)).trans ?_
          have e1 : (d : Int) - (i : Int) - 1 = (d : Int) - ((i + 1 : Nat) : Int) := by omega
          refine x1s (d := .int ((d : Int) - ((i + 1 : Nat) : Int))) (q := 9) (ρ1 := Q6 n f P d (nx n f P V) (x07 V) ((d : Int) - (i : Int))) (x3w (fa := x05 5) (fb := eC (.int 1)) (q := 9) (q' := 9) rfl rfl ?_) rfl
          show some (D.int ((d : Int) - (i : Int) - 1)) = _
          rw [e1]
        · have := y27 L hz bz hP hl oV oW (lo W oW fW)
          rw [fW] at this
          exact this
      rcases h6 with ⟨rfl, rfl, rfl, hk⟩ | ⟨U, rfl, oU, hU, hm, hk⟩
      · refine .inr ?_
        by_cases he : x4l n h z = nx n f P (x4l n h z)
        · exact go (Nat.zero_le _) (x6z _) (mS n f (nx n f P (x4l n h z)) + 0) (by rw [<- he]; omega) (by rw [if_pos he]) (by rw [if_pos he, <- he]; omega)
        · have := lt.2 he
          exact go (Nat.zero_le _) (x6z _) (mS n f (nx n f P (x4l n h z)) + 1) (by omega) (by rw [if_neg he]) (by rw [if_neg he]; omega)
      · by_cases hUV : U = V
        · subst hUV
          refine .inl ⟨Q6 n f P d U (x07 U) ((d : Int) - (i : Int)), ?_, U, x07 U, _, ⟨oV, hU.symm, lo⟩, rfl⟩
          have g1 : x37 (e2 dGe (x05 5) (eC (.int 0))) (Q6 n f P d U (x07 U) ((d : Int) - (i : Int))) = some (decide ((0 : Int) <= (d : Int) - (i : Int)), Q6 n f P d U (x07 U) ((d : Int) - (i : Int))) := x46 (x3w (fa := x05 5) (fb := eC (.int 0)) (q := 9) (q' := 9) rfl rfl rfl)
          have ne := x74 U U
          rw [decide_eq_true rfl] at ne
          have g2 : x37 (e2 dNe (x05 3) (x05 4)) (Q6 n f P d U (x07 U) ((d : Int) - (i : Int))) = some (false, Q6 n f P d U (x07 U) ((d : Int) - (i : Int))) := x46 (x3w (fa := x05 3) (fb := x05 4) (q := 9) (q' := 9) rfl rfl ne)
          unfold y2v
          rw [g1]
          cases decide ((0 : Int) <= (d : Int) - (i : Int)) with
          | true => exact g2
          | false => rfl
        · rw [if_neg hUV] at hm hk
          have hi : i <= d := by omega
          have hne : dNe (x07 V) (x07 U) = some (.bl true) := by rw [x74, decide_eq_false fun q => hUV q.symm]; rfl
          refine .inr ?_
          by_cases he : V = nx n f P V
          · exact go hi hne (mS n f (nx n f P V) + 0) (by rw [<- he]; omega) (by rw [if_pos he]) (by rw [if_pos he, <- he]; omega)
          · have := lt.2 he
            exact go hi hne (mS n f (nx n f P V) + 1) (by omega) (by rw [if_neg he]) (by rw [if_neg he]; omega))
  refine ⟨V, hV, ?_⟩
  unfold x34 x69
  refine x2t ?_
  show x13 _ _ [some (x0r n f, 9), some (x2q n P, 9), some (.int (Int.ofNat d), 9), none, none, none] = _
  refine (x0i (ρ1 := [some (x0r n f, 9), some (x2q n P, 9), some (.int (Int.ofNat d), 9), some (x07 (x4l n h z), 9), none, none]) (x1s (x0u (ds := [x0r n f, x2q n P]) rfl rfl (y0b L hz bz hl (by omega))) rfl)).trans ?_
  refine (x0i (ρ1 := [some (x0r n f, 9), some (x2q n P, 9), some (.int (Int.ofNat d), 9), some (x07 (x4l n h z), 9), some (.non, 9), none]) rfl).trans ?_
  refine (x0i (ρ1 := Q6 n f P d (x4l n h z) .non (Int.ofNat d)) rfl).trans ?_
  exact (x0i e).trans (x2r (ρ1 := Q6 n f P d V a i) rfl)
theorem y36 (hh : h <= 3) (hn5 : n <= 5) : ∃ V, Fix n f h P V /\ x4b [x0r n f, x2q n P] = some (x07 V, 9) := by
  obtain ⟨V, hV, e⟩ := z9t L hz bz hP hl hh hn5 (d := h * (n * n)) (Nat.le_refl _)
  refine ⟨V, hV, ?_⟩
  unfold x4b x9u
  have l1 : x14 1 [some (x0r n f, 9), some (x2q n P, 9)] = some (.int (Int.ofNat h), 9, [some (x0r n f, 9), some (x2q n P, 9)]) := x4z rfl (by show some (P.map (x0p n)).length = _; rw [List.length_map, hl])
  have l0 : x14 0 [some (x0r n f, 9), some (x2q n P, 9)] = some (.int (Int.ofNat n), 9, [some (x0r n f, 9), some (x2q n P, 9)]) := x4z rfl x1r
  have hm1 := y5b (a := h) (b := n) (by omega)
  have h15 : h * n <= 3 * 5 := Nat.mul_le_mul hh hn5
  have hm2 := y5b (a := h * n) (b := n) (by omega)
  rw [Nat.mul_assoc] at hm2
  exact x2t (x2r (x0u (x1e (f := x05 0) (q := 9) rfl (x1e (f := x05 1) (q := 9) rfl (x0x (x3w (x3w l1 l0 hm1) l0 hm2)))) rfl e))
end
theorem z1w {c : Nat} {j : Nat} (h : c < 1000) : x9s (.int (Int.ofNat c)) (.int (Int.ofNat j)) = some (.int (Int.ofNat c * Int.ofNat j)) := y8n (.inl (y7c h))
noncomputable abbrev P11 (ns : List Int) (t : Int) (n : Nat) (f : Nat -> Nat -> Nat) (h : Nat) (l : List D) (a b c d e g : Option (D × Nat)) : Rho := [some (scr ns, 0), some (.int t, 9), some (x0r n f, 9), some (.int (Int.ofNat h), 9), some (.lst l, 1), a, b, c, d, e, g]
section
variable {n : Nat} {f : Nat -> Nat -> Nat} (L : Lad n f) {z : Nat} (hz : z < n) (bz : ∀ j, j < n -> f z j = j)
include L hz bz
theorem y5z (ns : List Int) (t : Int) (h0 : 0 <= t) {h : Nat} (hh : 0 < h) (l : List D) (j : Nat) {p : Nat} (hp : 0 < p) (m : Nat) (hm : m <= 5) (a b c : Option (D × Nat)) :
    ∃ (W : List (Nat × Nat × Led)) (a' b' c' : Option (D × Nat)), W.length = m /\ (∀ w ∈ W, w.1 < p /\ w.2.1 < p /\ okL n f h w.2.2) /\
      x8z (x0m 8) x40 (x1d m) (P11 ns t n f h l (some (.int (Int.ofNat j), 9)) (some (.int (Int.ofNat p), 9)) (some (.lst [], 1)) a b c) = some (.nx (P11 ns t n f h l (some (.int (Int.ofNat j), 9)) (some (.int (Int.ofNat p), 9)) (some (.lst (W.map (x7c n)), 1)) a' b' c')) := by
  obtain ⟨W, j', hl, hg, e⟩ := x99 (J := Option (D × Nat) × Option (D × Nat) × Option (D × Nat)) (pt := x0m 8) (body := x40) (fun k : Nat => D.int (Int.ofNat k)) (fun ds x => P11 ns t n f h l (some (.int (Int.ofNat j), 9)) (some (.int (Int.ofNat p), 9)) (some (.lst ds, 1)) x.1 x.2.1 x.2.2) (x7c n) (fun w => w.1 < p /\ w.2.1 < p /\ okL n f h w.2.2) (List.range m) [] (a, b, c) (by rw [List.length_range]; show 0 + m <= 1000; omega) (fun k hk ds x hds => by
    have i1 : Int.ofNat j = (j : Int) := rfl
    have i2 : Int.ofNat k = (k : Int) := rfl
    obtain ⟨y, hy⟩ : ∃ y : Int, y = t + 10 + 120 * Int.ofNat j + 23 * Int.ofNat k := ⟨_, rfl⟩
    have hy0 : 0 <= y := by omega
    obtain ⟨d, hd, hR⟩ := y4f L hz bz ns (y + 4) (by omega)
    obtain ⟨s, hs, es⟩ := x6q ns hy0 hp
    obtain ⟨g, hg, eg⟩ := x6q ns (c := y + 1) (by omega) hp
    obtain ⟨v, hv, ev⟩ := x6q ns (c := y + 2) (by omega) (n := 3) (by decide)
    obtain ⟨o, ho, eo⟩ := x6q ns (c := y + 3) (by omega) hh
    have okr : okL n f h (.inr (Lad.lr n f z d)) := ⟨fun i _ => L.lr_lt hz bz hd i, fun x y hx hy e => L.lr_rises hz bz hd hx hy e⟩
    generalize Lad.lr n f z d = r at hR okr
    have fin : ∀ x : Led, x3f (x7v 7 (x01 (x4n (x01 (x0g x0b 3 (x01 (x05 0) (x01 (x05 9) (x01 (x05 6) (x0e))))) (x01 (x0g x0b 3 (x01 (x05 0) (x01 (e2 x2w (x05 9) (eC (.int 1))) (x01 (x05 6) (x0e))))) (x01 (x05 10) (x0e))))) (x0e))) (P11 ns t n f h l (some (.int (Int.ofNat j), 9)) (some (.int (Int.ofNat p), 9)) (some (.lst ds, 1)) (some (.int (Int.ofNat k), 9)) (some (.int y, 9)) (some (x8t n x, 9))) = some (.nx (P11 ns t n f h l (some (.int (Int.ofNat j), 9)) (some (.int (Int.ofNat p), 9)) (some (.lst (ds ++ [x7c n (s, g, x)]), 1)) (some (.int (Int.ofNat k), 9)) (some (.int y, 9)) (some (x8t n x, 9)))) := fun x => by
      have v10 : x05 10 (P11 ns t n f h l (some (.int (Int.ofNat j), 9)) (some (.int (Int.ofNat p), 9)) (some (.lst ds, 1)) (some (.int (Int.ofNat k), 9)) (some (.int y, 9)) (some (x8t n x, 9))) = some (x8t n x, 9, P11 ns t n f h l (some (.int (Int.ofNat j), 9)) (some (.int (Int.ofNat p), 9)) (some (.lst ds, 1)) (some (.int (Int.ofNat k), 9)) (some (.int y, 9)) (some (x8t n x, 9))) := y5c rfl y26
      exact x6j (ds := ds) rfl (x0x (x5r (x1e (x0u (ds := [scr ns, .int y, .int (Int.ofNat p)]) rfl rfl es) (x1e (x0u (ds := [scr ns, .int (y + 1), .int (Int.ofNat p)]) rfl rfl eg) (x0x v10))) (show 3 <= 1000 by decide))) rfl hds rfl
    have st1 : x1p 9 (e2 x2w (e2 x2w (e2 x2w (x05 1) (eC (.int 10))) (e2 x9s (eC (.int 120)) (x05 5))) (e2 x9s (eC (.int 23)) (x05 8))) (P11 ns t n f h l (some (.int (Int.ofNat j), 9)) (some (.int (Int.ofNat p), 9)) (some (.lst ds, 1)) (some (.int (Int.ofNat k), 9)) x.2.1 x.2.2) = some (.nx (P11 ns t n f h l (some (.int (Int.ofNat j), 9)) (some (.int (Int.ofNat p), 9)) (some (.lst ds, 1)) (some (.int (Int.ofNat k), 9)) (some (.int y, 9)) x.2.2)) := by
      refine x1s (d := .int y) (q := 9) (ρ1 := P11 ns t n f h l (some (.int (Int.ofNat j), 9)) (some (.int (Int.ofNat p), 9)) (some (.lst ds, 1)) (some (.int (Int.ofNat k), 9)) x.2.1 x.2.2) ?_ rfl
      rw [hy]
      exact x3w (x3w (x3w (fa := x05 1) (fb := eC (.int 10)) (q := 9) (q' := 9) rfl rfl rfl) (x3w (fa := eC (.int 120)) (fb := x05 5) (q := 9) (q' := 9) rfl rfl (z1w (c := 120) (by decide))) rfl) (x3w (fa := eC (.int 23)) (fb := x05 8) (q := 9) (q' := 9) rfl rfl (z1w (c := 23) (by decide))) rfl
    have st2 : x1p 10 (x0g x2u 3 (x01 (x05 0) (x01 (e2 x2w (x05 9) (eC (.int 4))) (x01 (x05 2) (x0e))))) (P11 ns t n f h l (some (.int (Int.ofNat j), 9)) (some (.int (Int.ofNat p), 9)) (some (.lst ds, 1)) (some (.int (Int.ofNat k), 9)) (some (.int y, 9)) x.2.2) = some (.nx (P11 ns t n f h l (some (.int (Int.ofNat j), 9)) (some (.int (Int.ofNat p), 9)) (some (.lst ds, 1)) (some (.int (Int.ofNat k), 9)) (some (.int y, 9)) (some (x8t n (.inr r), 9)))) :=
      x1s (x0u (ds := [scr ns, .int (y + 4), x0r n f]) rfl rfl hR) rfl
    have te : x37 (e2 dEq (x0g x0b 3 (x01 (x05 0) (x01 (e2 x2w (x05 9) (eC (.int 2))) (x01 (eC (.int 3)) (x0e))))) (eC (.int 0))) (P11 ns t n f h l (some (.int (Int.ofNat j), 9)) (some (.int (Int.ofNat p), 9)) (some (.lst ds, 1)) (some (.int (Int.ofNat k), 9)) (some (.int y, 9)) (some (x8t n (.inr r), 9))) = some (decide (v = 0), P11 ns t n f h l (some (.int (Int.ofNat j), 9)) (some (.int (Int.ofNat p), 9)) (some (.lst ds, 1)) (some (.int (Int.ofNat k), 9)) (some (.int y, 9)) (some (x8t n (.inr r), 9))) :=
      x46 (x3w (x0u (ds := [scr ns, .int (y + 2), .int 3]) rfl rfl ev) (rfl : eC (.int 0) _ = some (.int (Int.ofNat 0), 9, _)) (y3n v 0))
    refine ⟨P11 ns t n f h l (some (.int (Int.ofNat j), 9)) (some (.int (Int.ofNat p), 9)) (some (.lst ds, 1)) (some (.int (Int.ofNat k), 9)) x.2.1 x.2.2, (some (.int (Int.ofNat k), 9), some (.int y, 9), some (x8t n (if v = 0 then .inl o else .inr r), 9)), (s, g, if v = 0 then .inl o else .inr r), ⟨hs, hg, ?_⟩, rfl, ?_⟩
    · show okL n f h (if v = 0 then .inl o else .inr r)
      by_cases h0 : v = 0
      · rw [if_pos h0]; exact ho
      · rw [if_neg h0]; exact okr
    · unfold x40
      refine (x0i st1).trans ((x0i st2).trans ?_)
      by_cases h0 : v = 0
      · rw [decide_eq_true h0] at te
        rw [if_pos h0]
        exact (x0i (ρ1 := P11 ns t n f h l (some (.int (Int.ofNat j), 9)) (some (.int (Int.ofNat p), 9)) (some (.lst ds, 1)) (some (.int (Int.ofNat k), 9)) (some (.int y, 9)) (some (x8t n (.inl o), 9))) ((z5d te).trans (x1s (x0u (ds := [scr ns, .int (y + 3), .int (Int.ofNat h)]) rfl rfl eo) rfl))).trans (fin (.inl o))
      · rw [decide_eq_false h0] at te
        rw [if_neg h0]
        exact (x0i ((y78 te).trans rfl)).trans (fin (.inr r)))
  rw [List.length_range] at hl
  exact ⟨W, j'.1, j'.2.1, j'.2.2, hl, hg, e⟩
theorem y5y (ns : List Int) (t : Int) (h0 : 0 <= t) : ∃ P : List Hs, P.length <= 3 /\ (∀ H ∈ P, H.Ok n f P.length) /\ x35 [scr ns, .int t, x0r n f] = some (x2q n P, 9) := by
  obtain ⟨h', hh', eh⟩ := x6q ns h0 (n := 3) (by decide)
  obtain ⟨h, hh⟩ : ∃ h : Nat, h = h' + 1 := ⟨_, rfl⟩
  have eh' : (1 : Int) + Int.ofNat h' = Int.ofNat h := by show (1 : Int) + (h' : Int) = (h : Int); omega
  obtain ⟨P, x, hl, hg, e⟩ := x99 (J := Option (D × Nat) × Option (D × Nat) × Option (D × Nat) × Option (D × Nat) × Option (D × Nat) × Option (D × Nat)) (pt := x0m 5) (body := x5l) (fun k : Nat => D.int (Int.ofNat k)) (fun ds x => P11 ns t n f h ds x.1 x.2.1 x.2.2.1 x.2.2.2.1 x.2.2.2.2.1 x.2.2.2.2.2) (x0p n) (fun H => H.Ok n f h) (List.range h) [] (none, none, none, none, none, none) (by rw [List.length_range]; show 0 + h <= 1000; omega) (fun j hj ds x hds => by
    have i1 : Int.ofNat j = (j : Int) := rfl
    obtain ⟨p', hp', ep⟩ := x6q ns (c := t + 1 + Int.ofNat j) (by omega) (n := 4) (by decide)
    obtain ⟨m, hm, em⟩ := x6q ns (c := t + 4 + Int.ofNat j) (by omega) (n := 6) (by decide)
    obtain ⟨p, hp⟩ : ∃ p : Nat, p = p' + 1 := ⟨_, rfl⟩
    have ep' : (1 : Int) + Int.ofNat p' = Int.ofNat p := by show (1 : Int) + (p' : Int) = (p : Int); omega
    obtain ⟨W, a', b', c', lW, gW, eW⟩ := y5z L hz bz ns t h0 (h := h) (by omega) ds j (p := p) (by omega) m (by omega) x.2.2.2.1 x.2.2.2.2.1 x.2.2.2.2.2
    refine ⟨P11 ns t n f h ds (some (.int (Int.ofNat j), 9)) x.2.1 x.2.2.1 x.2.2.2.1 x.2.2.2.2.1 x.2.2.2.2.2, (some (.int (Int.ofNat j), 9), some (.int (Int.ofNat p), 9), some (.lst (W.map (x7c n)), 0), a', b', c'), ⟨p, W⟩, ⟨by show 1 <= p; omega, by show p <= 8; omega, by show W.length <= 60; omega, gW⟩, rfl, ?_⟩
    unfold x5l
    refine (x0i (ρ1 := P11 ns t n f h ds (some (.int (Int.ofNat j), 9)) (some (.int (Int.ofNat p), 9)) x.2.2.1 x.2.2.2.1 x.2.2.2.2.1 x.2.2.2.2.2) (x1s (d := .int (Int.ofNat p)) (q := 9) (ρ1 := P11 ns t n f h ds (some (.int (Int.ofNat j), 9)) x.2.1 x.2.2.1 x.2.2.2.1 x.2.2.2.2.1 x.2.2.2.2.2) (x3w (fa := eC (.int 1)) (q := 9) rfl (x0u (ds := [scr ns, .int (t + 1 + Int.ofNat j), .int 4]) rfl rfl ep) ?_) rfl)).trans ?_
    · show some (D.int (1 + Int.ofNat p')) = _
      rw [ep']
    refine (x0i (ρ1 := P11 ns t n f h ds (some (.int (Int.ofNat j), 9)) (some (.int (Int.ofNat p), 9)) (some (.lst [], 1)) x.2.2.2.1 x.2.2.2.2.1 x.2.2.2.2.2) rfl).trans ?_
    refine (x0i ((x31 (x94 (m := m) (by omega) (ρ := P11 ns t n f h ds (some (.int (Int.ofNat j), 9)) (some (.int (Int.ofNat p), 9)) (some (.lst [], 1)) x.2.2.2.1 x.2.2.2.2.1 x.2.2.2.2.2) (ρ' := P11 ns t n f h ds (some (.int (Int.ofNat j), 9)) (some (.int (Int.ofNat p), 9)) (some (.lst [], 1)) x.2.2.2.1 x.2.2.2.2.1 x.2.2.2.2.2) (q := 9) (x0u (ds := [scr ns, .int (t + 4 + Int.ofNat j), .int 6]) rfl rfl em))).trans eW)).trans ?_
    have v7 : x05 7 (P11 ns t n f h ds (some (.int (Int.ofNat j), 9)) (some (.int (Int.ofNat p), 9)) (some (.lst (W.map (x7c n)), 1)) a' b' c') = some (.lst (W.map (x7c n)), 0, P11 ns t n f h ds (some (.int (Int.ofNat j), 9)) (some (.int (Int.ofNat p), 9)) (some (.lst (W.map (x7c n)), 0)) a' b' c') := x64 rfl
    exact x6j (ds := ds) rfl (x0x (x5r (x1e (f := x05 6) (q := 9) rfl (x0x (x1t (x0x v7)))) (show 2 <= 1000 by decide))) rfl hds rfl)
  rw [List.length_range] at hl
  refine ⟨P, by omega, fun H hH => by rw [hl]; exact hg H hH, ?_⟩
  unfold x35 x6f
  refine x2t ?_
  show x13 _ _ [some (scr ns, 0), some (.int t, 9), some (x0r n f, 9), none, none, none, none, none, none, none, none] = _
  refine (x0i (ρ1 := [some (scr ns, 0), some (.int t, 9), some (x0r n f, 9), some (.int (Int.ofNat h), 9), none, none, none, none, none, none, none]) (x1s (d := .int (Int.ofNat h)) (q := 9) (ρ1 := [some (scr ns, 0), some (.int t, 9), some (x0r n f, 9), none, none, none, none, none, none, none, none]) (x3w (fa := eC (.int 1)) (q := 9) rfl (x0u (ds := [scr ns, .int t, .int 3]) rfl rfl eh) ?_) rfl)).trans ?_
  · show some (D.int (1 + Int.ofNat h')) = _
    rw [eh']
  refine (x0i (ρ1 := P11 ns t n f h [] none none none none none none) rfl).trans ?_
  refine (x0i ((x31 (x94 (m := h) (by omega) (fe := x05 3) (ρ := P11 ns t n f h [] none none none none none none) (ρ' := P11 ns t n f h [] none none none none none none) (q := 9) rfl)).trans e)).trans ?_
  exact x2r (x1t (x0x (x64 (i := 4) (q := 1) (ds := P.map (x0p n)) rfl)))
noncomputable abbrev W6 (ns : List Int) (n : Nat) (f : Nat -> Nat -> Nat) (P : List Hs) (a b c : Option (D × Nat)) : Rho := [some (scr ns, 0), some (x0r n f, 9), some (x2q n P, 9), a, b, c]
theorem y9i (ns : List Int) {P : List Hs} (hP : ∀ H ∈ P, H.Ok n f P.length) (h3 : P.length <= 3) (h5 : n <= 5) (T : D) : ∃ V, Fix n f P.length P V /\ x8i (x37 (e2 dNe (x05 5) (x05 4))) y7y (W6 ns n f P (some (T, 9)) (some (x07 (x4l n P.length z), 9)) (some (x07 (nx n f P (x4l n P.length z)), 9))) = some (.nx (W6 ns n f P (some (T, 9)) (some (x07 V, 9)) (some (x07 V, 9)))) := by
  have hn : n <= 1000 := Nat.le_trans L.hi (by decide)
  have o0 : VOk n f P.length (x4l n P.length z) := y3x L hz bz
  have hb : mS n f (x4l n P.length z) <= P.length * (n * n) := by
    have := y1k (n := n) (f := f) (V := x4l n P.length z) fun r hr => (o0.row r hr).V
    rw [o0.len] at this
    exact this
  have h75 : P.length * (n * n) <= 75 := by
    have h1 : n * n <= 5 * 5 := Nat.mul_le_mul h5 h5
    have h2 : P.length * (n * n) <= 3 * (5 * 5) := Nat.mul_le_mul h3 h1
    omega
  obtain ⟨ρ', e, V, hV, rfl⟩ := x60 (c := x37 (e2 dNe (x05 5) (x05 4))) (b := y7y)
    (Q := fun ρ => ∃ V, Fix n f P.length P V /\ ρ = W6 ns n f P (some (T, 9)) (some (x07 V, 9)) (some (x07 V, 9)))
    (fun k ρ => ∃ V, VOk n f P.length V /\ y5u f n V (nx n f P V) /\ (∀ W, VOk n f P.length W -> nx n f P W = W -> y5u f n V W) /\ k = mS n f V /\ ρ = W6 ns n f P (some (T, 9)) (some (x07 V, 9)) (some (x07 (nx n f P V), 9)))
    (k := mS n f (x4l n P.length z)) (ρ := W6 ns n f P (some (T, 9)) (some (x07 (x4l n P.length z), 9)) (some (x07 (nx n f P (x4l n P.length z)), 9))) (by omega)
    ⟨x4l n P.length z, o0, y1q L hz bz (y7t L hz bz hP rfl o0), fun W oW _ => y1q L hz bz oW, rfl, rfl⟩ (fun k ρ hh0 => by
      obtain ⟨V, oV, up, lo, hk, rfl⟩ := hh0
      have oN := y7t L hz bz hP rfl oV
      have lt := z4d L (by rw [oV.len, oN.len]) (fun r hr => (oV.row r hr).V) (fun r hr => (oN.row r hr).V) up
      have te : x37 (e2 dNe (x05 5) (x05 4)) (W6 ns n f P (some (T, 9)) (some (x07 V, 9)) (some (x07 (nx n f P V), 9))) = some (!decide (nx n f P V = V), W6 ns n f P (some (T, 9)) (some (x07 V, 9)) (some (x07 (nx n f P V), 9))) := x46 (x3w (fa := x05 5) (fb := x05 4) (q := 9) (q' := 9) rfl rfl (x74 _ _))
      by_cases he : nx n f P V = V
      · rw [decide_eq_true he] at te
        refine .inl ⟨_, te, V, ⟨oV, he, lo⟩, ?_⟩
        rw [he]
      · rw [decide_eq_false he] at te
        refine .inr ⟨_, W6 ns n f P (some (T, 9)) (some (x07 (nx n f P V), 9)) (some (x07 (nx n f P (nx n f P V)), 9)), mS n f (nx n f P V), te, ?_, by rw [hk]; exact lt.2 fun q => he q.symm, nx n f P V, oN, y27 L hz bz hP rfl oV oN up, fun W oW fW => ?_, rfl, rfl⟩
        · unfold y7y
          refine (x0i (ρ1 := W6 ns n f P (some (T, 9)) (some (x07 V, 9)) (some (x07 (nx n f P V), 9))) ?_).trans ?_
          · have hcm := x1x (k := 1) (te := x05 6) (tt := x4t (x7w (x0g x2x 3 (x01 (x05 1) (x01 (x1k 4 (x05 6)) (x01 (x1k 5 (x05 6)) (x0e))))))) (deep := false) (x3m (n := P.length) (by omega) (i := 2) (ρ := W6 ns n f P (some (T, 9)) (some (x07 V, 9)) (some (x07 (nx n f P V), 9))) rfl (by show some (P.map (x0p n)).length = _; rw [List.length_map])) (y42 (i := 6) rfl (fun _ => false) (fun j => .int (Int.ofNat j)) (fun _ => 9) (fun j hj => by
              have r1 := oV.at hj
              have r2 := oN.at hj
              have nm := y20 (f := f) hn (r := gv (V.getD j [])) (s := gv ((nx n f P V).getD j [])) (fun i hi => r1.V.gv hi) (fun i hi => r2.V.gv hi)
              rw [show ((List.range n).all fun i => decide (f (gv (V.getD j []) i) (gv ((nx n f P V).getD j []) i) = gv ((nx n f P V).getD j []) i)) = true from L3.range_all.mpr fun i hi => decide_eq_true (up j (by rw [oV.len]; exact hj) i hi)] at nm
              have k4 := y3l (i := 4) (b := x05 6) (q' := 9) (ρ := W6 ns n f P (some (T, 9)) (some (x07 V, 9)) (some (x07 (nx n f P V), 9)) ++ [some (.int (Int.ofNat j), 9)]) rfl rfl (oV.get hj) rfl
              have k5 := y3l (i := 5) (b := x05 6) (q' := 9) (ρ := W6 ns n f P (some (T, 9)) (some (x07 V, 9)) (some (x07 (nx n f P V), 9)) ++ [some (.int (Int.ofNat j), 9)]) rfl rfl (oN.get hj) rfl
              exact y7n (y46 (x0u (x1e (f := x05 1) (q := 9) rfl (x1e k4 (x0x k5))) rfl nm))) (fun j hj _ => rfl))
            have hnil : (List.range P.length).filter (fun _ => false) = [] := by simp
            rw [hnil] at hcm
            exact (y78 (x46 (x3w hcm (rfl : x4k x0e _ = some (.lst [], 1, _)) (z9p [] [])))).trans rfl
          refine (x0i (ρ1 := W6 ns n f P (some (T, 9)) (some (x07 (nx n f P V), 9)) (some (x07 (nx n f P V), 9))) (x1s (d := x07 (nx n f P V)) (q := 9) rfl rfl)).trans ?_
          exact x1s (x0u (ds := [x0r n f, x2q n P, x07 (nx n f P V)]) rfl rfl (x6s L hz bz oN hP (by omega))) rfl
        · have := y27 L hz bz hP rfl oV oW (lo W oW fW)
          rw [fW] at this
          exact this)
  exact ⟨V, hV, e⟩
end
theorem law_true (ns : List Int) (h63 : ns.length <= 63) : ∃ q, y5s [.lst (ns.map D.int)] = some (.bl true, q) := by
  obtain ⟨n, f, L, hL⟩ := z5p ns 0 (Int.le_refl 0)
  obtain ⟨z, hz, bz⟩ := L.bot
  have hn : n <= 1000 := Nat.le_trans L.hi (by decide)
  refine ⟨9, ?_⟩
  unfold y5s z80
  refine x2t ?_
  show x13 _ _ [some (scr ns, 0), none, none, none, none, none] = _
  refine (x0i (ρ1 := [some (scr ns, 0), some (x0r n f, 9), none, none, none, none]) (x1s (x0u (ds := [scr ns, .int 0]) rfl rfl hL) rfl)).trans ?_
  have te : x37 (e2 dGt (x14 1) (eC (.int 5))) [some (scr ns, 0), some (x0r n f, 9), none, none, none, none] = some (decide ((5 : Int) < Int.ofNat n), [some (scr ns, 0), some (x0r n f, 9), none, none, none, none]) := x46 (x3w (x4z rfl x1r) (rfl : eC (.int 5) _ = some (.int 5, 9, _)) rfl)
  by_cases h5 : (5 : Int) < Int.ofNat n
  · rw [decide_eq_true h5] at te
    exact y70 ((z5d te).trans rfl)
  rw [decide_eq_false h5] at te
  have hn5 : n <= 5 := by have : ¬ (5 : Int) < (n : Int) := h5; omega
  refine (x0i ((y78 te).trans rfl)).trans ?_
  obtain ⟨P, h3, hP, eP⟩ := y5y L hz bz ns 20 (by decide)
  obtain ⟨V, hV, eS⟩ := y36 L hz bz hP rfl h3 hn5
  obtain ⟨W, hW, eW⟩ := y9i L hz bz ns hP h3 hn5 (x07 V)
  have eVW : V = W := y8k L hV.ok hW.ok (hV.le W hW.ok hW.fx) (hW.le V hV.ok hV.fx)
  subst eVW
  refine (x0i (ρ1 := W6 ns n f P none none none) (x1s (x0u (ds := [scr ns, .int 20, x0r n f]) rfl rfl eP) rfl)).trans ?_
  refine (x0i (ρ1 := W6 ns n f P (some (x07 V, 9)) none none) (x1s (x0u (ds := [x0r n f, x2q n P]) rfl rfl eS) rfl)).trans ?_
  refine (x0i (ρ1 := W6 ns n f P (some (x07 V, 9)) none none) ?_).trans ?_
  · have l3 : x14 3 (W6 ns n f P (some (x07 V, 9)) none none) = some (.int (Int.ofNat P.length), 9, W6 ns n f P (some (x07 V, 9)) none none) := x4z rfl (by show some (V.map x4o).length = _; rw [List.length_map, hV.ok.len])
    have l2 : x14 2 (W6 ns n f P (some (x07 V, 9)) none none) = some (.int (Int.ofNat P.length), 9, W6 ns n f P (some (x07 V, 9)) none none) := x4z rfl (by show some (P.map (x0p n)).length = _; rw [List.length_map])
    have ne1 := z28 P.length P.length
    rw [decide_eq_true rfl] at ne1
    have ln := x6s L hz bz hV.ok hP (by omega)
    rw [hV.fx] at ln
    have ne2 := x74 V V
    rw [decide_eq_true rfl] at ne2
    have c1 : x4t (x7w (y6o .tuple (x05 3))) (W6 ns n f P (some (x07 V, 9)) none none) = some (false, W6 ns n f P (some (x07 V, 9)) none none) := rfl
    have c2 := x46 (x3w l3 l2 ne1)
    have c3 := x46 (x3w (x0u (F := x10) (n := 3) (g := x01 (x05 1) (x01 (x05 2) (x01 (x05 3) x0e))) (ds := [x0r n f, x2q n P, x07 V]) (ρ := W6 ns n f P (some (x07 V, 9)) none none) rfl rfl ln) (fb := x05 3) (q' := 9) rfl ne2)
    exact (y78 ((z8n c1).trans ((z8n c2).trans c3))).trans rfl
  refine (x0i (ρ1 := W6 ns n f P (some (x07 V, 9)) (some (x07 (x4l n P.length z), 9)) none) (x1s (d := x07 (x4l n P.length z)) (q := 9) (ρ1 := W6 ns n f P (some (x07 V, 9)) none none) ?_ rfl)).trans ?_
  · have hi : x5d (x05 2) (W6 ns n f P (some (x07 V, 9)) none none) = some (P.map (x0p n), W6 ns n f P (some (x07 V, 9)) none none) := by
      have : P.length <= 1000 := by omega
      simp [x2q, this]
    have hcm := x1x (k := 1) (tt := x2o) (te := x9n (x4n (x01 (x0g x16 1 (x01 (x05 1) (x0e))) (x0e))) (x14 1)) (deep := false) (pt := x0m 6) hi (x4r (x0p n) (fun H => [some (x0p n H, 9)]) (fun _ => true) (fun _ => x4o (x93 n z)) (fun _ => 9) P (fun H hH => ⟨rfl, rfl, fun _ => by
      have e1 : x4n (x01 (x0g x16 1 (x01 (x05 1) (x0e))) (x0e)) (W6 ns n f P (some (x07 V, 9)) none none ++ [some (x0p n H, 9)]) = some (.tup [.int (Int.ofNat z)], 9, W6 ns n f P (some (x07 V, 9)) none none ++ [some (x0p n H, 9)]) := x5r (x0x (x0u (ds := [x0r n f]) rfl rfl (y5n L hz bz hn))) (show 1 <= 1000 by decide)
      have e2 : x14 1 (W6 ns n f P (some (x07 V, 9)) none none ++ [some (x0p n H, 9)]) = some (.int (Int.ofNat n), 9, W6 ns n f P (some (x07 V, 9)) none none ++ [some (x0p n H, 9)]) := x4z rfl x1r
      unfold x9n
      rw [e1]
      simp only [e2]
      have := L.lo
      rw [if_pos ⟨rfl, by show (1 : Int) <= (n : Int); omega, by show 1 * n <= 1000; omega⟩]
      show some (D.tup (List.replicate n [D.int (Int.ofNat z)]).flatten, 9, _) = _
      rw [List.flatten_replicate_singleton]
      simp [x0h, x93, x4o]⟩))
    have e1 : (P.filter fun _ => true).map (fun _ => x4o (x93 n z)) = (x4l n P.length z).map x4o := by
      unfold x4l
      rw [List.map_replicate, List.filter_eq_self.mpr fun _ _ => rfl, List.map_const']
    rw [e1] at hcm
    exact x1t (x0x hcm)
  refine (x0i (ρ1 := W6 ns n f P (some (x07 V, 9)) (some (x07 (x4l n P.length z), 9)) (some (x07 (nx n f P (x4l n P.length z)), 9))) (x1s (x0u (ds := [x0r n f, x2q n P, x07 (x4l n P.length z)]) rfl rfl (x6s L hz bz (y3x L hz bz) hP (by omega))) rfl)).trans ?_
  refine (x0i eW).trans ?_
  have eq1 := y8d V V
  rw [decide_eq_true rfl] at eq1
  have c1 := x3w (fa := x05 3) (fb := x05 4) (q := 9) (q' := 9) (ρ := W6 ns n f P (some (x07 V, 9)) (some (x07 V, 9)) (some (x07 V, 9))) rfl rfl eq1
  have hi : x5d (x05 3) (W6 ns n f P (some (x07 V, 9)) (some (x07 V, 9)) (some (x07 V, 9))) = some (V.map x4o, W6 ns n f P (some (x07 V, 9)) (some (x07 V, 9)) (some (x07 V, 9))) := by
    have : V.length <= 1000 := by rw [hV.ok.len]; omega
    simp [x07, this]
  have hcm := x1x (k := 1) (te := x05 6) (tt := x4t (x7w (x0g x83 2 (x01 (x05 1) (x01 (x05 6) (x0e)))))) (deep := false) (pt := x0m 6) hi (x4r x4o (fun r => [some (x4o r, 9)]) (fun _ => false) x4o (fun _ => 9) V (fun r hr => ⟨rfl, by
    have ro := hV.ok.row r hr
    have rs := z07 (f := f) hn (r := gv r) (fun i hi => ro.V.gv hi)
    rw [y5w.mpr fun y x hy hx e => ro.m x y hx hy e, <- y2q ro.V.len] at rs
    exact y7n (y46 (x0u (ds := [x0r n f, x4o r]) rfl rfl rs)), fun q => nomatch q⟩))
  have e0 : (V.filter fun _ => false).map x4o = [] := by simp
  rw [e0] at hcm
  have c2 := x3w hcm (rfl : x4k x0e _ = some (.lst [], 1, _)) (z64 [] [])
  refine x2r (ρ1 := W6 ns n f P (some (x07 V, 9)) (some (x07 V, 9)) (some (x07 V, 9))) ?_
  unfold z2v
  rw [c1]
  exact c2
noncomputable def A0 (K : PySem.W.Frag) (mg : Str -> Option Value) (x : Str) (st : Stmt) : Prop := ∃ f fd, Fun K x x st f fd /\ mg x = some (.ref f)
theorem A0.mk {K : PySem.W.Frag} {h : Heap} {mg : Str -> Option Value} {x : Str} {st : Stmt} {f : Addr} {od an : Option Addr} {sl : Array (Option Value)} {oc kV dc pm cd ct : Value} (X : K.In h) (G : h.Ns mainGlobals mg) (a : PySem.W.nsIn K mainGlobals x = some (some (.ref f))) (l : K.lookup f = some ⟨oc, od, .func (PySem.W.fnOf x x (x5c st) (x3i st) (x0c st) .none kV dc pm an cd ct), sl⟩) (c : PySem.W.codeIn K cd x = true) (k : PySem.W.keepIn K (.ref f) = true) : A0 K mg x st := ⟨_, _, z1k l c k, PySem.W.mg_of X G a⟩
theorem A0.at {K : PySem.W.Frag} {mg : Str -> Option Value} {x : Str} {st : Stmt} {ps : List Str} (a : A0 K mg x st) (h : ∀ (kV doc pm : Value) (an : Option Addr) (cdv ct : Value) (us : List Value), us.length = ps.length -> bindArgs (PySem.W.fnOf x x (x5c st) (x3i st) (x0c st) .none kV doc pm an cdv ct) ⟨us, []⟩ = pure (ps.zip us)) : At K mg x st ps := by
  obtain ⟨f, fd, F, m⟩ := a
  exact ⟨f, fd, F, m, F.binds h⟩
theorem all_mk {l : PySem.W.OpenLaw} {w : World} {K : PySem.W.Frag} {h : Heap} {mg : Str -> Option Value} {fa : Addr} {f42 : Addr} {od42 an42 : Option Addr} {sl42 : Array (Option Value)} {oc42 kV42 dc42 pm42 cd42 ct42 : Value} (X : K.In h) (G : h.Ns mainGlobals mg) (hfa : mg "law" = some (.ref fa))
    (A1 : A0 K mg "_law_cell" (top 34))
    (A2 : A0 K mg "_law_pick" (top 35))
    (A3 : A0 K mg "_law_chain" (top 36))
    (A4 : A0 K mg "_law_couples" (top 37))
    (A5 : A0 K mg "_law_side_by_side" (top 38))
    (A6 : A0 K mg "_law_base" (top 39))
    (A7 : A0 K mg "_law_ladder" (top 40))
    (A8 : A0 K mg "_law_low" (top 41))
    (A9 : A0 K mg "_law_join" (top 42))
    (A10 : A0 K mg "_law_under" (top 43))
    (A11 : A0 K mg "_law_rule" (top 44))
    (A12 : A0 K mg "_law_program" (top 47))
    (A13 : A0 K mg "steady" (top 15))
    (A14 : A0 K mg "row_of_least" (top 8))
    (A15 : A0 K mg "least_of" (top 9))
    (A16 : A0 K mg "least_rules" (top 30))
    (A17 : A0 K mg "is_whole" (top 4))
    (A18 : A0 K mg "is_number_of" (top 5))
    (A19 : A0 K mg "is_named_number" (top 6))
    (A20 : A0 K mg "is_step" (top 20))
    (A21 : A0 K mg "refuse_no_step" (top 21))
    (A22 : A0 K mg "place_and_worth" (top 22))
    (A23 : A0 K mg "worths_behind" (top 23))
    (A24 : A0 K mg "risen" (top 24))
    (A25 : A0 K mg "lowest" (top 17))
    (A26 : A0 K mg "least_by" (top 25))
    (A27 : A0 K mg "all_steps" (top 19))
    (A28 : A0 K mg "least" (top 18))
    (A29 : A0 K mg "called_chart" (top 27))
    (A30 : A0 K mg "house_rule" (top 28))
    (A31 : A0 K mg "one_call_deeper" (top 29))
    (A32 : A0 K mg "summaries_by" (top 32))
    (A33 : A0 K mg "summaries" (top 31))
    (A34 : A0 K mg "_law_house_chart" (top 51))
    (A35 : A0 K mg "_law_raised" (top 48))
    (A36 : A0 K mg "_law_lowest" (top 49))
    (A37 : A0 K mg "_law_next_rules" (top 52))
    (A38 : A0 K mg "is_below" (top 10))
    (A39 : A0 K mg "is_no_more" (top 14))
    (A40 : A0 K mg "below" (top 11))
    (A41 : A0 K mg "rises" (top 13))
    (a42 : PySem.W.nsIn K mainGlobals "law" = some (some (.ref f42))) (l42 : K.lookup f42 = some ⟨oc42, od42, .func (PySem.W.fnOf "law" "law" (x5c (top 53)) (x3i (top 53)) (x0c (top 53)) .none kV42 dc42 pm42 an42 cd42 ct42), sl42⟩) (c42 : PySem.W.codeIn K cd42 "law" = true) (k42 : PySem.W.keepIn K (.ref f42) = true)
    (z1 : PySem.W.nsIn K mainGlobals "all" = some none) (z2 : PySem.W.nsIn K mainGlobals "bool" = some none) (z3 : PySem.W.nsIn K mainGlobals "int" = some none) (z4 : PySem.W.nsIn K mainGlobals "isinstance" = some none) (z5 : PySem.W.nsIn K mainGlobals "len" = some none) (z6 : PySem.W.nsIn K mainGlobals "list" = some none) (z7 : PySem.W.nsIn K mainGlobals "max" = some none) (z8 : PySem.W.nsIn K mainGlobals "range" = some none) (z9 : PySem.W.nsIn K mainGlobals "str" = some none) (z10 : PySem.W.nsIn K mainGlobals "tuple" = some none) (z11 : PySem.W.nsIn K mainGlobals "zip" = some none)  :
    ∃ fd : FuncData, (∀ (s : Shared) (v : Value), BindsTo s fd ⟨[v], []⟩ [("_law_script", v)]) /\ ∀ base : Heap, K.In base -> base.Ns mainGlobals mg -> FnOk l.prog w K mg base CX0 12 fa fd ["_law_script"] (spD K 1 y5s) := by
  have e := hfa.symm.trans (PySem.W.mg_of X G a42)
  cases e
  have B : Bt mg := ⟨PySem.W.mg_none_of X G z1, PySem.W.mg_none_of X G z2, PySem.W.mg_none_of X G z3, PySem.W.mg_none_of X G z4, PySem.W.mg_none_of X G z5, PySem.W.mg_none_of X G z6, PySem.W.mg_none_of X G z7, PySem.W.mg_none_of X G z8, PySem.W.mg_none_of X G z9, PySem.W.mg_none_of X G z10, PySem.W.mg_none_of X G z11⟩
  refine ⟨PySem.W.fnOf "law" "law" (x5c (top 53)) (x3i (top 53)) (x0c (top 53)) .none kV42 dc42 pm42 an42 cd42 ct42, fun s v => .of_eq rfl, fun base _ _ => ?_⟩
  have D__law_cell := y3t (P := l.prog) (w := w) (base := base) B  (A1.at fun _ _ _ _ _ _ _ h => by obtain ⟨_, _, rfl⟩ := L3.j18 h; rfl)
  have D__law_pick := y47 B D__law_cell (A2.at fun _ _ _ _ _ _ _ h => by obtain ⟨_, _, _, rfl⟩ := L3.j1m h; rfl)
  have D__law_chain := y38 (P := l.prog) (w := w) (base := base) B  (A3.at fun _ _ _ _ _ _ _ h => by obtain ⟨_, rfl⟩ := L3.j10 h; rfl)
  have D__law_couples := y0e (P := l.prog) (w := w) (base := base) B  (A4.at fun _ _ _ _ _ _ _ h => by obtain ⟨_, _, rfl⟩ := L3.j18 h; rfl)
  have D__law_side_by_side := x6m (P := l.prog) (w := w) (base := base) B  (A5.at fun _ _ _ _ _ _ _ h => by obtain ⟨_, rfl⟩ := L3.j10 h; rfl)
  have D__law_base := y4m B D__law_pick D__law_chain D__law_couples D__law_side_by_side (A6.at fun _ _ _ _ _ _ _ h => by obtain ⟨_, _, rfl⟩ := L3.j18 h; rfl)
  have D__law_ladder := y19 B D__law_base D__law_pick (A7.at fun _ _ _ _ _ _ _ h => by obtain ⟨_, _, rfl⟩ := L3.j18 h; rfl)
  have D__law_low := y67 (P := l.prog) (w := w) (base := base) B  (A8.at fun _ _ _ _ _ _ _ h => by obtain ⟨_, rfl⟩ := L3.j10 h; rfl)
  have D__law_join := y4h B D__law_low (A9.at fun _ _ _ _ _ _ _ h => by obtain ⟨_, _, rfl⟩ := L3.j18 h; rfl)
  have D__law_under := y39 (P := l.prog) (w := w) (base := base) B  (A10.at fun _ _ _ _ _ _ _ h => by obtain ⟨_, _, rfl⟩ := L3.j18 h; rfl)
  have D__law_rule := y3r B D__law_low D__law_pick D__law_join D__law_under (A11.at fun _ _ _ _ _ _ _ h => by obtain ⟨_, _, _, rfl⟩ := L3.j1m h; rfl)
  have D__law_program := y0a B D__law_pick D__law_rule (A12.at fun _ _ _ _ _ _ _ h => by obtain ⟨_, _, _, rfl⟩ := L3.j1m h; rfl)
  have D_steady := y8w (P := l.prog) (w := w) (base := base) B  (A13.at fun _ _ _ _ _ _ _ h => by obtain ⟨_, _, rfl⟩ := L3.j18 h; rfl)
  have D_row_of_least := y06 (P := l.prog) (w := w) (base := base) B  (A14.at fun _ _ _ _ _ _ _ h => by obtain ⟨_, rfl⟩ := L3.j10 h; rfl)
  have D_least_of := y62 B D_row_of_least (A15.at fun _ _ _ _ _ _ _ h => by obtain ⟨_, rfl⟩ := L3.j10 h; rfl)
  have D_least_rules := y1e B D_steady D_least_of (A16.at fun _ _ _ _ _ _ _ h => by obtain ⟨_, _, rfl⟩ := L3.j18 h; rfl)
  have D_is_whole := y5t (P := l.prog) (w := w) (base := base) B  (A17.at fun _ _ _ _ _ _ _ h => by obtain ⟨_, rfl⟩ := L3.j10 h; rfl)
  have D_is_number_of := y09 B D_is_whole (A18.at fun _ _ _ _ _ _ _ h => by obtain ⟨_, _, rfl⟩ := L3.j18 h; rfl)
  have D_is_named_number := x89 B D_is_number_of (A19.at fun _ _ _ _ _ _ _ h => by obtain ⟨_, _, rfl⟩ := L3.j18 h; rfl)
  have D_is_step := y6t B D_is_named_number (A20.at fun _ _ _ _ _ _ _ h => by obtain ⟨_, _, rfl⟩ := L3.j18 h; rfl)
  have D_refuse_no_step := x8x B D_is_step (A21.at fun _ _ _ _ _ _ _ h => by obtain ⟨_, _, rfl⟩ := L3.j18 h; rfl)
  have D_place_and_worth := x8d (P := l.prog) (w := w) (base := base) B  (A22.at fun _ _ _ _ _ _ _ h => by obtain ⟨_, _, _, rfl⟩ := L3.j1m h; rfl)
  have D_worths_behind := x9o B D_place_and_worth (A23.at fun _ _ _ _ _ _ _ h => by obtain ⟨_, _, _, _, rfl⟩ := L3.j1n h; rfl)
  have D_risen := z2p B D_worths_behind (A24.at fun _ _ _ _ _ _ _ h => by obtain ⟨_, _, _, _, rfl⟩ := L3.j1n h; rfl)
  have D_lowest := z12 B D_least_of (A25.at fun _ _ _ _ _ _ _ h => by obtain ⟨_, _, rfl⟩ := L3.j18 h; rfl)
  have D_least_by := y69 B D_refuse_no_step D_risen D_lowest (A26.at fun _ _ _ _ _ _ _ h => by obtain ⟨_, _, _, rfl⟩ := L3.j1m h; rfl)
  have D_all_steps := y3w (P := l.prog) (w := w) (base := base) B  (A27.at fun _ _ _ _ _ _ _ h => by obtain ⟨_, rfl⟩ := L3.j10 h; rfl)
  have D_least := z2n B D_least_by D_all_steps (A28.at fun _ _ _ _ _ _ _ h => by obtain ⟨_, _, rfl⟩ := L3.j18 h; rfl)
  have D_called_chart := y0d B D_is_whole (A29.at fun _ _ _ _ _ _ _ h => by obtain ⟨_, _, _, rfl⟩ := L3.j1m h; rfl)
  have D_house_rule := y2i B D_least D_called_chart (A30.at fun _ _ _ _ _ _ _ h => by obtain ⟨_, _, _, rfl⟩ := L3.j1m h; rfl)
  have D_one_call_deeper := x7z B D_house_rule (A31.at fun _ _ _ _ _ _ _ h => by obtain ⟨_, _, _, rfl⟩ := L3.j1m h; rfl)
  have D_summaries_by := y07 B D_least_rules D_one_call_deeper (A32.at fun _ _ _ _ _ _ _ h => by obtain ⟨_, _, _, rfl⟩ := L3.j1m h; rfl)
  have D_summaries := y3s B D_summaries_by (A33.at fun _ _ _ _ _ _ _ h => by obtain ⟨_, _, rfl⟩ := L3.j18 h; rfl)
  have D__law_house_chart := x7i (P := l.prog) (w := w) (base := base) B  (A34.at fun _ _ _ _ _ _ _ h => by obtain ⟨_, _, _, rfl⟩ := L3.j1m h; rfl)
  have D__law_raised := y1x (P := l.prog) (w := w) (base := base) B  (A35.at fun _ _ _ _ _ _ _ h => by obtain ⟨_, _, _, rfl⟩ := L3.j1m h; rfl)
  have D__law_lowest := y1l B D__law_raised (A36.at fun _ _ _ _ _ _ _ h => by obtain ⟨_, _, _, rfl⟩ := L3.j1m h; rfl)
  have D__law_next_rules := x8a B D__law_house_chart D__law_lowest D__law_low (A37.at fun _ _ _ _ _ _ _ h => by obtain ⟨_, _, _, rfl⟩ := L3.j1m h; rfl)
  have D_is_below := y6a (P := l.prog) (w := w) (base := base) B  (A38.at fun _ _ _ _ _ _ _ h => by obtain ⟨_, _, _, rfl⟩ := L3.j1m h; rfl)
  have D_is_no_more := y3f B D_is_below (A39.at fun _ _ _ _ _ _ _ h => by obtain ⟨_, _, _, rfl⟩ := L3.j1m h; rfl)
  have D_below := z41 B D_is_below (A40.at fun _ _ _ _ _ _ _ h => by obtain ⟨_, _, rfl⟩ := L3.j18 h; rfl)
  have D_rises := z4b B D_below D_is_below (A41.at fun _ _ _ _ _ _ _ h => by obtain ⟨_, _, rfl⟩ := L3.j18 h; rfl)
  exact z4c B D__law_ladder D__law_program D_summaries D__law_next_rules D__law_low D_is_no_more D_rises (z1k (st := top 53) l42 c42 k42)
theorem walk {l : PySem.W.OpenLaw} {q : Program} {loose : List Str} {XP : (Str -> Option Value) -> Heap -> Prop} {YP : World -> Heap -> Prop} {d : DefRec} {K : Params -> PySem.W.Frag} (hn : l.most = some 63) (hdf : d.params.defaults = [])
    (hY : ∀ (w : World) (h : Heap), YP w h -> (K w.params).In h)
    (F : ∀ (w : World) (mg : Str -> Option Value) (fa : Addr) (h : Heap), (K w.params).In h -> h.Ns mainGlobals mg -> mg d.name = some (.ref fa) ->
      ∃ fd : FuncData, (∀ (s : Shared) (u : Value), BindsTo s fd ⟨[u], []⟩ [("_law_script", u)]) /\ ∀ base : Heap, (K w.params).In base -> base.Ns mainGlobals mg -> FnOk l.prog w (K w.params) mg base CX0 12 fa fd ["_law_script"] (spD (K w.params) 1 y5s)) :
    PySem.W.WalkO q loose XP YP l.row.toRowW d [] (fun f vs => PySem.call f vs) :=
  L2.z9z (n := 63) (k := 12) (x := "_law_script") (CX := fun _ => CX0) (sp := fun w => spD (K w.params) 1 y5s) hn (by decide) hdf ⟨rfl, by decide, by decide⟩ hY F (fun _ _ a ns hl _ hS => z7v law_true hl hS) fun _ _ _ _ _ z => z
end My
namespace PySem.W.Fast
def tw1011124169889317826 := 0
def tw10206216235963142336 := 0
def tw10349730111146787204 := 0
def tw10385315942924970407 := 0
def tw10421140312915275421 := 0
def tw10442260453688314407 := 0
def tw10566423875979370258 := 0
def tw10583268317002252004 := 0
def tw10594270428098817570 := 0
def tw10721952781900414271 := 0
def tw10830026737208550315 := 0
def tw10953091908670174543 := 0
def tw11153383886856031881 := 0
def tw11172625713167873857 := 0
def tw11185609712985312093 := 0
def tw11247845852540205236 := 0
def tw11357539945840823568 := 0
def tw11414024717904593482 := 0
def tw11475948919972524798 := 0
def tw11492088463050396745 := 0
def tw11501973089950422172 := 0
def tw11566192277410575215 := 0
def tw11611630523739378426 := 0
def tw11648813786213104367 := 0
def tw11675003902958520737 := 0
def tw11676497264402898572 := 0
def tw11721354099391873900 := 0
def tw11730641757603974962 := 0
def tw11735802457682757130 := 0
def tw1175208415916044410 := 0
def tw11827651907836447815 := 0
def tw11852565457682332981 := 0
def tw11927615565208457017 := 0
def tw12039486609756603023 := 0
def tw12127035095232756468 := 0
def tw12170256397384653262 := 0
def tw12179404703953386582 := 0
def tw1223442642287614219 := 0
def tw12522527966547501307 := 0
def tw1254437983302989480 := 0
def tw12586129898759422011 := 0
def tw12635686801665819598 := 0
def tw12699896180930699885 := 0
def tw12761094958788656599 := 0
def tw12764309678600389035 := 0
def tw1277837574606032087 := 0
def tw12781338677785964235 := 0
def tw12810092502787701190 := 0
def tw12847021798649804176 := 0
def tw12880124682249039255 := 0
def tw12899534991528030929 := 0
def tw12906911543496295564 := 0
def tw12912849401887208190 := 0
def tw1291563023344686694 := 0
def tw12964807923278278082 := 0
def tw13000544286000947720 := 0
def tw13050070836840940402 := 0
def tw13064660834190979984 := 0
def tw13078331515453015533 := 0
def tw1316726734643389936 := 0
def tw1318207222554390584 := 0
def tw13262016705703030792 := 0
def tw13411508104779629468 := 0
def tw13463284265482524522 := 0
def tw13471664586119897157 := 0
def tw13552141240133942360 := 0
def tw13612248034287357251 := 0
def tw13639179130030045388 := 0
def tw13700191060732901659 := 0
def tw13712717020420829740 := 0
def tw13724731859510119047 := 0
def tw13772258844590634043 := 0
def tw13853303272874566897 := 0
def tw13939870679785205865 := 0
def tw13956075946320666575 := 0
def tw14136307879630247133 := 0
def tw14142363335910299788 := 0
def tw14153433857740284855 := 0
def tw14204072334209680859 := 0
def tw14223055573157389643 := 0
def tw14245393544544995356 := 0
def tw14268460480517593783 := 0
def tw14276012528916923484 := 0
def tw14326520943330619729 := 0
def tw14398647655738474473 := 0
def tw14555625295309796824 := 0
def tw14711861417878415377 := 0
def tw14791007350872264697 := 0
def tw14955103184411520391 := 0
def tw15000670291530867203 := 0
def tw15097575397172328028 := 0
def tw15129629645841572750 := 0
def tw15163272706469296985 := 0
def tw15275623836185025921 := 0
def tw15280085060104231255 := 0
def tw15330107247474879855 := 0
def tw15496990902198721729 := 0
def tw15574271802471751816 := 0
def tw15577096992130486073 := 0
def tw1563038123017719292 := 0
def tw157046942265320419 := 0
def tw15711864385061033030 := 0
def tw15732572688440405013 := 0
def tw1576938888577667235 := 0
def tw15787802810372082318 := 0
def tw15797155699473286956 := 0
def tw15908241913817178131 := 0
def tw15983115948777637949 := 0
def tw16039586751763775746 := 0
def tw16079816645349059569 := 0
def tw16146527608448842287 := 0
def tw16184265033680198513 := 0
def tw16251135597995263016 := 0
def tw16261103892987199058 := 0
def tw16273245562649612682 := 0
def tw16302404800018683408 := 0
def tw16324667056447446753 := 0
def tw16328918864898174930 := 0
def tw16330067459346388032 := 0
def tw16331048002836214537 := 0
def tw16341712663721527864 := 0
def tw16409690915793567350 := 0
def tw16486533485298992434 := 0
def tw16550824623274468212 := 0
def tw16645580924891711118 := 0
def tw16740816149791178763 := 0
def tw16742581442185799017 := 0
def tw16765871672094896585 := 0
def tw16768377072617826928 := 0
def tw1678321819297817681 := 0
def tw1686950742968934477 := 0
def tw16944426801886756005 := 0
def tw17126394224224042485 := 0
def tw17129354760803412784 := 0
def tw17243885864499093799 := 0
def tw17316723882118896016 := 0
def tw17351915362915352630 := 0
def tw17475821307645915744 := 0
def tw17612125526528411136 := 0
def tw17633811740109543718 := 0
def tw17683886145241802984 := 0
def tw17719928785403238020 := 0
def tw17839111552404358935 := 0
def tw17852434773710816096 := 0
def tw17892247708551685143 := 0
def tw18055568745858821311 := 0
def tw18084219252412613362 := 0
def tw18086931783733034217 := 0
def tw18133330627655256284 := 0
def tw18145027593308949523 := 0
def tw18166724413903869369 := 0
def tw18177544193925327636 := 0
def tw18178040383420179232 := 0
def tw18201730523601288936 := 0
def tw18223039831249606120 := 0
def tw18231639352901675092 := 0
def tw18394788560987678853 := 0
def tw1855354637749657614 := 0
def tw1970166685258803997 := 0
def tw1981780828295486689 := 0
def tw208148136610326013 := 0
def tw2208796476430259644 := 0
def tw2325045986688802801 := 0
def tw2465987514747120755 := 0
def tw253743260696945207 := 0
def tw2593063700159909340 := 0
def tw2669987434145523601 := 0
def tw2701039344926105287 := 0
def tw2728802136813736682 := 0
def tw2733134870889694904 := 0
def tw2747420139254072963 := 0
def tw280452197295650691 := 0
def tw2849023754233150916 := 0
def tw2875764975858462725 := 0
def tw3003566116904916371 := 0
def tw3016086186200977745 := 0
def tw3036625244593338801 := 0
def tw3066475096675406171 := 0
def tw3071146960234929231 := 0
def tw3175830618060020951 := 0
def tw3236069004011046061 := 0
def tw3293957287629850806 := 0
def tw3324215314410171831 := 0
def tw3449288359443799389 := 0
def tw3522989370254607813 := 0
def tw3607625648140253668 := 0
def tw3679148971477276962 := 0
def tw3697187297546627955 := 0
def tw3738353198240158868 := 0
def tw3775247656651568812 := 0
def tw3816195699012232716 := 0
def tw3834707358437197683 := 0
def tw3857765482696662667 := 0
def tw3879302206244853746 := 0
def tw3908957213447825646 := 0
def tw3921114474455485969 := 0
def tw4096753919576916498 := 0
def tw4132337404993235224 := 0
def tw4178567608573018156 := 0
def tw42036092526251792 := 0
def tw4242321833211619226 := 0
def tw4286656063290810873 := 0
def tw4312389263689079699 := 0
def tw4336077744516096879 := 0
def tw442901977559940009 := 0
def tw4462167293179468769 := 0
def tw4512369821514152145 := 0
def tw454075406207402589 := 0
def tw4552373938993774138 := 0
def tw4580749416782691186 := 0
def tw4581308601544990615 := 0
def tw4662171568377843062 := 0
def tw48215978799130463 := 0
def tw4864600775018899331 := 0
def tw4926636920387559979 := 0
def tw4955136605649460255 := 0
def tw4991837442165066869 := 0
def tw5075201999631466922 := 0
def tw5093199555939412426 := 0
def tw5127585941225704212 := 0
def tw5283136494459193391 := 0
def tw5324065940072933987 := 0
def tw5437161892563103443 := 0
def tw5444885353976069188 := 0
def tw5532041218050445822 := 0
def tw5598582294140004972 := 0
def tw5605723340198621136 := 0
def tw5608877762753704095 := 0
def tw5631888857266526957 := 0
def tw5753089576694901642 := 0
def tw5798625585659868740 := 0
def tw5901776765900727898 := 0
def tw6013262196307217192 := 0
def tw6137296292818782039 := 0
def tw6192890807789879632 := 0
def tw6456483998626274264 := 0
def tw6476138895544548564 := 0
def tw6488518855014500762 := 0
def tw6568508982376350999 := 0
def tw6608953932816074851 := 0
def tw6624361711309805879 := 0
def tw6637271425386959072 := 0
def tw6640256389272068000 := 0
def tw6758692686686039576 := 0
def tw6840715101495509064 := 0
def tw6919242567183839301 := 0
def tw6988385216296206300 := 0
def tw6989528462849376942 := 0
def tw703178841034316432 := 0
def tw7090646024735156797 := 0
def tw7091770902535060368 := 0
def tw7215989839760739906 := 0
def tw7253352704473649042 := 0
def tw734357433111175444 := 0
def tw736622006990425251 := 0
def tw7390042120829800465 := 0
def tw7433532983858475506 := 0
def tw7498128512401675927 := 0
def tw7560377737852443414 := 0
def tw7588763265937483169 := 0
def tw7627718885292414435 := 0
def tw7694225657037090150 := 0
def tw7943146963468039310 := 0
def tw7982623567323753985 := 0
def tw8019760572686120361 := 0
def tw8084597259922826968 := 0
def tw8126132560975182551 := 0
def tw8341054384643881660 := 0
def tw8369374689086833228 := 0
def tw8386769772910211047 := 0
def tw8404445989451131651 := 0
def tw8504171362264584778 := 0
def tw876435120229013662 := 0
def tw8777734787259314925 := 0
def tw8785790539614447257 := 0
def tw8859717427454276873 := 0
def tw8871762694222797211 := 0
def tw8929352154434859840 := 0
def tw8990340186840911447 := 0
def tw8992233269017351584 := 0
def tw9074076192214417245 := 0
def tw9085095783196068510 := 0
def tw9167703842013135555 := 0
def tw9276920307950086304 := 0
def tw9316158256644669906 := 0
def tw9412822067393271110 := 0
def tw9508371855401232994 := 0
def tw9529257801238375126 := 0
def tw9542950809750470552 := 0
def tw959292529450328793 := 0
def tw9667038296182682867 := 0
def tw9696899929771174476 := 0
def tw9745714947287500089 := 0
def tw9872803170715508361 := 0
def tw9992641031261005661 := 0
end PySem.W.Fast
open PySem PySem.W PyProof.Rows
set_option maxRecDepth 100000 in
set_option maxHeartbeats 0 in
theorem PySem.Challenge.cw_ladderhall_k81_whole_summaries_holds : PySem.Challenge.rw_ladderhall_k81_whole_summaries.Holds := by
  w_on; o_law; k_head; (case hw => w_witness2)
  k_fill
  refine My.walk (l := PySem.Challenge.rw_ladderhall_k81_whole_summaries) rfl rfl (fun w h Y => PySem.W.kIn_of Y) ?F
  case F =>
    intro w mg fa h KX G hmg
    refine' My.all_mk KX G hmg ?A1 ?A2 ?A3 ?A4 ?A5 ?A6 ?A7 ?A8 ?A9 ?A10 ?A11 ?A12 ?A13 ?A14 ?A15 ?A16 ?A17 ?A18 ?A19 ?A20 ?A21 ?A22 ?A23 ?A24 ?A25 ?A26 ?A27 ?A28 ?A29 ?A30 ?A31 ?A32 ?A33 ?A34 ?A35 ?A36 ?A37 ?A38 ?A39 ?A40 ?A41 ?a42 ?l42 ?c42 ?k42 ?z1 ?z2 ?z3 ?z4 ?z5 ?z6 ?z7 ?z8 ?z9 ?z10 ?z11
    (case A1 | A2 | A3 | A4 | A5 | A6 | A7 | A8 | A9 | A10 | A11 | A12 | A13 | A14 | A15 | A16 | A17 | A18 | A19 | A20 | A21 | A22 | A23 | A24 | A25 | A26 | A27 | A28 | A29 | A30 | A31 | A32 | A33 | A34 | A35 | A36 | A37 | A38 | A39 | A40 | A41 => refine' My.A0.mk KX G ?a ?l ?c ?k; (case a => k_is); (case l => k_is); (case c => k_is); (case k => k_is))
    (case a42 => k_is)
    (case l42 => k_is)
    (case c42 => k_is)
    (case k42 => k_is)
    (case z1 => k_is)
    (case z2 => k_is)
    (case z3 => k_is)
    (case z4 => k_is)
    (case z5 => k_is)
    (case z6 => k_is)
    (case z7 => k_is)
    (case z8 => k_is)
    (case z9 => k_is)
    (case z10 => k_is)
    (case z11 => k_is)
