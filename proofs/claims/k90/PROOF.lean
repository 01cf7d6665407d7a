import PyProof.Rows.All
import Wide.All
import OpenK.AllK
import Wide.FinOn
import Lean
import PyProof.EqAt
import PyProof.EqKinds
import PyProof.TupleCall
import KE.KIsNot
import PyProof.ExcArgs
import OpenK.KOwn
import KE.LcSums
import PyProof.EnumMake
import PyProof.Draws
import PyProof.Rows.EnumRows
import PyProof.ExcBaseAll.ValueError
import PyProof.NsDelKeeps
import PySem.Challenge.RW_ladderhall_k90_maps
set_option Elab.async false
set_option linter.all false
set_option maxRecDepth 100000
set_option maxHeartbeats 0
namespace L2
open PySem PySem.Spec PyProof.Rows
noncomputable abbrev Key := Sum Int Str
noncomputable def z6u : Key -> Value -> Bool
  | .inl k, v => Value.isInt k v
  | .inr x, v => Value.isStrOf x v
noncomputable def z8t (w : World) : Key -> Int
  | .inl k => hashInt k
  | .inr x => hashStr w x
theorem x2f : ∀ {k : Key} {v : Value}, z6u k v = true -> (∃ i t, k = Sum.inl i /\ v = Value.int i t) \/ (∃ x t, k = Sum.inr x /\ v = Value.str x t)
  | .inl i, v, h => by
    obtain ⟨t, e⟩ := Value.isInt_shape (k := i) (v := v) h
    exact .inl ⟨i, t, rfl, e⟩
  | .inr x, v, h => by
    obtain ⟨t, e⟩ := Value.isStrOf_shape (x := x) (v := v) h
    exact .inr ⟨x, t, rfl, e⟩
theorem z4r (a b : Int) : decide ((Sum.inl a : Key) = Sum.inl b) = (a == b) := by
  by_cases e : a = b
  · subst e; simp
  · have h : ¬ (Sum.inl a : Key) = Sum.inl b := fun q => e (Sum.inl.inj q)
    rw [decide_eq_false h]
    exact (beq_eq_false_iff_ne.mpr e).symm
theorem z6k (a b : Str) : decide ((Sum.inr a : Key) = Sum.inr b) = decide (a = b) := by
  by_cases e : a = b
  · subst e; simp
  · have h : ¬ (Sum.inr a : Key) = Sum.inr b := fun q => e (Sum.inr.inj q)
    rw [decide_eq_false h, decide_eq_false e]
theorem z5p (a : Int) (b : Str) : decide ((Sum.inl a : Key) = Sum.inr b) = false := decide_eq_false (fun q => nomatch q)
theorem z3w (a : Str) (b : Int) : decide ((Sum.inr a : Key) = Sum.inl b) = false := decide_eq_false (fun q => nomatch q)
noncomputable def y2k (prog : Program) (w : World) : PySem.KeyKind prog w Key where
  is := z6u
  hash := z8t w
  inj := fun v a b ha hb => by
    rcases x2f ha with ⟨i, t, rfl, rfl⟩ | ⟨x, t, rfl, rfl⟩
    · rcases x2f hb with ⟨j, u, rfl, e⟩ | ⟨y, u, rfl, e⟩
      · injection e with e1 _; rw [e1]
      · exact nomatch e
    · rcases x2f hb with ⟨j, u, rfl, e⟩ | ⟨y, u, rfl, e⟩
      · exact nomatch e
      · injection e with e1 _; rw [e1]
  byValue := fun k v h => by
    rcases x2f h with ⟨i, t, rfl, rfl⟩ | ⟨x, t, rfl, rfl⟩ <;> rfl
  pyHash := fun hv h => by
    rcases x2f hv with ⟨i, t, rfl, rfl⟩ | ⟨x, t, rfl, rfl⟩
    · exact wpAny_pyHash_int h
    · exact wpAny_pyHash_str h
  eqBool := fun hu hv h => by
    rcases x2f hu with ⟨i, t, rfl, rfl⟩ | ⟨x, t, rfl, rfl⟩
    · rcases x2f hv with ⟨j, u, rfl, rfl⟩ | ⟨y, u, rfl, rfl⟩
      · rw [z4r] at h; exact wpAny_eqBool_int h
      · rw [z5p] at h; exact SeqAt.EqAt.int_str i t y u _ _ _ _ h
    · rcases x2f hv with ⟨j, u, rfl, rfl⟩ | ⟨y, u, rfl, rfl⟩
      · rw [z3w] at h; exact SeqAt.EqAt.str_int x t j u _ _ _ _ h
      · rw [z6k] at h; exact wpAny_eqBool_str h
  «strs» := fun k x t v h => by
    rcases x2f h with ⟨i, u, rfl, e⟩ | ⟨y, u, rfl, e⟩
    · exact nomatch e
    · injection e with e1 _
      subst e1
      cases v <;> rfl
inductive V where
  | non | bl (b : Bool) | int (i : Int) | str (x : Str) | byt (b : Array UInt8) | flt (b : UInt64) | ref (a : Addr) | ty (n : String)
  deriving DecidableEq
noncomputable def x4b : V -> Value -> Prop
  | .non, u => u = Value.none
  | .bl b, u => u = Value.bool b
  | .int i, u => ∃ t, u = Value.int i t
  | .str x, u => ∃ t, u = Value.str x t
  | .byt b, u => ∃ t, u = Value.bytes b t
  | .flt b, u => ∃ t, u = Value.float b t
  | .ref a, u => u = Value.ref a
  | .ty n, u => u = Value.type n
noncomputable abbrev x2m : List V -> List Value -> Prop := Paired x4b
theorem x2m.length {xs : List V} {us : List Value} (r : x2m xs us) : xs.length = us.length := Paired.length r
theorem x2m.get : ∀ {xs : List V} {us : List Value} {i : Nat} {x : V}, x2m xs us -> xs[i]? = some x -> ∃ u, us[i]? = some u /\ x4b x u
  | _, _, _, _, .nil, e => by simp at e
  | _, _, 0, _, .cons r _, e => by simp at e; subst e; exact ⟨_, rfl, r⟩
  | _, _, i + 1, x, .cons _ t, e => by
    obtain ⟨u, h1, h2⟩ := x2m.get (i := i) (x := x) t (by simpa using e)
    exact ⟨u, by simpa using h1, h2⟩
theorem x2m.set {x : V} {u : Value} (r : x4b x u) : ∀ {xs : List V} {us : List Value} (i : Nat), x2m xs us -> x2m (xs.set i x) (us.set i u)
  | _, _, _, .nil => .nil
  | _, _, 0, .cons _ t => .cons r t
  | _, _, i + 1, .cons q t => .cons q (x2m.set r i t)
theorem x2m.append : ∀ {xs ys : List V} {us ws : List Value}, x2m xs us -> x2m ys ws -> x2m (xs ++ ys) (us ++ ws)
  | _, _, _, _, .nil, s => s
  | _, _, _, _, .cons r t, s => .cons r (x2m.append t s)
theorem x2m.take : ∀ {xs : List V} {us : List Value} (n : Nat), x2m xs us -> x2m (xs.take n) (us.take n)
  | _, _, 0, _ => .nil
  | _, _, _ + 1, .nil => .nil
  | _, _, n + 1, .cons r t => .cons r (x2m.take n t)
theorem x2m.drop : ∀ {xs : List V} {us : List Value} (n : Nat), x2m xs us -> x2m (xs.drop n) (us.drop n)
  | _, _, 0, r => r
  | _, _, _ + 1, .nil => .nil
  | _, _, n + 1, .cons _ t => x2m.drop n t
noncomputable def z7f : Option V -> Option Value -> Prop
  | some v, some u => x4b v u
  | none, none => True
  | _, _ => False
noncomputable def KV {κ : Type} : List (κ × V) -> List (κ × Value) -> Prop := Paired fun (p : κ × V) (q : κ × Value) => p.1 = q.1 /\ x4b p.2 q.2
noncomputable def kV : Key -> V
  | .inl i => .int i
  | .inr x => .str x
inductive HO where
  /-- a list -/
  | lst (xs : List V)
  /-- a tuple (never changes) -/
  | tup (xs : List V)
  /-- a dict whose keys are ints and texts; one whose keys are tuples of ints and texts (the empty one is both) -/
  | dK (kvs : List (Key × V)) | dT (kvs : List (List Key × V))
  /-- a set of ints: its members, its size -/
  | set (S : Int -> Bool) (n : Nat)
  /-- an instance of the class at C, its dict at dx, its attributes -/
  | ins (C dx : Addr) (fs : List (Str × V))
  /-- the dict of the instance at x -/
  | own (x : Addr)
  /-- the dict of an exception -/
  | xd (fs : List (Str × V))
  /-- a bound method, f of x -/
  | met (f x : Addr)
  /-- a range object lo, lo + 1, .. below hi -/
  | rng (lo hi : Int)
  /-- a thing that is known to the object (the script; a dict while a loop walks it): read, never written while it is so -/
  | frz (o : Obj) (u : HO)
  /-- a code object's table -/
  | tbl (ps : Array Value)
  /-- any other thing, by what is true of its one object (a def of one's own: SetO a S n := HO.ext fun h => ..) -/
  | ext (φ : Heap -> Prop)
noncomputable abbrev Hp := Addr -> Option HO
noncomputable def upd (H : Hp) (a : Addr) (o : HO) : Hp := fun b => if b = a then some o else H b
theorem x2h {H : Hp} {a : Addr} {o : HO} : upd H a o a = some o := by unfold upd; rw [if_pos rfl]
theorem x0w {H : Hp} {a b : Addr} {o : HO} (h : b ≠ a) : upd H a o b = H b := by unfold upd; rw [if_neg h]
theorem x1t {H : Hp} {a b : Addr} {o : HO} (h : H a = some o) (h' : H b = none) : a ≠ b := by
  intro e; subst e; rw [h] at h'; cases h'
noncomputable def x4u (h : Heap) (a : Addr) (items : Array Value) : Prop := ∃ o, h.get? a = some o /\ o.cls = .type "tuple" /\ (∃ n, o.data = .seq items n) /\ o.dict = none
theorem x4u.tup {h : Heap} {a : Addr} {items : Array Value} (x : x4u h a items) : IsTup h a items := let ⟨o, e, c, n, _⟩ := x; ⟨o, e, c, n⟩
theorem x4u.new (h : Heap) (items : Array Value) : x4u (h.push { cls := .type "tuple", data := .seq items }) h.objs.size items := ⟨_, Heap.get?_push_size _ rfl, rfl, ⟨_, rfl⟩, rfl⟩
theorem x4u.lt {h : Heap} {a : Addr} {items : Array Value} (x : x4u h a items) : a < h.objs.size := let ⟨_, e, _⟩ := x; Heap.lt_size e
section
variable (P : Program) (w : World)
noncomputable def x35 (H : Hp) (h : Heap) (a : Addr) : HO -> Prop
  | .lst xs => xs.length <= sizeLine /\ ∃ (its : List Value) (n : Nat), x2m xs its /\ h.get? a = some { cls := .type "list", data := .seq its.toArray n }
  | .tup xs => xs.length <= sizeLine /\ ∃ its : List Value, x2m xs its /\ x4u h a its.toArray
  | .dK kvs => kvs.length <= sizeLine /\ (a == sysModules) = false /\ ∃ vs, KV kvs vs /\ h.DictOf (y2k P w) a vs
  | .dT kvs => kvs.length <= sizeLine /\ (a == sysModules) = false /\ ∃ xs : List (List Key × Addr × Value),
      Paired (fun (p : List Key × V) (q : List Key × Addr × Value) => p.1 = q.1 /\ H q.2.1 = some (.tup (p.1.map kV)) /\ x4b p.2 q.2.2) kvs xs /\
      ∃ o es ep, h.get? a = some o /\ o.ExactDict /\ o.data = .dict es ep /\ es.toList = xs.map (entryOfKey (tupleKind (y2k P w))) /\ (xs.map (·.1)).Nodup
  | .set S n => h.SetOf (intKind P w) a S n
  | .ins C dx fs => H dx = some (.own a) /\ fs.length <= 1000 /\ dx ≠ a /\ h.get? a = some (PySem.W.instObj C dx) /\
      ∃ mA, h.Ns1 dx mA /\ (∀ f, z7f (fs.lookup f) (mA f)) /\ PySem.Within mA (fs.map (·.1))
  | .own _ => ∃ o, h.get? a = some o
  | .xd fs => ∃ mA, h.Ns1 a mA /\ ∀ f, z7f (fs.lookup f) (mA f)
  | .rng lo hi => ∃ t u v, h.get? a = some { cls := .type "range", data := .fields #[.int lo t, .int hi u, .int 1 v] }
  | .frz o u => h.get? a = some o /\ x35 H h a u
  | .tbl ps => h.get? a = some { cls := .none, data := .fields ps }
  | .met f x => h.get? a = some (PySem.W.methodObj (.ref f) (.ref x))
  | .ext φ => φ h /\ (∃ o, h.get? a = some o) /\ ∀ h1 h2 : Heap, φ h1 -> (∀ o, h1.get? a = some o -> h2.get? a = some o) -> φ h2
noncomputable def HOk (H : Hp) (h : Heap) : Prop := ∀ a o, H a = some o -> x35 P w H h a o
end
section
variable {P : Program} {w : World} {H H' : Hp} {h h' : Heap} {a : Addr} {o : HO}
theorem x35.lt (x : x35 P w H h a o) : a < h.objs.size := by
  cases o with
  | lst xs => obtain ⟨_, _, _, _, e⟩ := x; exact Heap.lt_size e
  | tup xs => obtain ⟨_, _, _, p⟩ := x; exact p.lt
  | dK kvs => obtain ⟨_, _, _, _, o, _, _, e, _⟩ := x; exact Heap.lt_size e
  | dT kvs => obtain ⟨_, _, _, _, o, _, _, e, _⟩ := x; exact Heap.lt_size e
  | set S n => obtain ⟨o, _, _, _, e, _⟩ := x; exact Heap.lt_size e
  | ins C dx fs => obtain ⟨_, _, _, e, _⟩ := x; exact Heap.lt_size e
  | own y => obtain ⟨_, e⟩ := x; exact Heap.lt_size e
  | xd fs => obtain ⟨_, ⟨_, _, _, e, _⟩, _⟩ := x; exact Heap.lt_size e
  | rng lo hi => obtain ⟨_, _, _, e⟩ := x; exact Heap.lt_size e
  | frz ob u => obtain ⟨e, _⟩ := x; exact Heap.lt_size e
  | tbl ps => exact Heap.lt_size (show h.get? a = some _ from x)
  | met f y => exact Heap.lt_size (show h.get? a = some _ from x)
  | ext φ => obtain ⟨_, ⟨_, e⟩, _⟩ := x; exact Heap.lt_size e
theorem Paired.mapP {α β : Type} {F G : α -> β -> Prop} : ∀ {l₁ : List α} {l₂ : List β}, Paired F l₁ l₂ -> (∀ a b, F a b -> G a b) -> Paired G l₁ l₂
  | _, _, .nil, _ => .nil
  | _, _, .cons r t, f => .cons (f _ _ r) (Paired.mapP t f)
theorem x35.stay (x : x35 P w H h a o) (k : ∀ b u, (b = a \/ H b = some (.own a)) -> h.get? b = some u -> h'.get? b = some u)
    (ho : ∀ b, H b = some (.own a) -> H' b = some (.own a)) (ht : ∀ b xs, H b = some (.tup xs) -> H' b = some (.tup xs)) : x35 P w H' h' a o := by
  induction o with
  | lst xs => obtain ⟨z, its, n, r, e⟩ := x; exact ⟨z, its, n, r, k _ _ (.inl rfl) e⟩
  | tup xs => obtain ⟨z, its, r, ob, e, c⟩ := x; exact ⟨z, its, r, ob, k _ _ (.inl rfl) e, c⟩
  | dK kvs => obtain ⟨z, y, vs, r, ob, es, ep, e, c⟩ := x; exact ⟨z, y, vs, r, ob, es, ep, k _ _ (.inl rfl) e, c⟩
  | dT kvs =>
    obtain ⟨z, y, xs, r, ob, es, ep, e, c⟩ := x
    exact ⟨z, y, xs, Paired.mapP r fun p q z => ⟨z.1, ht _ _ z.2.1, z.2.2⟩, ob, es, ep, k _ _ (.inl rfl) e, c⟩
  | set S n => obtain ⟨ob, es, ep, t, e, c⟩ := x; exact ⟨ob, es, ep, t, k _ _ (.inl rfl) e, c⟩
  | ins C dx fs =>
    obtain ⟨d, z, ne, e, mA, ⟨od, es, ep, e2, c⟩, r⟩ := x
    exact ⟨ho _ d, z, ne, k _ _ (.inl rfl) e, mA, ⟨od, es, ep, k _ _ (.inr d) e2, c⟩, r⟩
  | own y => obtain ⟨ob, e⟩ := x; exact ⟨ob, k _ _ (.inl rfl) e⟩
  | xd fs => obtain ⟨mA, ⟨od, es, ep, e, c⟩, r⟩ := x; exact ⟨mA, ⟨od, es, ep, k _ _ (.inl rfl) e, c⟩, r⟩
  | rng lo hi => obtain ⟨t, u, v, e⟩ := x; exact ⟨t, u, v, k _ _ (.inl rfl) e⟩
  | frz ob u ih => obtain ⟨e, q⟩ := x; exact ⟨k _ _ (.inl rfl) e, ih q⟩
  | tbl ps =>
    have e : h.get? a = some { cls := .none, data := .fields ps } := x
    show h'.get? a = some { cls := .none, data := .fields ps }
    exact k a _ (.inl rfl) e
  | met f y =>
    have e : h.get? a = some (PySem.W.methodObj (.ref f) (.ref y)) := x
    show h'.get? a = some (PySem.W.methodObj (.ref f) (.ref y))
    exact k a _ (.inl rfl) e
  | ext φ => obtain ⟨p, ⟨o, e⟩, st⟩ := x; exact ⟨st _ _ p fun o q => k _ _ (.inl rfl) q, ⟨o, k _ _ (.inl rfl) e⟩, st⟩
theorem HOk.lt (x : HOk P w H h) (e : H a = some o) : a < h.objs.size := (x a o e).lt
theorem HOk.fresh (x : HOk P w H h) (e : h.objs.size <= a) : H a = none := by
  cases q : H a with
  | none => rfl
  | some u => exact absurd (Nat.lt_of_lt_of_le (x.lt q) e) (Nat.lt_irrefl _)
theorem HOk.kept (x : HOk P w H h) (k : ∀ b u, h.get? b = some u -> h'.get? b = some u) : HOk P w H h' := fun a o e =>
  (x a o e).stay (fun b u _ q => k b u q) (fun _ q => q) fun _ _ q => q
theorem HOk.laid (x : HOk P w H h) (k : ∀ b u, h.get? b = some u -> h'.get? b = some u) (hp : h.objs.size <= a) (new : x35 P w (upd H a o) h' a o) : HOk P w (upd H a o) h' := fun b u e => by
  have hn := x.fresh hp
  by_cases hb : b = a
  · subst hb; rw [x2h] at e; cases e; exact new
  · rw [x0w hb] at e
    exact (x b u e).stay (fun c v _ q => k c v q) (fun c q => by rw [x0w (x1t q hn)]; exact q) fun c xs q => by rw [x0w (x1t q hn)]; exact q
end
noncomputable def Rd (H : Hp) (a : Addr) (u : HO) : Prop := H a = some u \/ ∃ o, H a = some (.frz o u)
theorem Rd.of {H : Hp} {a : Addr} {u : HO} (h : H a = some u) : Rd H a u := .inl h
theorem Rd.ok {P : Program} {w : World} {H : Hp} {h : Heap} {a : Addr} {u : HO} (r : Rd H a u) (x : HOk P w H h) : x35 P w H h a u := by
  rcases r with r | ⟨o, r⟩
  · exact x a u r
  · obtain ⟨_, q⟩ := x a _ r
    exact q
noncomputable def Mut : Option HO -> Prop
  | some (.lst _) => True
  | some (.dK _) => True
  | some (.dT _) => True
  | some (.set _ _) => True
  | some (.ins _ _ _) => True
  | some (.ext _) => True
  | _ => False
section
variable {P : Program} {w : World} {H : Hp} {h h' : Heap} {x e : Addr} {o' : HO}
theorem HOk.write (ok : HOk P w H h) (mu : Mut (H x)) (he : e = x \/ H e = some (.own x)) (k : ∀ b u, b ≠ e -> h.get? b = some u -> h'.get? b = some u) (heo : ∃ u, h'.get? e = some u)
    (new : x35 P w (upd H x o') h' x o') : HOk P w (upd H x o') h' := fun b u q => by
  have nown : ∀ c y, H c = some (.own y) -> c ≠ x := fun c y r z => by subst z; rw [r] at mu; exact mu
  have ntup : ∀ c xs, H c = some (.tup xs) -> c ≠ x := fun c xs r z => by subst z; rw [r] at mu; exact mu
  by_cases hb : b = x
  · subst hb; rw [x2h] at q; cases q; exact new
  · rw [x0w hb] at q
    by_cases hbe : b = e
    · have q' : H b = some (.own x) := by
        rcases he with z | z
        · exact absurd (hbe.trans z) hb
        · rw [hbe]; exact z
      rw [q] at q'; cases q'
      obtain ⟨v, hv⟩ := heo
      exact ⟨v, by rw [hbe]; exact hv⟩
    · refine (ok b u q).stay (fun c v hc r => k c v ?_ r) (fun c r => by rw [x0w (nown c b r)]; exact r) fun c xs r => by rw [x0w (ntup c xs r)]; exact r
      rcases hc with rfl | hc
      · exact hbe
      · rintro rfl
        rcases he with z | z
        · exact nown c b hc z
        · rw [hc] at z; cases z; exact hb rfl
end
structure Un (fs ex : List Addr) (H H' : Hp) (h h' : Heap) : Prop where
  keep : ∀ b o, h.get? b = some o -> H b = none -> b ∉ fs -> b ∉ ex -> h'.get? b = some o
  slot : ∀ b o, h.get? b = some o -> H b = none -> b ∈ fs -> b ∉ ex -> ∃ sl, h'.get? b = some { o with slots := sl }
  free : ∀ b o, h.get? b = some o -> H b = none -> b ∉ ex -> H' b = none
  there : ∀ b o, h.get? b = some o -> b ∉ ex -> ∃ o', h'.get? b = some o'
  tups : ∀ b xs, H b = some (.tup xs) -> H' b = some (.tup xs)
  frzs : ∀ b o u, H b = some (.frz o u) -> H' b = some (.frz o u)
  tbls : ∀ b ps, H b = some (.tbl ps) -> ∃ more, H' b = some (.tbl (ps ++ more))
section
variable {fs fs' ex ex' : List Addr} {H H1 H2 : Hp} {h h1 h2 h' : Heap} {a x e : Addr} {o : HO}
theorem Un.any (u : Un fs ex H H1 h h1) {b : Addr} {ob : Obj} (q : h.get? b = some ob) (n : H b = none) (hx : b ∉ ex) : ∃ sl, h1.get? b = some { ob with slots := sl } := by
  by_cases hb : b ∈ fs
  · exact u.slot b ob q n hb hx
  · exact ⟨ob.slots, u.keep b ob q n hb hx⟩
theorem Un.kept (k : ∀ b u, h.get? b = some u -> h'.get? b = some u) : Un fs ex H H h h' :=
  ⟨fun b ob q _ _ _ => k b ob q, fun b ob q _ _ _ => ⟨ob.slots, k b ob q⟩, fun _ _ _ n _ => n, fun b ob q _ => ⟨ob, k b ob q⟩, fun _ _ q => q, fun _ _ _ q => q, fun _ ps q => ⟨#[], by rw [q]; simp⟩⟩
theorem Un.refl : Un fs ex H H h h := Un.kept fun _ _ q => q
theorem Un.laid (k : ∀ b u, h.get? b = some u -> h'.get? b = some u) (hp : h.objs.size <= a) (hn : H a = none) : Un fs ex H (upd H a o) h h' where
  keep := fun b u q _ _ _ => k b u q
  slot := fun b u q _ _ _ => ⟨u.slots, k b u q⟩
  free := fun b u q n _ => by rw [x0w (Nat.ne_of_lt (Nat.lt_of_lt_of_le (Heap.lt_size q) hp))]; exact n
  there := fun b u q _ => ⟨u, k b u q⟩
  tups := fun b xs q => by rw [x0w (x1t q hn)]; exact q
  frzs := fun b u xs q => by rw [x0w (x1t q hn)]; exact q
  tbls := fun b ps q => ⟨#[], by rw [x0w (x1t q hn), q]; simp⟩
theorem Un.write (mu : Mut (H x)) (he : e = x \/ H e = some (.own x)) (k : ∀ b u, b ≠ e -> h.get? b = some u -> h'.get? b = some u) (heo : ∃ u, h'.get? e = some u) : Un fs ex H (upd H x o) h h' := by
  have hx : ∀ b, H b = none -> b ≠ x := fun b n z => by subst z; rw [n] at mu; exact mu
  have hb : ∀ b, H b = none -> b ≠ e := fun b n z => by
    subst z
    rcases he with r | r
    · exact hx b n r
    · rw [n] at r; cases r
  have hm : ∀ b u, H b = some u -> ¬ Mut (some u) -> b ≠ x := fun b u q nm z => by subst z; rw [q] at mu; exact nm mu
  refine ⟨fun b u q n _ _ => k b u (hb b n) q, fun b u q n _ _ => ⟨u.slots, k b u (hb b n) q⟩, fun b u q n _ => by rw [x0w (hx b n)]; exact n, fun b u q _ => ?_,
    fun b xs q => by rw [x0w (hm b _ q fun z => z)]; exact q, fun b u xs q => by rw [x0w (hm b _ q fun z => z)]; exact q, fun b ps q => ⟨#[], by rw [x0w (hm b _ q fun z => z), q]; simp⟩⟩
  by_cases hbe : b = e
  · subst hbe; exact heo
  · exact ⟨u, k b u hbe q⟩
end
noncomputable def trk (h : Heap) (H : Hp) : List Addr := (List.range h.objs.size).filter fun a => (H a).isSome
noncomputable def y9n (h : Heap) (H : Hp) : Heap := PySem.W.hideAll h (trk h H)
theorem y5x (h : Heap) (H : Hp) : (y9n h H).objs.size = h.objs.size := PySem.W.hideAll_size _ _
theorem y9y {h : Heap} {H : Hp} {b : Addr} {o : Obj} (e : h.get? b = some o) (n : H b = none) : (y9n h H).get? b = some o :=
  PySem.W.hideAll_get _ e fun hm => by
    have q : (H b).isSome = true := (List.mem_filter.mp hm).2
    rw [n] at q; simp at q
theorem z1x {h : Heap} {H : Hp} {b : Addr} {o : Obj} (e : (y9n h H).get? b = some o) : h.get? b = some o /\ H b = none := by
  have e' : h.get? b = some o := PySem.W.of_hideAll (trk h H) e
  refine ⟨e', ?_⟩
  cases q : H b with
  | none => rfl
  | some x =>
    have hm : b ∈ trk h H := List.mem_filter.mpr ⟨List.mem_range.mpr (Heap.lt_size e'), by simp [q]⟩
    have z : (y9n h H).get? b = none := PySem.W.hideAll_none (trk h H) hm
    rw [z] at e; cases e
noncomputable def z2d (g h : Heap) (L : Addr) : List (Addr × Obj) := (List.range h.objs.size).filterMap fun a => if a = L \/ (g.get? a).isSome = true then none else (h.get? a).map fun o => (a, o)
noncomputable def x2n (g h : Heap) (L d : Addr) : List (Addr × Obj) := (z2d g h L).filter fun p => decide (p.1 ≠ d)
structure Mod (K : PySem.W.Frag) (mg : Str -> Option Value) (base : Heap) : Prop where
  kin : K.In base
  glob : base.Ns mainGlobals mg
  blt : ∃ mb, base.Ns builtinsNs mb /\ ∀ x : Str, x ≠ "__name__" -> mb x = bootBuiltins x
  nolimit : base.NoLimit
structure Cx where
  prog : Program
  w : World
  K : PySem.W.Frag
  mg : Str -> Option Value
  base : Heap
  A : Around
  N : List Str
  s₀ : Shared
  H₀ : Hp
  env : Env
  outer : List Env
  stack : List Env
  ex : List Addr
  fn : Str -> Bool
  calm : Bool
  pn : List (Addr × Obj)
  xe : Value -> Shared -> Prop
noncomputable def frs (l : List Env) : List Addr := l.filterMap (·.frame)
noncomputable abbrev Cx.fs (X : Cx) : List Addr := frs X.outer
noncomputable def Vis (sc : Scope) (x : Str) : Prop := sc.names.lookup x = some .local \/ sc.names.lookup x = some .cell \/ sc.names.lookup x = some .free
noncomputable def Loc (sc : Scope) (x : Str) : Prop := sc.names.lookup x = some .local \/ sc.names.lookup x = some .cell
noncomputable def z8s (env : Env) (h : Heap) (m : Str -> Option Value) (x : Str) (u : Value) : Prop :=
  (env.kindOf x = some .local /\ m x = some u) \/ ((env.kindOf x = some .cell \/ env.kindOf x = some .free) /\ ∃ c, env.cells.lookup x = some c /\ h.IsCell c (some u))
structure Cx.Ok (X : Cx) : Prop where
  mod : Mod X.K X.mg X.base
  kind : X.env.scope.kind = .function
  glob : X.env.globals = mainGlobals
  blt : X.env.builtins = builtinsNs
  above : X.s₀.heap.objs.size <= X.env.locals
  inj : ∀ x y c, X.env.cells.lookup x = some c -> X.env.cells.lookup y = some c -> x = y
  has : ∀ x, (X.env.kindOf x = some .cell \/ X.env.kindOf x = some .free) -> ∃ c, X.env.cells.lookup x = some c
  cab : ∀ x c, X.fn x = true -> X.env.cells.lookup x = some c -> X.s₀.heap.objs.size <= c
  hd : X.calm = true -> X.A.handled = none
  frames : X.A.frames = some X.stack
  stk : X.stack = X.outer \/ (X.stack = X.env :: X.outer /\ X.env.frame = some X.env.locals)
  exf : ∀ b ∈ X.ex, b ≠ X.env.locals /\ ∀ x c, X.env.cells.lookup x = some c -> c ≠ b
  bs : ∀ b o, X.base.get? b = some o -> X.s₀.heap.get? b = some o /\ X.H₀ b = none
  bsz : X.base.objs.size <= X.s₀.heap.objs.size
  noex : ∀ b o, X.base.get? b = some o -> b ∉ X.ex
  exfs : ∀ b ∈ X.ex, b ∉ X.fs
  funs : X.s₀.heap.FunFrames X.base X.outer
  frf : ∀ b ∈ X.fs, X.H₀ b = none
structure Inv (X : Cx) (pins : List (Addr × Obj)) (σ : List (Option V)) (H : Hp) (s : Shared) : Prop where
  ok : X.Ok
  os : s.os = X.s₀.os
  bare : AllBare s.gens
  base : Un X.fs X.ex X.H₀ H X.s₀.heap s.heap
  loc : ∃ m, s.heap.Ns X.env.locals m /\ ∀ (i : Nat) (x : Str) (v : V), X.N[i]? = some x -> σ[i]? = some (some v) -> Vis X.env.scope x -> ∃ u, x4b v u /\ z8s X.env s.heap m x u
  cell : ∀ x c, X.env.cells.lookup x = some c -> ∃ v, s.heap.IsCell c v
  free : H X.env.locals = none
  freeC : ∀ x c, X.env.cells.lookup x = some c -> H c = none
  pin : ∀ p ∈ X.pn ++ pins, s.heap.get? p.1 = some p.2 /\ H p.1 = none /\ p.1 ≠ X.env.locals /\ p.1 ∉ X.fs /\ ∀ v, p.2.data ≠ .cell v
  hok : HOk X.prog X.w H s.heap
  len : σ.length = X.N.length
section
variable {X : Cx} {pins : List (Addr × Obj)} {σ : List (Option V)} {H H' : Hp} {s : Shared} {h' : Heap}
theorem Cx.Ok.nofr (ok : X.Ok) {b : Addr} {o : Obj} (e : X.base.get? b = some o) : b ∉ X.fs := fun hb => by
  have := (ok.funs.mem hb).1
  rw [e] at this; cases this
theorem Inv.bs (I : Inv X pins σ H s) : ∀ b o, X.base.get? b = some o -> s.heap.get? b = some o /\ H b = none := fun b o e =>
  ⟨I.base.keep b o (I.ok.bs b o e).1 (I.ok.bs b o e).2 (I.ok.nofr e) (I.ok.noex b o e), I.base.free b o (I.ok.bs b o e).1 (I.ok.bs b o e).2 (I.ok.noex b o e)⟩
theorem Inv.bk (I : Inv X pins σ H s) : ∀ b o, X.base.get? b = some o -> s.heap.get? b = some o := fun b o e => (I.bs b o e).1
theorem Inv.mod (I : Inv X pins σ H s) : Mod X.K X.mg X.base := I.ok.mod
theorem Inv.kIn (I : Inv X pins σ H s) : X.K.In s.heap := I.ok.mod.kin.keeps I.bk
theorem Inv.fr (I : Inv X pins σ H s) : ∃ m, Fr X.base X.env.locals s.heap m :=
  let ⟨m, hn, _⟩ := I.loc
  ⟨m, hn, I.bk, Nat.le_trans I.ok.bsz I.ok.above⟩
theorem Inv.lt (I : Inv X pins σ H s) : X.env.locals < s.heap.objs.size := let ⟨_, hn, _⟩ := I.loc; hn.lt
theorem Inv.sz (I : Inv X pins σ H s) : X.s₀.heap.objs.size <= s.heap.objs.size := Nat.le_trans I.ok.above (Nat.le_of_lt I.lt)
theorem Inv.nofs (I : Inv X pins σ H s) {a : Addr} (h : s.heap.objs.size <= a) : a ∉ X.fs := fun hb => by
  obtain ⟨_, o, ho, _⟩ := I.ok.funs.mem hb
  exact absurd (Nat.lt_of_lt_of_le (Heap.lt_size ho) (Nat.le_trans I.sz h)) (Nat.lt_irrefl _)
theorem Inv.cne (I : Inv X pins σ H s) : ∀ x c, X.env.cells.lookup x = some c -> c ≠ X.env.locals := fun x c e z => by
  obtain ⟨v, o, ho, hd⟩ := I.cell x c e
  obtain ⟨m, ⟨o', es, ep, ho', hd', _⟩, _⟩ := I.loc
  rw [z, ho'] at ho; cases ho; rw [hd'] at hd; cases hd
theorem Inv.funs (I : Inv X pins σ H s) : s.heap.FunFrames X.base X.outer := by
  have all : ∀ (l : List Env), (∀ b ∈ frs l, b ∈ X.fs) -> X.s₀.heap.FunFrames X.base l -> s.heap.FunFrames X.base l := by
    intro l
    induction l with
    | nil => intro _ _; trivial
    | cons env r ih =>
      intro hs hl
      obtain ⟨hk, ⟨L, o, hf, hn, ho, hd⟩, hr⟩ := hl
      have hL : L ∈ X.fs := hs L (by unfold frs; rw [List.filterMap_cons, hf]; exact List.mem_cons_self)
      obtain ⟨sl, e⟩ := I.base.slot L o ho (I.ok.frf L hL) hL fun z => I.ok.exfs L z hL
      exact ⟨hk, ⟨L, _, hf, hn, e, hd⟩, ih (fun b hb => hs b (by unfold frs; rw [List.filterMap_cons, hf]; exact List.mem_cons_of_mem _ hb)) hr⟩
  exact all X.outer (fun _ hb => hb) I.ok.funs
theorem Inv.stack (I : Inv X pins σ H s) : s.heap.FunFrames X.base X.stack := by
  rcases I.ok.stk with e | ⟨e, hf⟩
  · rw [e]; exact I.funs
  · rw [e]
    obtain ⟨m, hn, _⟩ := I.loc
    refine .cons (by rw [I.ok.kind]; decide) hf hn ?_ I.funs
    exact Heap.get?_none_of_le (Nat.le_trans I.ok.bsz I.ok.above)
theorem Inv.stkSub (I : Inv X pins σ H s) : ∀ b ∈ frs X.stack, b ∈ X.env.locals :: X.fs := fun b hb => by
  rcases I.ok.stk with e | ⟨e, hf⟩
  · rw [e] at hb; exact List.mem_cons_of_mem _ hb
  · rw [e] at hb
    unfold frs at hb
    rw [List.filterMap_cons, hf] at hb
    exact hb
theorem Inv.stkFree (I : Inv X pins σ H s) : ∀ b ∈ frs X.stack, H b = none := fun b hb => by
  rcases List.mem_cons.mp (I.stkSub b hb) with e | hb
  · rw [e]; exact I.free
  · obtain ⟨_, o, ho, _⟩ := I.ok.funs.mem hb
    exact I.base.free b o ho (I.ok.frf b hb) fun z => I.ok.exfs b z hb
theorem Inv.step {g' : Array GenState} {t' : Nat} {d' : Drawn} {ch : List Addr} (I : Inv X pins σ H s)
    (hch : ∀ b ∈ ch, (b ∈ X.ex \/ X.s₀.heap.objs.size <= b) /\ b ≠ X.env.locals /\ (∀ x c, X.env.cells.lookup x = some c -> c ≠ b) /\ ∀ p ∈ X.pn ++ pins, p.1 ≠ b)
    (keep : ∀ b o, b ≠ X.env.locals -> b ∉ X.fs -> b ∉ ch -> s.heap.get? b = some o -> H b = none -> h'.get? b = some o)
    (slot : ∀ b o, b ≠ X.env.locals -> b ∈ X.fs -> b ∉ ch -> s.heap.get? b = some o -> H b = none -> ∃ sl, h'.get? b = some { o with slots := sl }) (free : ∀ b o, b ∉ ch -> s.heap.get? b = some o -> H b = none -> H' b = none)
    (there : ∀ b o, b ∉ ch -> s.heap.get? b = some o -> ∃ o', h'.get? b = some o')
    (tups : ∀ b xs, H b = some (.tup xs) -> H' b = some (.tup xs)) (frzs : ∀ b o u, H b = some (.frz o u) -> H' b = some (.frz o u)) (tbls : ∀ b ps, H b = some (.tbl ps) -> ∃ more, H' b = some (.tbl (ps ++ more)))
    (ns : ∀ m, s.heap.Ns X.env.locals m -> h'.Ns X.env.locals m) (hok : HOk X.prog X.w H' h') (hg : AllBare g') :
    Inv X pins σ H' { s with heap := h', gens := g', drawn := d', toks := t' } := by
  have neL : ∀ b o, X.s₀.heap.get? b = some o -> b ≠ X.env.locals := fun b o e => Nat.ne_of_lt (Nat.lt_of_lt_of_le (Heap.lt_size e) I.ok.above)
  have neC : ∀ b o, X.s₀.heap.get? b = some o -> b ∉ X.ex -> b ∉ ch := fun b o e hx hb => by
    rcases (hch b hb).1 with z | z
    · exact hx z
    · exact absurd (Nat.lt_of_lt_of_le (Heap.lt_size e) z) (Nat.lt_irrefl _)
  have cellK : ∀ x c, X.env.cells.lookup x = some c -> ∀ v, s.heap.IsCell c v -> h'.IsCell c v := fun x c e v hh0 => by
    obtain ⟨o, ho, hd⟩ := hh0
    have nch : c ∉ ch := fun z => (hch c z).2.2.1 x c e rfl
    by_cases hc : c ∈ X.fs
    · obtain ⟨sl, q⟩ := slot c o (I.cne x c e) hc nch ho (I.freeC x c e)
      exact ⟨_, q, hd⟩
    · exact ⟨o, keep c o (I.cne x c e) hc nch ho (I.freeC x c e), hd⟩
  refine ⟨I.ok, I.os, hg, ⟨fun b o e n hb hx => ?_, fun b o e n hb hx => ?_, fun b o e n hx => ?_, fun b o e hx => ?_, fun b xs e => tups b xs (I.base.tups b xs e), fun b o xs e => frzs b o xs (I.base.frzs b o xs e), fun b ps e => ?_⟩, ?_, fun x c e => ?_, ?_, fun x c e => ?_, fun p hp => ?_, hok, I.len⟩
  · exact keep b o (neL b o e) hb (neC b o e hx) (I.base.keep b o e n hb hx) (I.base.free b o e n hx)
  · obtain ⟨sl, e1⟩ := I.base.slot b o e n hb hx
    obtain ⟨sl', e2⟩ := slot b _ (neL b o e) hb (neC b o e hx) e1 (I.base.free b o e n hx)
    exact ⟨sl', e2⟩
  · obtain ⟨o', e1⟩ := I.base.there b o e hx
    exact free b o' (neC b o e hx) e1 (I.base.free b o e n hx)
  · obtain ⟨o', e1⟩ := I.base.there b o e hx
    exact there b o' (neC b o e hx) e1
  · obtain ⟨m1, e1⟩ := I.base.tbls b ps e
    obtain ⟨m2, e2⟩ := tbls b _ e1
    exact ⟨m1 ++ m2, by rw [e2, Array.append_assoc]⟩
  · obtain ⟨m, hn, hl⟩ := I.loc
    refine ⟨m, ns m hn, fun i x v e1 e2 e3 => ?_⟩
    obtain ⟨u, r, l⟩ := hl i x v e1 e2 e3
    refine ⟨u, r, ?_⟩
    rcases l with l | ⟨k, c, e, z⟩
    · exact .inl l
    · exact .inr ⟨k, c, e, cellK x c e _ z⟩
  · obtain ⟨v, z⟩ := I.cell x c e
    exact ⟨v, cellK x c e v z⟩
  · obtain ⟨m, ⟨o, _, _, ho, _⟩, _⟩ := I.loc
    exact free _ o (fun z => (hch _ z).2.1 rfl) ho I.free
  · obtain ⟨v, o, ho, hd⟩ := I.cell x c e
    exact free c o (fun z => (hch c z).2.2.1 x c e rfl) ho (I.freeC x c e)
  · obtain ⟨e, n, ne, nf, d⟩ := I.pin p hp
    have nch : p.1 ∉ ch := fun z => (hch p.1 z).2.2.2 p hp rfl
    exact ⟨keep p.1 p.2 ne nf nch e n, free p.1 p.2 nch e n, ne, nf, d⟩
theorem Inv.un {t' : Nat} (I : Inv X pins σ H s) (u : Un X.fs [] H H' s.heap h') (hok : HOk X.prog X.w H' h') : Inv X pins σ H' { s with heap := h', toks := t' } := by
  obtain ⟨m, ⟨o, es, ep, ho, r⟩, _⟩ := id I.loc
  obtain ⟨sl, hL⟩ := u.any ho I.free (by simp)
  exact I.step (g' := s.gens) (d' := s.drawn) (ch := []) (fun _ z => nomatch z) (fun b o _ hb _ e n => u.keep b o e n hb (by simp)) (fun b o _ hb _ e n => u.slot b o e n hb (by simp)) (fun b o _ e n => u.free b o e n (by simp)) (fun b o _ e => u.there b o e (by simp)) u.tups u.frzs u.tbls (fun m' hm => by
    obtain ⟨o', es', ep', ho', r'⟩ := hm
    rw [ho] at ho'; cases ho'
    exact ⟨_, es', ep', hL, r'⟩) hok I.bare
theorem Inv.call {g' : Array GenState} {t' : Nat} {d' : Drawn} {ch : List Addr} (I : Inv X pins σ H s) (u : Un (frs X.stack) ch H H' s.heap h') (hok : HOk X.prog X.w H' h') (hg : AllBare g')
    (hch : ∀ b ∈ ch, (b ∈ X.ex \/ X.s₀.heap.objs.size <= b) /\ b ≠ X.env.locals /\ (∀ x c, X.env.cells.lookup x = some c -> c ≠ b) /\ ∀ p ∈ X.pn ++ pins, p.1 ≠ b) :
    Inv X pins σ H' { s with heap := h', gens := g', drawn := d', toks := t' } := by
  obtain ⟨m, ⟨o, es, ep, ho, r⟩, _⟩ := id I.loc
  obtain ⟨sl, hL⟩ := u.any ho I.free fun z => (hch _ z).2.1 rfl
  exact I.step (ch := ch) hch (fun b o hL hb hc e n => u.keep b o e n (fun z => (List.mem_cons.mp (I.stkSub b z)).elim hL hb) hc) (fun b o _ _ hc e n => u.any e n hc) (fun b o hc e n => u.free b o e n hc) (fun b o hc e => u.there b o e hc) u.tups u.frzs u.tbls (fun m' hm => by
    obtain ⟨o', es', ep', ho', r'⟩ := hm
    rw [ho] at ho'; cases ho'
    exact ⟨_, es', ep', hL, r'⟩) hok hg
theorem Inv.turned {t' : Nat} {it : Addr} (I : Inv X pins σ H s) (k : ∀ b o, b ≠ it -> s.heap.get? b = some o -> h'.get? b = some o) (hn : H it = none) (hL : it ≠ X.env.locals)
    (h1 : it ∈ X.ex \/ X.s₀.heap.objs.size <= it) (h2 : ∀ x c, X.env.cells.lookup x = some c -> c ≠ it) (h3 : ∀ p ∈ X.pn ++ pins, p.1 ≠ it) : Inv X pins σ H { s with heap := h', toks := t' } := by
  have nit : ∀ b u, H b = some u -> b ≠ it := fun b u e z => by rw [z, hn] at e; cases e
  refine I.step (g' := s.gens) (d' := s.drawn) (ch := [it]) (fun b hb => ?_) (fun b o _ _ hc e _ => k b o (fun z => hc (by simp [z])) e) (fun b o _ _ hc e _ => ⟨o.slots, k b o (fun z => hc (by simp [z])) e⟩) (fun _ _ _ _ n => n)
    (fun b o hc e => ⟨o, k b o (fun z => hc (by simp [z])) e⟩) (fun _ _ e => e) (fun _ _ _ e => e) (fun b ps e => ⟨#[], by rw [e]; simp⟩) (fun m hm => ?_) (fun b u e => ?_) I.bare
  · have e : b = it := by simpa using hb
    subst e
    exact ⟨h1, hL, h2, h3⟩
  · obtain ⟨o, es, ep, ho, r⟩ := hm
    exact ⟨o, es, ep, k _ o (Ne.symm hL) ho, r⟩
  · refine (I.hok b u e).stay (fun c v hc q => k c v ?_ q) (fun _ q => q) fun _ _ q => q
    rcases hc with z | z
    · rw [z]; exact nit b u e
    · exact nit c _ z
theorem Inv.tok (I : Inv X pins σ H s) (t : Nat) : Inv X pins σ H { s with toks := t } := I.un (h' := s.heap) (t' := t) Un.refl I.hok
theorem Inv.kept {t' : Nat} (I : Inv X pins σ H s) (k : ∀ b u, s.heap.get? b = some u -> h'.get? b = some u) : Inv X pins σ H { s with heap := h', toks := t' } := I.un (Un.kept k) (I.hok.kept k)
theorem Inv.laid {a : Addr} {o : HO} {t' : Nat} (I : Inv X pins σ H s) (k : ∀ b u, s.heap.get? b = some u -> h'.get? b = some u) (hp : s.heap.objs.size <= a) (new : x35 X.prog X.w (upd H a o) h' a o) :
    Inv X pins σ (upd H a o) { s with heap := h', toks := t' } := I.un (Un.laid k hp (I.hok.fresh hp)) (I.hok.laid k hp new)
theorem Inv.write {x e : Addr} {o : HO} {t' : Nat} (I : Inv X pins σ H s) (mu : Mut (H x)) (he : e = x \/ H e = some (.own x)) (k : ∀ b u, b ≠ e -> s.heap.get? b = some u -> h'.get? b = some u) (heo : ∃ u, h'.get? e = some u)
    (new : x35 X.prog X.w (upd H x o) h' x o) : Inv X pins σ (upd H x o) { s with heap := h', toks := t' } := I.un (Un.write mu he k heo) (I.hok.write mu he k heo new)
theorem Inv.weak {σ' : List (Option V)} (I : Inv X pins σ H s) (hl : σ'.length = σ.length) (w : ∀ (i : Nat) v, σ'[i]? = some (some v) -> σ[i]? = some (some v)) : Inv X pins σ' H s :=
  ⟨I.ok, I.os, I.bare, I.base, let ⟨m, hn, hl'⟩ := I.loc; ⟨m, hn, fun i x v e1 e2 e3 => hl' i x v e1 (w i v e2) e3⟩, I.cell, I.free, I.freeC, I.pin, I.hok, hl.trans I.len⟩
theorem Inv.pins_of {pins' : List (Addr × Obj)} (I : Inv X pins σ H s) (h : ∀ p ∈ pins', s.heap.get? p.1 = some p.2 /\ H p.1 = none /\ p.1 ≠ X.env.locals /\ p.1 ∉ X.fs /\ ∀ v, p.2.data ≠ .cell v) : Inv X pins' σ H s :=
  ⟨I.ok, I.os, I.bare, I.base, I.loc, I.cell, I.free, I.freeC, fun p hp => (List.mem_append.mp hp).elim (fun z => I.pin p (List.mem_append_left _ z)) (h p), I.hok, I.len⟩
theorem y0n {N : List Str} (hN : N.Nodup) {i j : Nat} {x : Str} (a : N[i]? = some x) (b : N[j]? = some x) : i = j := by
  obtain ⟨h1, e1⟩ := List.getElem?_eq_some_iff.mp a
  obtain ⟨h2, e2⟩ := List.getElem?_eq_some_iff.mp b
  exact (List.getElem_inj hN).mp (e1.trans e2.symm)
theorem y2c {M : Model} {A : Around} {E : Value -> Shared -> Prop} {i : Nat} {x : Str} {v : V} {u : Value} {Q : Unit -> Shared -> Prop} (I : Inv X pins σ H s) (hN : X.N.Nodup) (hi : X.N[i]? = some x) (hx : Loc X.env.scope x) (r : x4b v u)
    (h : ∀ s', Inv X pins (σ.set i (some v)) H s' -> (∃ a, Heap.SameBut a s.heap s'.heap /\ (a = X.env.locals \/ X.env.cells.lookup x = some a)) -> Q () s') (hf : X.fn x = true \/ X.env.scope.names.lookup x = some .local := by first | exact .inl rfl | exact .inr rfl | assumption) : wpAny M A (storeName X.env x u) Q E s := by
  obtain ⟨m, hn, hl⟩ := id I.loc
  have hcls : (X.env.scope.kind == .class || (X.env.scope.kind == .module && X.env.locals != X.env.globals)) = false := by rw [I.ok.kind]; rfl
  have hiσ : i < σ.length := by rw [I.len]; exact (List.getElem?_eq_some_iff.mp hi).1
  have cne := I.cne
  have tracked : ∀ {a : Addr} {h' : Heap}, (∃ o, s.heap.get? a = some o /\ H a = none) -> Heap.SameBut a s.heap h' -> HOk X.prog X.w H h' := fun {a h'} ha hs b ob e => by
    obtain ⟨_, _, hfree⟩ := ha
    refine (I.hok b ob e).stay (fun c w' hc q => (hs.2 c ?_).trans q) (fun _ q => q) fun _ _ q => q
    rintro rfl
    rcases hc with rfl | hc
    · rw [hfree] at e; cases e
    · rw [hfree] at hc; cases hc
  rcases hx with hk | hk
  · refine wpAny_storeName_local hk hn (fun h' hn' hs => ?_) hcls
    obtain ⟨oL, _, _, hoL, _⟩ := id hn
    refine h _ ⟨I.ok, I.os, I.bare, ⟨fun b o e n hb hx => ?_, fun b o e n hb hx => ?_, I.base.free, fun b o e hx => ?_, I.base.tups, I.base.frzs, I.base.tbls⟩, ⟨_, hn', fun j y v' e1 e2 e3 => ?_⟩, fun y c e => ?_, I.free, I.freeC, fun p hp => ?_, tracked ⟨oL, hoL, I.free⟩ hs, by simpa using I.len⟩ ⟨_, hs, .inl rfl⟩
    · exact (hs.2 b (Nat.ne_of_lt (Nat.lt_of_lt_of_le (Heap.lt_size e) I.ok.above))).trans (I.base.keep b o e n hb hx)
    · obtain ⟨sl, e1⟩ := I.base.slot b o e n hb hx
      exact ⟨sl, (hs.2 b (Nat.ne_of_lt (Nat.lt_of_lt_of_le (Heap.lt_size e) I.ok.above))).trans e1⟩
    · obtain ⟨o', e1⟩ := I.base.there b o e hx
      exact ⟨o', (hs.2 b (Nat.ne_of_lt (Nat.lt_of_lt_of_le (Heap.lt_size e) I.ok.above))).trans e1⟩
    · by_cases hj : j = i
      · subst hj
        rw [hi] at e1; cases e1
        rw [List.getElem?_set_self hiσ] at e2
        cases e2
        exact ⟨u, r, .inl ⟨hk, by simp⟩⟩
      · rw [List.getElem?_set_ne (Ne.symm hj)] at e2
        obtain ⟨u', r', q⟩ := hl j y v' e1 e2 e3
        refine ⟨u', r', ?_⟩
        rcases q with ⟨k, e⟩ | ⟨k, c, e, z⟩
        · refine .inl ⟨k, ?_⟩
          have : y ≠ x := fun e => hj (y0n hN e1 (e ▸ hi))
          simp [this, e]
        · exact .inr ⟨k, c, e, z.sameBut hs (cne y c e)⟩
    · obtain ⟨w', z⟩ := I.cell y c e
      exact ⟨w', z.sameBut hs (cne y c e)⟩
    · obtain ⟨e, n, ne, nf, d⟩ := I.pin p hp
      exact ⟨(hs.2 p.1 ne).trans e, n, ne, nf, d⟩
  · have hfn : X.fn x = true := by
      rcases hf with z | z
      · exact z
      · rw [z] at hk; cases hk
    obtain ⟨c, hc⟩ := I.ok.has x (.inl hk)
    obtain ⟨w', z⟩ := I.cell x c hc
    refine wpAny_storeName_cell I.ok.kind hk hc z (fun h' hc' hs => ?_)
    obtain ⟨oc, hoc, hocd⟩ := id z
    refine h { s with heap := h' } ⟨I.ok, I.os, I.bare, ⟨fun b o e n hb hx => ?_, fun b o e n hb hx => ?_, I.base.free, fun b o e hx => ?_, I.base.tups, I.base.frzs, I.base.tbls⟩, ⟨m, hn.sameBut hs (Ne.symm (cne x c hc)), fun j y v' e1 e2 e3 => ?_⟩, fun y c' e => ?_, I.free, I.freeC, fun p hp => ?_, tracked ⟨oc, hoc, I.freeC x c hc⟩ hs, by simpa using I.len⟩ ⟨c, hs, .inr hc⟩
    · exact (hs.2 b (Nat.ne_of_lt (Nat.lt_of_lt_of_le (Heap.lt_size e) (I.ok.cab x c hfn hc)))).trans (I.base.keep b o e n hb hx)
    · obtain ⟨sl, e1⟩ := I.base.slot b o e n hb hx
      exact ⟨sl, (hs.2 b (Nat.ne_of_lt (Nat.lt_of_lt_of_le (Heap.lt_size e) (I.ok.cab x c hfn hc)))).trans e1⟩
    · obtain ⟨o', e1⟩ := I.base.there b o e hx
      exact ⟨o', (hs.2 b (Nat.ne_of_lt (Nat.lt_of_lt_of_le (Heap.lt_size e) (I.ok.cab x c hfn hc)))).trans e1⟩
    · by_cases hj : j = i
      · subst hj
        rw [hi] at e1; cases e1
        rw [List.getElem?_set_self hiσ] at e2
        cases e2
        exact ⟨u, r, .inr ⟨.inl hk, c, hc, hc'⟩⟩
      · rw [List.getElem?_set_ne (Ne.symm hj)] at e2
        obtain ⟨u', r', q⟩ := hl j y v' e1 e2 e3
        refine ⟨u', r', ?_⟩
        rcases q with q | ⟨k, c', e, z'⟩
        · exact .inl q
        · refine .inr ⟨k, c', e, z'.sameBut hs ?_⟩
          rintro rfl
          exact hj (y0n hN e1 (I.ok.inj _ _ _ e hc ▸ hi))
    · by_cases hcc : c' = c
      · subst hcc; exact ⟨_, hc'⟩
      · obtain ⟨w2, z2⟩ := I.cell y c' e
        exact ⟨w2, z2.sameBut hs hcc⟩
    · obtain ⟨e, n, ne, nf, d⟩ := I.pin p hp
      refine ⟨(hs.2 p.1 ?_).trans e, n, ne, nf, d⟩
      intro q
      rw [q, hoc] at e
      have q' : oc = p.2 := Option.some.inj e
      exact d w' (by rw [<- q']; exact hocd)
theorem y0j {M : Model} {A : Around} {E : Value -> Shared -> Prop} {i : Nat} {x : Str} {v : V} {u : Value} {Q : Unit -> Shared -> Prop} (I : Inv X pins σ H s) (hN : X.N.Nodup) (hi : X.N[i]? = some x) (hx : Loc X.env.scope x) (r : x4b v u)
    (h : ∀ s', Inv X pins (σ.set i (some v)) H s' -> Q () s') (hf : X.fn x = true \/ X.env.scope.names.lookup x = some .local := by first | exact .inl rfl | exact .inr rfl | assumption) : wpAny M A (storeName X.env x u) Q E s :=
  y2c I hN hi hx r (fun s' I' _ => h s' I') hf
theorem Inv.call' {s' : Shared} {ch : List Addr} (I : Inv X pins σ H s) (ho : s'.os = s.os) (u : Un (frs X.stack) ch H H' s.heap s'.heap) (hok : HOk X.prog X.w H' s'.heap) (hg : AllBare s'.gens)
    (hch : ∀ b ∈ ch, (b ∈ X.ex \/ X.s₀.heap.objs.size <= b) /\ b ≠ X.env.locals /\ (∀ x c, X.env.cells.lookup x = some c -> c ≠ b) /\ ∀ p ∈ X.pn ++ pins, p.1 ≠ b) : Inv X pins σ H' s' := by
  obtain ⟨h', g', d', t', o'⟩ := s'
  have e : o' = s.os := ho
  subst e
  exact I.call (g' := g') (t' := t') (d' := d') u hok hg hch
end
noncomputable abbrev XK := Value -> Option Addr -> Hp -> Prop
noncomputable abbrev St := List (Option V)
noncomputable abbrev VK := V -> Hp -> Prop
noncomputable abbrev TE := St -> Hp -> VK -> Prop
noncomputable abbrev TT := St -> Hp -> (Bool -> Hp -> Prop) -> Prop
noncomputable abbrev TA := St -> Hp -> (List V -> Hp -> Prop) -> Prop
structure Ends where
  nx : St -> Hp -> Prop
  rt : VK
  bk : St -> Hp -> Prop := fun _ _ => False
  ct : St -> Hp -> Prop := fun _ _ => False
noncomputable abbrev TS := Ends -> St -> Hp -> Prop
noncomputable def EP (X : Cx) (pins : List (Addr × Obj)) (σ : St) (Q : VK) (u : Value) (s' : Shared) : Prop := ∃ v H', Inv X pins σ H' s' /\ x4b v u /\ Q v H'
noncomputable def TP (X : Cx) (pins : List (Addr × Obj)) (σ : St) (Q : Bool -> Hp -> Prop) (b : Bool) (s' : Shared) : Prop := ∃ H', Inv X pins σ H' s' /\ Q b H'
noncomputable def AP (X : Cx) (pins : List (Addr × Obj)) (σ : St) (Q : List V -> Hp -> Prop) (us : List Value) (s' : Shared) : Prop := ∃ vs H', Inv X pins σ H' s' /\ x2m vs us /\ Q vs H'
noncomputable def SP (X : Cx) (pins : List (Addr × Obj)) (D : Ends) (f : Flow) (s' : Shared) : Prop :=
  match f with
  | .next => ∃ σ' H', Inv X pins σ' H' s' /\ D.nx σ' H'
  | .brk => ∃ σ' H', Inv X pins σ' H' s' /\ D.bk σ' H'
  | .cont => ∃ σ' H', Inv X pins σ' H' s' /\ D.ct σ' H'
  | .ret u => ∃ v σ' H', Inv X pins σ' H' s' /\ x4b v u /\ D.rt v H'
noncomputable def PE (X : Cx) (e : Expr) (t : TE) : Prop :=
  ∀ (pins : List (Addr × Obj)) (s : Shared) (σ : St) (H : Hp) (Q : VK), Inv X pins σ H s -> t σ H Q -> wpAny (model X.prog X.w) X.A (eval e X.env) (EP X pins σ Q) X.xe s
noncomputable def PT (X : Cx) (e : Expr) (t : TT) : Prop :=
  ∀ (pins : List (Addr × Obj)) (s : Shared) (σ : St) (H : Hp) (Q : Bool -> Hp -> Prop), Inv X pins σ H s -> t σ H Q -> wpAny (model X.prog X.w) X.A (isTrue e X.env (eval e X.env)) (TP X pins σ Q) X.xe s
noncomputable def PW (X : Cx) (e : Expr) (t : TT) : Prop :=
  ∀ (whole : Sem Value) (pins : List (Addr × Obj)) (s : Shared) (σ : St) (H : Hp) (Q : Bool -> Hp -> Prop), Inv X pins σ H s -> t σ H Q -> wpAny (model X.prog X.w) X.A (isTrue e X.env whole) (TP X pins σ Q) X.xe s
theorem PW.pt {X : Cx} {e : Expr} {t : TT} (h : PW X e t) : PT X e t := h _
noncomputable def PA (X : Cx) (es : List Expr) (t : TA) : Prop :=
  ∀ (pos : Pos) (pins : List (Addr × Obj)) (s : Shared) (σ : St) (H : Hp) (Q : List V -> Hp -> Prop), Inv X pins σ H s -> t σ H Q -> wpAny (model X.prog X.w) X.A (spliced (backTo pos (starEach es X.env))) (AP X pins σ Q) X.xe s
noncomputable def PS (X : Cx) (st : Stmt) (t : TS) : Prop :=
  ∀ (pins : List (Addr × Obj)) (s : Shared) (σ : St) (H : Hp) (D : Ends), Inv X pins σ H s -> t D σ H -> wpAny (model X.prog X.w) X.A (exec st X.env) (SP X pins D) X.xe s
noncomputable def PSs (X : Cx) (st : List Stmt) (t : TS) : Prop :=
  ∀ (pins : List (Addr × Obj)) (s : Shared) (σ : St) (H : Hp) (D : Ends), Inv X pins σ H s -> t D σ H -> wpAny (model X.prog X.w) X.A (execs st X.env) (SP X pins D) X.xe s
theorem thn {α : Type} {t : Sem α} {Q Q' : α -> Shared -> Prop} {M : Model} {A : Around} {E : Value -> Shared -> Prop} {s : Shared} (h : wpAny M A t Q E s) (hQ : ∀ a s, Q a s -> Q' a s) : wpAny M A t Q' E s := wpAny_mono h hQ fun _ _ x => x
section
variable {X : Cx}
noncomputable def x9i (i : Nat) : TE := fun σ H Q => ∃ v, σ[i]? = some (some v) /\ Q v H
noncomputable def tC (v : V) : TE := fun _ H Q => Q v H
theorem z6f {i : Nat} {x : Str} {pos : Pos} (hN : X.N[i]? = some x) (hv : Vis X.env.scope x) (hd : (x == ("__debug__" : Str)) = false := by decide) (hcd : (x == ("__classdict__" : Str)) = false := by decide) : PE X (.Name x pos) (x9i i) := by
  intro pins s σ H Q I h
  obtain ⟨v, e, h⟩ := h
  obtain ⟨m, hn, hl⟩ := I.loc
  obtain ⟨u, r, l⟩ := hl i x v hN e hv
  have fin : EP X pins σ Q u s := ⟨v, H, I, r, h⟩
  rcases l with ⟨hk, hm⟩ | ⟨hk, c, hc, hcell⟩
  · exact wpAny_Name (wpAny_loadName_local I.ok.kind hk hn hm fin) hd
  · rcases hk with hk | hk
    · exact wpAny_Name (wpAny_loadName_cell I.ok.kind hk hc hcell fin) hd
    · exact wpAny_Name (wpAny_loadName_free I.ok.kind hk hc hcell fin hcd) hd
theorem z62 {i j pos} : PE X (.Constant (.int i) j pos) (tC (.int i)) := fun _ _ _ H _ I h => wpAny_Constant_int ⟨.int i, H, I.tok _, ⟨_, rfl⟩, h⟩
theorem z82 {b j pos} : PE X (.Constant (.bool b) j pos) (tC (.bl b)) := fun _ _ _ H _ I h => Constant_bool ⟨.bl b, H, I, rfl, h⟩
theorem z67 {j pos} : PE X (.Constant .none j pos) (tC .non) := fun _ _ _ H _ I h => Constant_none ⟨.non, H, I, rfl, h⟩
theorem z0n {x j pos} : PE X (.Constant (.str x) j pos) (tC (.str x)) := fun _ _ _ H _ I h => Calls.Constant_str ⟨.str x, H, I.tok _, ⟨_, rfl⟩, h⟩
noncomputable def Gl (X : Cx) (x : Str) : Prop := X.env.kindOf x = some .globalImplicit
theorem x8v {E : Value -> Shared -> Prop} {pins : List (Addr × Obj)} {s : Shared} {σ : St} {H : Hp} {x : Str} {u : Value} {pos : Pos} {Q : Value -> Shared -> Prop} (I : Inv X pins σ H s) (hg : Gl X x) (hm : X.mg x = some u) (h : Q u s)
    (hd : (x == ("__debug__" : Str)) = false := by decide) : wpAny (model X.prog X.w) X.A (eval (.Name x pos) X.env) Q E s :=
  Calls.Name_function_global I.ok.kind hg (Calls.loadGlobal_global (by rw [I.ok.glob]; exact I.mod.glob.keeps I.bk) hm h) hd
theorem x93 {E : Value -> Shared -> Prop} {pins : List (Addr × Obj)} {s : Shared} {σ : St} {H : Hp} {x : Str} {u : Value} {pos : Pos} {Q : Value -> Shared -> Prop} (I : Inv X pins σ H s) (hg : Gl X x) (hm : X.mg x = none) (hv : bootBuiltins x = some u) (h : Q u s)
    (hn : x ≠ "__name__" := by decide) (hd : (x == ("__debug__" : Str)) = false := by decide) : wpAny (model X.prog X.w) X.A (eval (.Name x pos) X.env) Q E s := by
  obtain ⟨mb, h1, h2⟩ := I.mod.blt
  exact Calls.Name_function_global I.ok.kind hg (Calls.loadGlobal_builtin (by rw [I.ok.glob]; exact I.mod.glob.keeps I.bk) hm (by rw [I.ok.blt]; exact h1.keeps I.bk) ((h2 x hn).trans hv) h) hd
theorem y6k {x : Str} {v : V} {u : Value} {pos : Pos} (hg : Gl X x) (hm : X.mg x = some u) (r : x4b v u) (hd : (x == ("__debug__" : Str)) = false := by decide) : PE X (.Name x pos) (tC v) :=
  fun _ _ _ H _ I h => x8v I hg hm ⟨v, H, I, r, h⟩ hd
theorem y70 {x : Str} {v : V} {u : Value} {pos : Pos} (hg : Gl X x) (hm : X.mg x = none) (hv : bootBuiltins x = some u) (r : x4b v u) (hn : x ≠ "__name__" := by decide) (hd : (x == ("__debug__" : Str)) = false := by decide) : PE X (.Name x pos) (tC v) :=
  fun _ _ _ H _ I h => x93 I hg hm hv ⟨v, H, I, r, h⟩ hn hd
variable {a b : Expr} {ta tb : TE} {pos : Pos}
variable {tA tB' : TT} {x2n : List Expr}
noncomputable def tOr (t u : TT) : TT := fun σ H Q => t σ H fun c H1 => if c = true then Q true H1 else u σ H1 Q
noncomputable def z9c (t : TT) : TT := fun σ H Q => t σ H fun c H1 => Q (!c) H1
theorem z5a (ha : PT X a tA) : PW X (.BoolOp .Or [a] pos) tA := by
  intro wh pins s σ H Q I h
  refine isTrue_or (thn (ha pins s σ H Q I h) fun c s1 e => ?_)
  cases c with
  | false => exact isTrue_or_nil e
  | true => exact e
theorem z85 (ha : PT X a tA) (hb : PW X (.BoolOp .Or (b :: x2n) pos) tB') : PW X (.BoolOp .Or (a :: b :: x2n) pos) (tOr tA tB') := by
  intro wh pins s σ H Q I h
  refine isTrue_or (thn (ha pins s σ H _ I h) fun c s1 hh0 => ?_)
  obtain ⟨H1, I1, q1⟩ := hh0
  cases c with
  | true => exact ⟨H1, I1, q1⟩
  | false => exact hb wh pins s1 σ H1 Q I1 q1
theorem z66 (ha : PT X a tA) : PT X (.UnaryOp .Not a pos) (z9c tA) := by
  intro pins s σ H Q I h
  exact isTrue_not (ha pins s σ H (fun c H1 => Q (!c) H1) I h)
noncomputable def z7v (ta tb : TE) : TE := fun σ H Q => ta σ H fun x H1 => ∃ c, x = .bl c /\ if c = true then tb σ H1 Q else Q (.bl false) H1
noncomputable def z7y (ta : TE) : TE := fun σ H Q => ta σ H fun x H1 => ∃ c, x = .bl c /\ Q (.bl (!c)) H1
theorem z6l {op} {t : TE} (h : PE X a t) : PE X (.BoolOp op [a] pos) t := fun pins s σ H Q I hw => BoolOp_one (h pins s σ H Q I hw)
theorem z4i (ha : PE X a ta) (hb : PE X (.BoolOp .And (b :: x2n) pos) tb) : PE X (.BoolOp .And (a :: b :: x2n) pos) (z7v ta tb) := by
  intro pins s σ H Q I h
  refine BoolOp_and (thn (ha pins s σ H _ I h) fun v s1 hh0 => ?_)
  obtain ⟨x, H1, I1, r1, q1⟩ := hh0
  obtain ⟨c, rfl, q1⟩ := q1
  cases r1
  refine wpAny_truthy_bool ?_
  cases c with
  | true => exact hb pins s1 σ H1 Q I1 q1
  | false => exact ⟨.bl false, H1, I1, rfl, q1⟩
theorem z49 (ha : PE X a ta) : PE X (.UnaryOp .Not a pos) (z7y ta) := by
  intro pins s σ H Q I h
  refine UnaryOp_ (thn (ha pins s σ H _ I h) fun v s1 hh0 => ?_)
  obtain ⟨x, H1, I1, r1, q1⟩ := hh0
  obtain ⟨c, rfl, q1⟩ := q1
  cases r1
  exact not_of (wpAny_truthy_bool ⟨.bl (!c), H1, I1, rfl, q1⟩)
noncomputable def tIf (t : TT) (ta tb : TE) : TE := fun σ H Q => t σ H fun c H1 => if c = true then ta σ H1 Q else tb σ H1 Q
theorem y8d {c : Expr} (hc : PT X c tA) (ha : PE X a ta) (hb : PE X b tb) : PE X (.IfExp c a b pos) (tIf tA ta tb) := by
  intro pins s σ H Q I h
  refine wpAny_IfExp (thn (hc pins s σ H _ I h) fun d s1 hh0 => ?_)
  obtain ⟨H1, I1, q1⟩ := hh0
  cases d with
  | true => exact ha pins s1 σ H1 Q I1 q1
  | false => exact hb pins s1 σ H1 Q I1 q1
end
noncomputable def SqL (K : PySem.W.Frag) (H : Hp) (a : Addr) (xs : List V) : Prop :=
  Rd H a (.lst xs) \/
    ∃ (o : Obj) (its : Array Value) (n : Nat), K.lookup a = some o /\ o.cls = .type "list" /\ o.dict = none /\ o.data = .seq its n /\ its.size <= sizeLine /\ x2m xs its.toList
noncomputable def SqT (K : PySem.W.Frag) (H : Hp) (a : Addr) (xs : List V) : Prop :=
  Rd H a (.tup xs) \/
    ∃ (o : Obj) (its : Array Value) (n : Nat), K.lookup a = some o /\ o.cls = .type "tuple" /\ o.data = .seq its n /\ its.size <= sizeLine /\ x2m xs its.toList
noncomputable def z9k : Value -> Option V
  | .none => some .non
  | .bool b => some (.bl b)
  | .int i _ => some (.int i)
  | .str x _ => some (.str x)
  | .bytes b _ => some (.byt b)
  | .float b _ => some (.flt b)
  | .ref a => some (.ref a)
  | .type n => some (.ty n)
  | _ => none
theorem x4b.abs {x : V} {u : Value} (r : x4b x u) : z9k u = some x := by
  cases x with
  | non => cases r; rfl
  | bl _ => cases r; rfl
  | int _ => obtain ⟨t, rfl⟩ := r; rfl
  | str _ => obtain ⟨t, rfl⟩ := r; rfl
  | byt _ => obtain ⟨t, rfl⟩ := r; rfl
  | flt _ => obtain ⟨t, rfl⟩ := r; rfl
  | ref _ => cases r; rfl
  | ty _ => cases r; rfl
theorem x4b.inj {x y : V} {u : Value} (r : x4b x u) (q : x4b y u) : x = y := Option.some.inj (r.abs.symm.trans q.abs)
theorem x2m.inj : ∀ {xs ys : List V} {us : List Value}, x2m xs us -> x2m ys us -> xs = ys
  | _, _, _, .nil, .nil => rfl
  | _, _, _, .cons r t, .cons r' t' => by rw [r.inj r', x2m.inj t t']
section
variable {X : Cx} {pins : List (Addr × Obj)} {σ : St} {H : Hp} {s : Shared} {a : Addr} {xs ys : List V}
theorem SqL.of {K : PySem.W.Frag} (h : H a = some (.lst xs)) : SqL K H a xs := .inl (.inl h)
theorem SqT.of {K : PySem.W.Frag} (h : H a = some (.tup xs)) : SqT K H a xs := .inl (.inl h)
theorem Inv.list (I : Inv X pins σ H s) (h : SqL X.K H a xs) : ∃ its : List Value, x2m xs its /\ PlainL s.heap a its.toArray /\ xs.length <= sizeLine := by
  rcases h with h | ⟨o, its, n, hk, hc, hd, hs, hz, r⟩
  · obtain ⟨z, its, n, r, e⟩ := h.ok I.hok
    exact ⟨its, r, ⟨_, n, e, rfl, rfl, rfl⟩, z⟩
  · refine ⟨its.toList, r, ⟨o, n, I.kIn a o hk, hc, hd, by simpa using hs⟩, ?_⟩
    have e := r.length
    simp only [Array.length_toList] at e
    omega
theorem Inv.tuple (I : Inv X pins σ H s) (h : SqT X.K H a xs) : ∃ its : List Value, x2m xs its /\ IsTup s.heap a its.toArray /\ xs.length <= sizeLine := by
  rcases h with h | ⟨o, its, n, hk, hc, hs, hz, r⟩
  · obtain ⟨z, its, r, p⟩ := h.ok I.hok
    exact ⟨its, r, p.tup, z⟩
  · refine ⟨its.toList, r, ⟨o, I.kIn a o hk, hc, n, by simpa using hs⟩, ?_⟩
    have e := r.length
    simp only [Array.length_toList] at e
    omega
theorem Inv.list_inj (I : Inv X pins σ H s) (h : SqL X.K H a xs) (h' : SqL X.K H a ys) : xs = ys := by
  obtain ⟨its, r, ⟨o, n, e, _, _, d⟩, _⟩ := I.list h
  obtain ⟨its', r', ⟨o', n', e', _, _, d'⟩, _⟩ := I.list h'
  rw [e] at e'; cases e'
  rw [d] at d'
  injection d' with d1 _
  have : its = its' := by simpa using congrArg Array.toList d1
  subst this
  exact r.inj r'
theorem Inv.tuple_inj (I : Inv X pins σ H s) (h : SqT X.K H a xs) (h' : SqT X.K H a ys) : xs = ys := by
  obtain ⟨its, r, ⟨o, e, _, n, d⟩, _⟩ := I.tuple h
  obtain ⟨its', r', ⟨o', e', _, n', d'⟩, _⟩ := I.tuple h'
  rw [e] at e'; cases e'
  rw [d] at d'
  injection d' with d1 _
  have : its = its' := by simpa using congrArg Array.toList d1
  subst this
  exact r.inj r'
end
noncomputable abbrev Cx.wish (X : Cx) (E : Value -> Shared -> Prop) : Cx := { X with xe := E }
noncomputable abbrev Cx.nox (X : Cx) : Cx := X.wish fun _ _ => False
theorem Cx.Ok.wish {X : Cx} (ok : X.Ok) (E : Value -> Shared -> Prop) : (X.wish E).Ok :=
  ⟨ok.mod, ok.kind, ok.glob, ok.blt, ok.above, ok.inj, ok.has, ok.cab, ok.hd, ok.frames, ok.stk, ok.exf, ok.bs, ok.bsz, ok.noex, ok.exfs, ok.funs, ok.frf⟩
theorem Cx.Ok.unwish {X : Cx} {E : Value -> Shared -> Prop} (ok : (X.wish E).Ok) : X.Ok :=
  ⟨ok.mod, ok.kind, ok.glob, ok.blt, ok.above, ok.inj, ok.has, ok.cab, ok.hd, ok.frames, ok.stk, ok.exf, ok.bs, ok.bsz, ok.noex, ok.exfs, ok.funs, ok.frf⟩
section
variable {X : Cx} {pins : List (Addr × Obj)} {σ : St} {H : Hp} {s : Shared} {E : Value -> Shared -> Prop}
theorem Inv.wish (I : Inv X pins σ H s) (E : Value -> Shared -> Prop) : Inv (X.wish E) pins σ H s := ⟨I.ok.wish E, I.os, I.bare, I.base, I.loc, I.cell, I.free, I.freeC, I.pin, I.hok, I.len⟩
theorem Inv.unwish (I : Inv (X.wish E) pins σ H s) : Inv X pins σ H s := ⟨I.ok.unwish, I.os, I.bare, I.base, I.loc, I.cell, I.free, I.freeC, I.pin, I.hok, I.len⟩
theorem SP.unwish {D : Ends} {f : Flow} {s' : Shared} (h : SP (X.wish E) pins D f s') : SP X pins D f s' := by
  cases f with
  | next => obtain ⟨σ', H', I, q⟩ := h; exact ⟨σ', H', I.unwish, q⟩
  | brk => obtain ⟨σ', H', I, q⟩ := h; exact ⟨σ', H', I.unwish, q⟩
  | cont => obtain ⟨σ', H', I, q⟩ := h; exact ⟨σ', H', I.unwish, q⟩
  | ret u => obtain ⟨v, σ', H', I, r, q⟩ := h; exact ⟨v, σ', H', I.unwish, r, q⟩
theorem PT.nox {e : Expr} {t : TT} (h : PT X.nox e t) : PT X e t := fun pins s σ H Q I hw =>
  wpAny_mono (h pins s σ H Q (I.wish _) hw) (fun _ _ ⟨H', I', q⟩ => ⟨H', I'.unwish, q⟩) fun _ _ z => False.elim z
theorem PSs.nox {st : List Stmt} {t : TS} (h : PSs X.nox st t) : PSs X st t := fun pins s σ H D I hw =>
  wpAny_mono (h pins s σ H D (I.wish _) hw) (fun _ _ q => q.unwish) fun _ _ z => False.elim z
end
section
variable {X : Cx} {st : Stmt} {x2n : List Stmt} {t u : TS} {e : Expr} {te : TE} {pos : Pos}
noncomputable def z7s : TS := fun D σ H => D.nx σ H
noncomputable def z8p (t u : TS) : TS := fun D σ H => t { D with nx := u D } σ H
theorem z23 : PSs X [] z7s := fun _ _ σ H _ I h => wpAny_execs_nil ⟨σ, H, I, h⟩
theorem y86 (h1 : PS X st t) (h2 : PSs X x2n u) : PSs X (st :: x2n) (z8p t u) := by
  intro pins s σ H D I h
  refine wpAny_execs_cons (thn (h1 pins s σ H { D with nx := u D } I h) fun f s1 q => ?_)
  cases f with
  | next =>
    obtain ⟨σ', H', I', q⟩ := q
    exact h2 pins s1 σ' H' D I' q
  | ret v => exact q
  | brk => exact q
  | cont => exact q
theorem y2r (h1 : PS X st t) : PSs X [st] t := by
  intro pins s σ H D I h
  refine wpAny_execs_cons (thn (h1 pins s σ H D I h) fun f s1 q => ?_)
  cases f with
  | next => exact wpAny_execs_nil q
  | ret v => exact q
  | brk => exact q
  | cont => exact q
theorem Inv.quiet {pins : List (Addr × Obj)} {σ : St} {H : Hp} {s : Shared} (I : Inv X pins σ H s) : interactive X.env = false := by simp [interactive, I.ok.kind]
noncomputable def z7x (te : TE) : TS := fun D σ H => te σ H fun _ H1 => D.nx σ H1
theorem y5u (he : PE X e te) (hs : swapsWith e none pos.line X.env = pure false := by rfl) : PS X (.Expr e pos) (z7x te) := by
  intro pins s σ H D I h
  exact wpAny_Expr_any (thn (he pins s σ H _ I h) fun v s1 ⟨x, H1, I1, r1, q1⟩ => ⟨σ, H1, I1, q1⟩) I.quiet hs
noncomputable def z90 (te : TE) : TS := fun D σ H => te σ H D.rt
theorem z5w (he : PE X e te) : PS X (.Return (some e) pos) (z90 te) := by
  intro pins s σ H D I h
  exact wpAny_Return_some (thn (he pins s σ H _ I h) fun v s1 ⟨x, H1, I1, r1, q1⟩ => ⟨x, σ, H1, I1, r1, q1⟩)
noncomputable def z9l (c : TT) (t u : TS) : TS := fun D σ H => c σ H fun b H1 => if b = true then t D σ H1 else u D σ H1
theorem z6o {c : Expr} {a b : List Stmt} {tc : TT} (hc : PT X c tc) (ha : PSs X a t) (hb : PSs X b u) : PS X (.If c a b pos) (z9l tc t u) := by
  intro pins s σ H D I h
  refine wpAny_If (thn (hc pins s σ H _ I h) fun d s1 hh0 => ?_)
  obtain ⟨H1, I1, q1⟩ := hh0
  cases d with
  | true => exact ha pins s1 σ H1 D I1 q1
  | false => exact hb pins s1 σ H1 D I1 q1
noncomputable def z3z : TS := fun _ _ _ => False
theorem y8y : PS X st z3z := fun _ _ _ _ _ _ h => h.elim
end
noncomputable abbrev TG := V -> St -> Hp -> (St -> Hp -> Prop) -> Prop
noncomputable abbrev TGs := List V -> St -> Hp -> (St -> Hp -> Prop) -> Prop
noncomputable def PG (X : Cx) (target : Expr) (t : TG) : Prop :=
  ∀ (pins : List (Addr × Obj)) (s : Shared) (σ : St) (H : Hp) (v : V) (u : Value) (Q : St -> Hp -> Prop), Inv X pins σ H s -> x4b v u -> t v σ H Q ->
    wpAny (model X.prog X.w) X.A (assign target X.env u) (fun _ s' => ∃ σ' H', Inv X pins σ' H' s' /\ Q σ' H') X.xe s
noncomputable def PGs (X : Cx) (ts : List Expr) (t : TGs) : Prop :=
  ∀ (pins : List (Addr × Obj)) (s : Shared) (σ : St) (H : Hp) (vs : List V) (us : List Value) (Q : St -> Hp -> Prop), Inv X pins σ H s -> x2m vs us -> t vs σ H Q ->
    wpAny (model X.prog X.w) X.A (assignInOrder ((assignEach ts X.env).map (·.2)) us) (fun _ s' => ∃ σ' H', Inv X pins σ' H' s' /\ Q σ' H') X.xe s
noncomputable abbrev z73 := V -> V -> V -> Hp -> (Hp -> Prop) -> Prop
noncomputable def z8h (X : Cx) (t : z73) : Prop :=
  ∀ (pins : List (Addr × Obj)) (s : Shared) (σ : St) (H : Hp) (o i v : V) (ov iv u : Value) (Q : Hp -> Prop), Inv X pins σ H s -> x4b o ov -> x4b i iv -> x4b v u -> t o i v H Q ->
    wpAny (model X.prog X.w) X.A (setItem ov iv u) (fun _ s' => ∃ H', Inv X pins σ H' s' /\ Q H') X.xe s
section
variable {X : Cx} {pos : Pos}
noncomputable def z1w (i : Nat) : TG := fun v σ H Q => Q (σ.set i (some v)) H
theorem z16 {i : Nat} {x : Str} (hN : X.N.Nodup) (hi : X.N[i]? = some x) (hx : Loc X.env.scope x) (hf : X.fn x = true \/ X.env.scope.names.lookup x = some .local := by first | exact .inl rfl | exact .inr rfl | assumption) : PG X (.Name x pos) (z1w i) := by
  intro pins s σ H v u Q I r h
  exact wpAny_assign_Name (y0j I hN hi hx r (fun s' I' => ⟨_, H, I', h⟩) hf)
noncomputable def z9g : TGs := fun vs σ H Q => vs = [] /\ Q σ H
noncomputable def z75 (t : TG) (u : TGs) : TGs := fun vs σ H Q => ∃ v r, vs = v :: r /\ t v σ H fun σ' H' => u r σ' H' Q
theorem z2c : PGs X [] z9g := by
  intro pins s σ H vs us Q I r h
  obtain ⟨e, h⟩ := h
  subst e
  cases r
  exact assignInOrder_nil ⟨σ, H, I, h⟩
theorem y9q {e : Expr} {es : List Expr} {t : TG} {u : TGs} (h1 : PG X e t) (h2 : PGs X es u)
    (hs : (assignEach (e :: es) X.env).map (·.2) = assign e X.env :: (assignEach es X.env).map (·.2) := by rfl) : PGs X (e :: es) (z75 t u) := by
  intro pins s σ H vs us Q I r h
  obtain ⟨v, vr, e1, h⟩ := h
  subst e1
  cases r with
  | cons r rr =>
    rw [hs]
    refine assignInOrder_cons (thn (h1 pins s σ H _ _ _ I r h) fun _ s1 hh0 => ?_)
    obtain ⟨σ1, H1, I1, q1⟩ := hh0
    exact h2 pins s1 σ1 H1 _ _ Q I1 rr q1
noncomputable def z91 (K : PySem.W.Frag) (n : Nat) (t : TGs) : TG := fun v σ H Q => ∃ a xs, v = .ref a /\ SqT K H a xs /\ xs.length = n /\ t xs σ H Q
theorem z6n {es : List Expr} {k : Nat} {t : TGs} {n : Nat} (hc : X.calm = true) (h : PGs X es t)
    (hn : (assignEach es X.env).length = n := by rfl) (hst : (assignEach es X.env).findIdx? (·.1) = none := by rfl) : PG X (.Tuple es k pos) (z91 X.K n t) := by
  intro pins s σ H v u Q I r hw
  obtain ⟨a, xs, e1, hq, hl, hw⟩ := hw
  subst e1
  cases r
  obtain ⟨its, rv, ht, hz⟩ := I.tuple hq
  refine assign_Tuple_tuple (I.ok.hd hc) ht (by simp [hn, <- hl, rv.length]) hst fun h' hx => ?_
  have I1 : Inv X pins σ H { s with heap := h' } := I.kept (t' := s.toks) fun b o e => hx b o (Nat.ne_of_lt (Heap.lt_size e)) e
  exact h pins _ σ H xs _ Q I1 (by simpa using rv) hw
noncomputable def z8v (to ti : TE) (t : z73) : TG := fun v σ H Q => to σ H fun o H1 => ti σ H1 fun i H2 => t o i v H2 fun H3 => Q σ H3
theorem z57 {o i : Expr} {to ti : TE} {t : z73} (ho : PE X o to) (hi : PE X i ti) (hs : z8h X t)
    (ha : ∀ v, assign (.Subscript o i pos) X.env v = (do
      let ov <- holding [v] (eval o X.env)
      let iv <- holding [v, ov] (eval i X.env)
      standAt pos
      holding [v, ov, iv] (setItem ov iv v)
      release [v, ov, iv] []) := by intro _; rfl) : PG X (.Subscript o i pos) (z8v to ti t) := by
  intro pins s σ H v u Q I r h
  rw [ha]
  refine wpAny_bind (wpAny_holding (thn (ho pins s σ H _ I h) fun ov s1 hh0 => ?_))
  obtain ⟨x, H1, I1, r1, q1⟩ := hh0
  refine wpAny_bind (wpAny_holding (thn (hi pins s1 σ H1 _ I1 q1) fun iv s2 hh0 => ?_))
  obtain ⟨y, H2, I2, r2, q2⟩ := hh0
  refine wpAny_bind (wpAny_standAt (wpAny_bind (wpAny_holding (thn (hs pins s2 σ H2 x y v ov iv u _ I2 r1 r2 r q2) fun _ s3 hh0 => ?_))))
  obtain ⟨H3, I3, q3⟩ := hh0
  exact wpAny_release ⟨σ, H3, I3, q3⟩
noncomputable def z8b (te : TE) (g : TG) : TS := fun D σ H => te σ H fun x H1 => g x σ H1 D.nx
theorem z0x {tg e : Expr} {te : TE} {g : TG} (he : PE X e te) (hg : PG X tg g) (hs : swapsWithSole [tg] e pos.line X.env = pure false := by rfl) (hw : swappedStores [tg] e X.env = pure none := by rfl)
    (h1 : (assignEach [tg] X.env).map (·.2) = [assign tg X.env] := by rfl) : PS X (.Assign [tg] e pos) (z8b te g) := by
  intro pins s σ H D I h
  refine wpAny_Assign_stores (thn (he pins s σ H _ I h) fun v s1 ⟨x, H1, I1, r1, q1⟩ => ?_) hs hw
  rw [h1]
  exact thn (hg pins s1 σ H1 x v _ I1 r1 q1) fun _ s2 q => q
theorem z09 {i : Nat} {x : Str} {e : Expr} {te : TE} {pos' : Pos} (hN : X.N.Nodup) (hi : X.N[i]? = some x) (hx : Loc X.env.scope x) (he : PE X e te) (hs : swapsWith e (some (.Name x pos')) pos.line X.env = pure false := by rfl) (hf : X.fn x = true \/ X.env.scope.names.lookup x = some .local := by first | exact .inl rfl | exact .inr rfl | assumption) :
    PS X (.Assign [.Name x pos'] e pos) (z8b te (z1w i)) := by
  intro pins s σ H D I h
  refine wpAny_Assign_Name (thn (he pins s σ H _ I h) fun v s1 ⟨y, H1, I1, r1, q1⟩ => ?_) hs
  exact y0j I1 hN hi hx r1 (fun s2 I2 => ⟨_, H1, I2, q1⟩) hf
end
structure It where
  go : Nat -> Hp -> Prop
  yld : Nat -> Hp -> V -> Hp -> Prop
  stop : Nat -> Hp -> Prop
noncomputable def y62 (X : Cx) (pins : List (Addr × Obj)) (H : Hp) (b : Addr) : Prop :=
  H b = none /\ b ≠ X.env.locals /\ b ∉ X.fs /\ (b ∈ X.ex \/ X.s₀.heap.objs.size <= b) /\ (∀ x c, X.env.cells.lookup x = some c -> c ≠ b) /\ ∀ p ∈ X.pn ++ pins, p.1 ≠ b
theorem Inv.fpOk {X : Cx} {pins : List (Addr × Obj)} {σ : St} {H H' : Hp} {s : Shared} {b : Addr} (I : Inv X pins σ H s) (hb : s.heap.objs.size <= b) (hn : H' b = none) : y62 X pins H' b := by
  refine ⟨hn, Nat.ne_of_gt (Nat.lt_of_lt_of_le I.lt hb), I.nofs hb, .inr (Nat.le_trans I.sz hb), fun x c e z => ?_, fun p hp z => ?_⟩
  · obtain ⟨v, q⟩ := I.cell x c e
    exact absurd (Nat.lt_of_lt_of_le q.lt (by rw [z]; exact hb)) (Nat.lt_irrefl _)
  · exact absurd (Nat.lt_of_lt_of_le (Heap.lt_size (I.pin p hp).1) (by rw [z]; exact hb)) (Nat.lt_irrefl _)
structure Turn (P : Program) (w : World) (K : PySem.W.Frag) (tg : Expr) (J : It) (fp : List Addr) (it : Addr) (tn : Nat -> Heap -> Prop) : Prop where
  mem : it ∈ fp
  obj : ∀ i h, tn i h -> ∀ b ∈ fp, ∃ o, h.get? b = some o /\ ∀ v, o.data ≠ .cell v
  keep : ∀ i h h', tn i h -> (∀ b ∈ fp, ∀ o, h.get? b = some o -> h'.get? b = some o) -> tn i h'
  item : ∀ (X : Cx), X.prog = P -> X.w = w -> X.K = K -> X.calm = true -> ∀ (i : Nat) (pins : List (Addr × Obj)) (s : Shared) (σ : St) (H : Hp) (E : Value -> Shared -> Prop), Inv X pins σ H s -> (∀ b ∈ fp, y62 X pins H b) -> tn i s.heap -> J.go i H ->
    wpAny (model P w) X.A (pyNext (.ref it)) (fun r s1 => ∃ u, r = some u /\
      wpAny (model P w) X.A (letOwnedTupleGo tg (.ref it) u) (fun _ s2 => ∃ x H', Inv X pins σ H' s2 /\ x4b x u /\ J.yld i H x H' /\ tn (i + 1) s2.heap /\ ∀ b ∈ fp, H' b = none) E s1) E s
  done : ∀ (X : Cx), X.prog = P -> X.w = w -> X.K = K -> X.calm = true -> ∀ (i : Nat) (pins : List (Addr × Obj)) (s : Shared) (σ : St) (H : Hp) (E : Value -> Shared -> Prop), Inv X pins σ H s -> (∀ b ∈ fp, y62 X pins H b) -> tn i s.heap -> J.stop i H ->
    wpAny (model P w) X.A (pyNext (.ref it)) (fun r s1 => r = none /\ Inv X pins σ H s1) E s
  self : ∀ (A : Around) (i : Nat) (s : Shared) (Q : Value -> Shared -> Prop) (E : Value -> Shared -> Prop), tn i s.heap -> Q (.ref it) s -> wpAny (model P w) A (pyIter (.ref it)) Q E s
noncomputable abbrev TI := St -> Hp -> (It -> Hp -> Prop) -> Prop
noncomputable def PIE (X : Cx) (pins : List (Addr × Obj)) (σ : St) (tg : Expr) (R : It -> Hp -> Prop) (itv : Value) (s2 : Shared) : Prop :=
  ∃ (it : Addr) (fp : List Addr) (tn : Nat -> Heap -> Prop) (J : It) (H' : Hp), itv = .ref it /\ Inv X pins σ H' s2 /\ Turn X.prog X.w X.K tg J fp it tn /\ tn 0 s2.heap /\ (∀ b ∈ fp, y62 X pins H' b) /\ R J H'
noncomputable def PI (X : Cx) (tg iter : Expr) (wi : TI) : Prop :=
  ∀ (pins : List (Addr × Obj)) (s : Shared) (σ : St) (H : Hp) (R : It -> Hp -> Prop), Inv X pins σ H s -> wi σ H R ->
    wpAny (model X.prog X.w) X.A (eval iter X.env) (fun v s1 => wpAny (model X.prog X.w) X.A (pyIter v) (PIE X pins σ tg R) X.xe s1) X.xe s
theorem z13 {M : Model} {A : Around} {E : Value -> Shared -> Prop} {s : Shared} {tg : Expr} {it : Addr} {u : Value} {o : Obj} {n : String} {vs : Array Value} {Q : Unit -> Shared -> Prop} (ho : s.heap.get? it = some o) (hc : o.cls = .type n) (hd : o.data = .fields vs)
    (hn : ["enumerate", "zip", "dict_itemiterator", "dict_reverseitemiterator", "odict_iterator", "itertools.zip_longest", "itertools.pairwise"].contains n = false) (hQ : Q () s) : wpAny M A (letOwnedTupleGo tg (.ref it) u) Q E s := by
  unfold letOwnedTupleGo
  cases tg <;> first
    | exact wpAny_pure hQ
    | (cases u <;> first
        | exact wpAny_pure hQ
        | (refine wpAny_bind (wpAny_load ho ?_)
           rw [hc, hd]
           show wpAny M A (if (["enumerate", "zip", "dict_itemiterator", "dict_reverseitemiterator", "odict_iterator", "itertools.zip_longest", "itertools.pairwise"].contains n && vs[0]? == some (rawInt _)) = true then _ else _) Q E s
           rw [if_neg (by intro h; rw [hn, Bool.false_and] at h; cases h)]
           exact wpAny_pure hQ))
noncomputable def Itl (K : PySem.W.Frag) (a : Addr) : It :=
  ⟨fun i H => ∃ xs x, SqL K H a xs /\ xs[i]? = some x, fun i H x H' => H' = H /\ ∀ xs, SqL K H a xs -> xs[i]? = some x, fun i H => ∃ xs, SqL K H a xs /\ xs.length <= i⟩
noncomputable def Itt (K : PySem.W.Frag) (a : Addr) : It :=
  ⟨fun i H => ∃ xs x, SqT K H a xs /\ xs[i]? = some x, fun i H x H' => H' = H /\ ∀ xs, SqT K H a xs -> xs[i]? = some x, fun i H => ∃ xs, SqT K H a xs /\ xs.length <= i⟩
noncomputable def Itr (lo : Int) (n : Nat) : It := ⟨fun i _ => i < n, fun i H x H' => H' = H /\ x = .int (lo + i), fun i _ => n <= i⟩
theorem y6x {P : Program} {w : World} {K : PySem.W.Frag} {tg : Expr} (a it : Addr) : Turn P w K tg (Itl K a) [it] it (fun i h => h.IsListIter it a i) where
  mem := by simp
  obj := fun i h st b hb => by
    have e : b = it := by simpa using hb
    subst e
    obtain ⟨o, e, c, d⟩ := st
    exact ⟨o, e, fun v z => by rw [d] at z; cases z⟩
  keep := fun i h h' st k => st.at fun o e => k it (by simp) o e
  item := by
    intro X hP hw hK hc i pins s σ H E I hf st hg
    subst hP hw hK
    obtain ⟨xs, x, hq, hx⟩ := hg
    obtain ⟨its, rv, p, hz⟩ := I.list hq
    obtain ⟨u, hu, ru⟩ := rv.get hx
    obtain ⟨f0, f1, f2, f3, f4, f5⟩ := hf it (by simp)
    refine wpAny_pyNext_list_item st p.isList (x := u) (by simpa using hu) fun h' st' sb => ?_
    have I1 : Inv X pins σ H { s with heap := h' } := I.turned (t' := s.toks) (fun b o hb e => (sb.2 b hb).trans e) f0 f1 f3 f4 f5
    obtain ⟨o, e, c, d⟩ := id st'
    exact ⟨u, rfl, z13 (s := { s with heap := h' }) e c d (by decide) ⟨x, H, I1, ru, ⟨rfl, fun ys hy => by rw [I.list_inj hy hq]; exact hx⟩, st', fun b hb => (hf b hb).1⟩⟩
  done := by
    intro X hP hw hK hc i pins s σ H E I hf st hg
    subst hP hw hK
    obtain ⟨xs, hq, hx⟩ := hg
    obtain ⟨its, rv, p, hz⟩ := I.list hq
    obtain ⟨f0, f1, f2, f3, f4, f5⟩ := hf it (by simp)
    have hl := rv.length
    exact wpAny_pyNext_list_end (I.ok.hd hc) st p.isList (by simp; omega) fun h' eb => ⟨rfl, I.turned (t' := s.toks) (fun b o hb e => eb b o hb e) f0 f1 f3 f4 f5⟩
  self := fun _ _ _ _ _ st h => wpAny_pyIter_listiter st h
theorem y51 {P : Program} {w : World} {K : PySem.W.Frag} {tg : Expr} (a it : Addr) : Turn P w K tg (Itt K a) [it] it (fun i h => h.IsTupleIter it a i) where
  mem := by simp
  obj := fun i h st b hb => by
    have e : b = it := by simpa using hb
    subst e
    obtain ⟨o, e, c, d⟩ := st
    exact ⟨o, e, fun v z => by rw [d] at z; cases z⟩
  keep := fun i h h' st k => st.at fun o e => k it (by simp) o e
  item := by
    intro X hP hw hK hc i pins s σ H E I hf st hg
    subst hP hw hK
    obtain ⟨xs, x, hq, hx⟩ := hg
    obtain ⟨its, rv, p, hz⟩ := I.tuple hq
    obtain ⟨u, hu, ru⟩ := rv.get hx
    obtain ⟨f0, f1, f2, f3, f4, f5⟩ := hf it (by simp)
    refine wpAny_pyNext_tuple_item st (show s.heap.IsTuple a its.toArray from p) (x := u) (by simpa using hu) fun h' st' sb => ?_
    have I1 : Inv X pins σ H { s with heap := h' } := I.turned (t' := s.toks) (fun b o hb e => (sb.2 b hb).trans e) f0 f1 f3 f4 f5
    obtain ⟨o, e, c, d⟩ := id st'
    exact ⟨u, rfl, z13 (s := { s with heap := h' }) e c d (by decide) ⟨x, H, I1, ru, ⟨rfl, fun ys hy => by rw [I.tuple_inj hy hq]; exact hx⟩, st', fun b hb => (hf b hb).1⟩⟩
  done := by
    intro X hP hw hK hc i pins s σ H E I hf st hg
    subst hP hw hK
    obtain ⟨xs, hq, hx⟩ := hg
    obtain ⟨its, rv, p, hz⟩ := I.tuple hq
    obtain ⟨f0, f1, f2, f3, f4, f5⟩ := hf it (by simp)
    have hl := rv.length
    exact wpAny_pyNext_tuple_end (I.ok.hd hc) st (show s.heap.IsTuple a its.toArray from p) (by simp; omega) fun h' eb => ⟨rfl, I.turned (t' := s.toks) (fun b o hb e => eb b o hb e) f0 f1 f3 f4 f5⟩
  self := fun _ _ _ _ _ st h => wpAny_pyIter_tupleiter st h
theorem y55 {P : Program} {w : World} {K : PySem.W.Frag} {tg : Expr} (it : Addr) (lo : Int) (n : Nat) : Turn P w K tg (Itr lo n) [it] it (fun i h => IsRangeIter h it (lo + (i : Nat) * 1) ((n : Int) - (i : Nat)) 1) where
  mem := by simp
  obj := fun i h st b hb => by
    have e : b = it := by simpa using hb
    subst e
    exact ⟨_, st, fun v z => by
      have z' : Data.fields _ = Data.cell v := z
      cases z'⟩
  keep := fun i h h' st k => k it (by simp) _ st
  item := by
    intro X hP hw hK hc i pins s σ H E I hf st hg
    subst hP hw hK
    obtain ⟨f0, f1, f2, f3, f4, f5⟩ := hf it (by simp)
    have W := Walks.range (prog := X.prog) (w := X.w) (I.ok.hd hc) it lo 1 n
    refine W.item i s _ _ hg st fun v h' tk hv st' kk => ?_
    obtain ⟨t, rfl⟩ := hv
    have I1 : Inv X pins σ H { s with heap := h', toks := tk } := I.turned (fun b o hb e => kk b o (by simpa using hb) e) f0 f1 f3 f4 f5
    refine ⟨_, rfl, z13 (s := { s with heap := h', toks := tk }) (n := "range_iterator") st' rfl rfl (by decide) ⟨.int (lo + i), H, I1, ⟨t, ?_⟩, ⟨rfl, rfl⟩, st', fun b hb => (hf b hb).1⟩⟩
    rw [Int.mul_one]
  done := by
    intro X hP hw hK hc i pins s σ H E I hf st hg
    subst hP hw hK
    obtain ⟨f0, f1, f2, f3, f4, f5⟩ := hf it (by simp)
    exact wpAny_pyNext_range_end (I.ok.hd hc) st (by have : n <= i := hg; omega) fun h' eb => ⟨rfl, I.turned (t' := s.toks) (fun b o hb e => eb b o hb e) f0 f1 f3 f4 f5⟩
  self := fun _ _ _ _ _ st h => wpAny_pyIter_rangeiter st h
section
variable {X : Cx} {tg : Expr}
theorem y8h {pins : List (Addr × Obj)} {σ : St} {H : Hp} {s : Shared} {R : It -> Hp -> Prop} {E : Value -> Shared -> Prop} {lo hi : Int} {t u v : Tok} {tk : Nat} (I : Inv X pins σ H s) (h1 : -(2 ^ 62) <= lo) (h2 : lo < 2 ^ 62) (h3 : -(2 ^ 62) <= hi) (h4 : hi < 2 ^ 62)
    (q : R (Itr lo (hi - lo).toNat) H) : wpAny (model X.prog X.w) X.A (pyIter (.ref s.heap.objs.size)) (PIE X pins σ tg R) E { s with heap := s.heap.push { cls := .type "range", data := .fields #[.int lo t, .int hi u, .int 1 v] }, toks := tk } := by
  refine wpAny_pyIter_range (IsRange.new ..) (small_one h1 h2 h3 h4) ?_
  have I1 : Inv X pins σ H { s with heap := s.heap.push { cls := .type "range", data := .fields #[.int lo t, .int hi u, .int 1 v] }, toks := tk } := I.kept fun b o e => Heap.get?_push_of_some _ e
  refine ⟨(s.heap.push { cls := .type "range", data := .fields #[.int lo t, .int hi u, .int 1 v] }).objs.size, [(s.heap.push { cls := .type "range", data := .fields #[.int lo t, .int hi u, .int 1 v] }).objs.size], _, _, H, rfl,
    I1.kept (t' := tk) fun b o e => Heap.get?_push_of_some _ e, y55 _ lo (hi - lo).toNat, ?_, fun b hb => ?_, q⟩
  · have e1 : lo + ((0 : Nat) : Int) * 1 = lo := by simp
    have e2 : (((hi - lo).toNat : Nat) : Int) - ((0 : Nat) : Int) = Builtin.Range.rangeSize lo hi 1 := by rw [rangeSize_one]; split <;> omega
    show IsRangeIter _ _ (lo + ((0 : Nat) : Int) * 1) ((((hi - lo).toNat : Nat) : Int) - ((0 : Nat) : Int)) 1
    rw [e1, e2]
    exact Heap.get?_push_size _ rfl
  · have e : b = (s.heap.push { cls := .type "range", data := .fields #[.int lo t, .int hi u, .int 1 v] }).objs.size := by simpa using hb
    subst e
    exact I1.fpOk (Nat.le_refl _) (I1.hok.fresh (Nat.le_refl _))
noncomputable def z76 (ta : TA) : TI := fun σ H R => ta σ H fun vs H1 => ∃ j : Int, vs = [.int j] /\ -(2 ^ 62) <= j /\ j < 2 ^ 62 /\ R (Itr 0 j.toNat) H1
theorem y7i {a : Expr} {ta : TA} {p pos : Pos} (hg : Gl X "range") (hm : X.mg "range" = none) (ha : PA X [a] ta) (hs : starEach [a] X.env = [(false, eval a X.env)] := by rfl) : PI X tg (.Call (.Name "range" p) [a] [] pos) (z76 ta) := by
  intro pins s σ H R I h
  refine Call_ (x93 I hg hm boot_range (PyProof.Rows.callWith_type1 (thn (ha pos pins s σ H _ I h) fun us s1 ⟨vs, H1, I1, r1, q1⟩ => ?_) hs rfl))
  obtain ⟨j, e, q1, q2, q⟩ := q1
  subst e
  cases r1 with
  | cons r rr =>
    cases rr
    obtain ⟨t, rfl⟩ := r
    exact call_range_1 (y8h I1 (by omega) (by omega) q1 q2 (by simpa using q))
noncomputable def z8z (wi : TI) (g : TG) (tb : TS) : TS := fun D σ H => wi σ H fun J H1 => ∃ W : Nat -> Nat -> St -> Hp -> Prop, (∃ m, W 0 m σ H1) /\ ∀ i m σ H, W i m σ H ->
  (J.stop i H /\ D.nx σ H) \/ (J.go i H /\ ∃ N : St -> Hp -> Prop, (∀ σ' H', N σ' H' -> ∃ m', m' < m /\ W (i + 1) m' σ' H') /\ ∀ x H', J.yld i H x H' -> g x σ H' fun σ2 H2 => tb { D with nx := N, ct := N, bk := D.nx } σ2 H2)
noncomputable def x80 (fp : List Addr) (h : Heap) : List (Addr × Obj) := fp.filterMap fun b => (h.get? b).map fun o => (b, o)
theorem x62 {fp : List Addr} {h : Heap} {b : Addr} {o : Obj} (hb : b ∈ fp) (e : h.get? b = some o) : (b, o) ∈ x80 fp h := List.mem_filterMap.mpr ⟨b, hb, by rw [e]; rfl⟩
theorem y1d {fp : List Addr} {h : Heap} {p : Addr × Obj} (hp : p ∈ x80 fp h) : p.1 ∈ fp /\ h.get? p.1 = some p.2 := by
  obtain ⟨b, hb, e⟩ := List.mem_filterMap.mp hp
  cases q : h.get? b with
  | none => rw [q] at e; cases e
  | some o =>
    rw [q] at e
    have e' : (b, o) = p := Option.some.inj e
    subst e'
    exact ⟨hb, q⟩
theorem Inv.pinned {pins : List (Addr × Obj)} {σ : St} {H : Hp} {s : Shared} {fp : List Addr} (I : Inv X pins σ H s) (hf : ∀ b ∈ fp, y62 X pins H b) (ho : ∀ b ∈ fp, ∃ o, s.heap.get? b = some o /\ ∀ v, o.data ≠ .cell v) : Inv X (pins ++ x80 fp s.heap) σ H s :=
  I.pins_of fun p hp => (List.mem_append.mp hp).elim (fun z => I.pin p (List.mem_append_right _ z)) fun z => by
    obtain ⟨hb, e⟩ := y1d z
    obtain ⟨f0, f1, f2, _⟩ := hf p.1 hb
    obtain ⟨o, e', d⟩ := ho p.1 hb
    rw [e] at e'; cases e'
    exact ⟨e, f0, f1, f2, d⟩
theorem Inv.unpinned {pins pl : List (Addr × Obj)} {σ : St} {H : Hp} {s : Shared} (I : Inv X (pins ++ pl) σ H s) : Inv X pins σ H s := I.pins_of fun p hp => I.pin p (List.mem_append_right _ (List.mem_append_left _ hp))
theorem z4z {iter : Expr} {body : List Stmt} {wi : TI} {g : TG} {tb : TS} {pos : Pos} (hp : PassesOwn (model X.prog X.w) X.A X.env X.xe) (hc : X.calm = true) (hi : PI X tg iter wi) (hg : PG X tg g) (hb : PSs X body tb)
    (hs : ∀ x, foldedSetIterable iter X.env x = pure x := by intro _; rfl) : PS X (.For tg iter body [] pos) (z8z wi g tb) := by
  intro pins s σ H D I h
  refine wpAny_For (thn (hi pins s σ H _ I h) fun v s1 h1 => thn h1 fun itv s2 h2 => ?_) hs
  obtain ⟨it, fp, tn, J, H2, e, I2, T, st2, f2, W, ⟨m0, w0⟩, turn⟩ := h2
  subst e
  -- what stays true of the iterator's objects through the loop
  have stat : ∀ {H' : Hp}, (∀ b ∈ fp, H' b = none) -> ∀ b ∈ fp, y62 X pins H' b := fun hn b hb => ⟨hn b hb, (f2 b hb).2⟩
  refine codeAny_forLoop_any (fun n s' => ∃ i σ' H', Inv X pins σ' H' s' /\ tn i s'.heap /\ (∀ b ∈ fp, H' b = none) /\ W i n σ' H') ?_ m0 ⟨0, σ, H2, I2, st2, fun b hb => (f2 b hb).1, w0⟩
  rintro n s3 ⟨i, σ3, H3, I3, st3, fr3, w3⟩
  rcases turn i n σ3 H3 w3 with ⟨stop, qn⟩ | ⟨go, N, hN, step⟩
  · refine wpAny_passesOwn hp (thn (T.done X rfl rfl rfl hc i pins s3 σ3 H3 X.xe I3 (stat fr3) st3 stop) fun r s4 ⟨hr, I4⟩ => ?_)
    subst hr
    exact wpAny_execs_nil ⟨σ3, H3, I4, qn⟩
  · refine wpAny_passesOwn hp (thn (T.item X rfl rfl rfl hc i pins s3 σ3 H3 X.xe I3 (stat fr3) st3 go) fun r s4 ⟨u, hr, h4⟩ => ?_)
    subst hr
    refine wpAny_passesOwn hp (thn h4 fun _ s5 hh0 => ?_)
    obtain ⟨x, H5, I5, r5, y5, st5, fr5⟩ := hh0
    have I5' := I5.pinned (stat fr5) (T.obj _ _ st5)
    refine wpAny_passesOwn hp (thn (hg _ s5 σ3 H5 x u _ I5' r5 (step x H5 y5)) fun _ s6 hh0 => ?_)
    obtain ⟨σ6, H6, I6, q6⟩ := hh0
    refine wpAny_passesOwn hp (thn (hb _ s6 σ6 H6 _ I6 q6) fun f s7 q7 => ?_)
    have again : ∀ {σ7 : St} {H7 : Hp}, Inv X (pins ++ x80 fp s5.heap) σ7 H7 s7 -> N σ7 H7 -> ∃ m, m < n /\ ∃ i σ' H', Inv X pins σ' H' s7 /\ tn i s7.heap /\ (∀ b ∈ fp, H' b = none) /\ W i m σ' H' := fun {σ7 H7} I7 n7 => by
      obtain ⟨m', hm, w7⟩ := hN σ7 H7 n7
      refine ⟨m', hm, i + 1, σ7, H7, I7.unpinned, T.keep _ _ _ st5 fun b hb o e => (I7.pin (b, o) (List.mem_append_right _ (List.mem_append_right _ (x62 hb e)))).1, fun b hb => ?_, w7⟩
      obtain ⟨o, e, d⟩ := T.obj _ _ st5 b hb
      exact (I7.pin (b, o) (List.mem_append_right _ (List.mem_append_right _ (x62 hb e)))).2.1
    cases f with
    | next => obtain ⟨σ7, H7, I7, n7⟩ := q7; exact again I7 n7
    | cont => obtain ⟨σ7, H7, I7, n7⟩ := q7; exact again I7 n7
    | brk => obtain ⟨σ7, H7, I7, q7⟩ := q7; exact ⟨σ7, H7, I7.unpinned, q7⟩
    | ret v => obtain ⟨x7, σ7, H7, I7, r7, q7⟩ := q7; exact ⟨x7, σ7, H7, I7.unpinned, r7, q7⟩
end
noncomputable abbrev R2 := V -> V -> Hp -> VK -> Prop
noncomputable def OpR (X : Cx) (f : Value -> Value -> Sem Value) (r : R2) : Prop :=
  ∀ (pins : List (Addr × Obj)) (s : Shared) (σ : St) (H : Hp) (x y : V) (v u : Value) (Q : VK), Inv X pins σ H s -> x4b x v -> x4b y u -> r x y H Q ->
    wpAny (model X.prog X.w) X.A (f v u) (EP X pins σ Q) X.xe s
noncomputable def UnR (X : Cx) (f : Value -> Sem Value) (r : V -> Hp -> VK -> Prop) : Prop :=
  ∀ (pins : List (Addr × Obj)) (s : Shared) (σ : St) (H : Hp) (x : V) (v : Value) (Q : VK), Inv X pins σ H s -> x4b x v -> r x H Q ->
    wpAny (model X.prog X.w) X.A (f v) (EP X pins σ Q) X.xe s
noncomputable def x84 (X : Cx) (f : Value) (r : List V -> Hp -> VK -> Prop) : Prop :=
  ∀ (pins : List (Addr × Obj)) (s : Shared) (σ : St) (H : Hp) (xs : List V) (us : List Value) (Q : VK), Inv X pins σ H s -> x2m xs us -> r xs H Q ->
    wpAny (model X.prog X.w) X.A (call f us) (EP X pins σ Q) X.xe s
noncomputable def z8x (X : Cx) (r : V -> Hp -> (Bool -> Hp -> Prop) -> Prop) : Prop :=
  ∀ (pins : List (Addr × Obj)) (s : Shared) (σ : St) (H : Hp) (x : V) (v : Value) (Q : Bool -> Hp -> Prop), Inv X pins σ H s -> x4b x v -> r x H Q ->
    wpAny (model X.prog X.w) X.A (truthy v) (TP X pins σ Q) X.xe s
noncomputable def tOp (r : R2) (ta tb : TE) : TE := fun σ H Q => ta σ H fun x H1 => tb σ H1 fun y H2 => r x y H2 Q
noncomputable def tUn (r : V -> Hp -> VK -> Prop) (ta : TE) : TE := fun σ H Q => ta σ H fun x H1 => r x H1 Q
noncomputable def rI (C : Int -> Int -> Prop) (g : Int -> Int -> V) : R2 := fun x y H Q => ∃ i j, x = .int i /\ y = .int j /\ C i j /\ Q (g i j) H
noncomputable def rI0 (g : Int -> Int -> V) : R2 := fun x y H Q => ∃ i j, x = .int i /\ y = .int j /\ Q (g i j) H
noncomputable def rU (g : Int -> V) : V -> Hp -> VK -> Prop := fun x H Q => ∃ i, x = .int i /\ Q (g i) H
section
variable {X : Cx} {a b c : Expr} {ta tb tc : TE} {pos : Pos}
theorem z7u (ha : PE X a ta) (hb : PE X b tb) {pins : List (Addr × Obj)} {s : Shared} {σ : St} {H : Hp} {R : V -> V -> Hp -> Prop} (I : Inv X pins σ H s)
    (h : ta σ H fun x H1 => tb σ H1 fun y H2 => R x y H2) {Q : Value -> Shared -> Prop} {f : Value -> Value -> Sem Value}
    (hf : ∀ v u s2 x y H2, Inv X pins σ H2 s2 -> x4b x v -> x4b y u -> R x y H2 -> wpAny (model X.prog X.w) X.A (f v u) Q X.xe s2) :
    wpAny (model X.prog X.w) X.A (eval a X.env) (fun v s₁ => wpAny (model X.prog X.w) X.A (eval b X.env) (fun u s₂ => wpAny (model X.prog X.w) X.A (f v u) Q X.xe s₂) X.xe s₁) X.xe s := by
  refine thn (ha pins s σ H _ I h) fun v s1 hh0 => ?_
  obtain ⟨x, H1, I1, r1, q1⟩ := hh0
  refine thn (hb pins s1 σ H1 _ I1 q1) fun u s2 hh0 => ?_
  obtain ⟨y, H2, I2, r2, q2⟩ := hh0
  exact hf v u s2 x y H2 I2 r1 r2 q2
theorem y4l {op : Operator} {r : R2} (ho : OpR X (binaryOp op) r) (ha : PE X a ta) (hb : PE X b tb) : PE X (.BinOp a op b pos) (tOp r ta tb) := by
  intro pins s σ H Q I h
  exact wpAny_BinOp (z7u ha hb I h fun v u s2 x y H2 I2 rx ry q => ho pins s2 σ H2 x y v u Q I2 rx ry q)
theorem z7i {op : UnaryOp} {r : V -> Hp -> VK -> Prop} (ho : UnR X (unaryOp op) r) (ha : PE X a ta) : PE X (.UnaryOp op a pos) (tUn r ta) := by
  intro pins s σ H Q I h
  exact UnaryOp_ (thn (ha pins s σ H _ I h) fun v s1 ⟨x, H1, I1, r1, q1⟩ => ho pins s1 σ H1 x v Q I1 r1 q1)
theorem opI {f : Value -> Value -> Sem Value} {C : Int -> Int -> Prop} {g : Int -> Int -> Int}
    (rule : ∀ (i j : Int) (t u : Tok) (s : Shared) (Q : Value -> Shared -> Prop) (E : Value -> Shared -> Prop), C i j -> Q (.int (g i j) s.toks) { s with toks := s.toks + 1 } -> wpAny (model X.prog X.w) X.A (f (.int i t) (.int j u)) Q E s) :
    OpR X f (rI C fun i j => .int (g i j)) := by
  intro pins s σ H x y v u Q I rx ry h
  obtain ⟨i, j, rfl, rfl, hc, q⟩ := h
  obtain ⟨t, rfl⟩ := rx
  obtain ⟨t', rfl⟩ := ry
  exact rule i j t t' s _ _ hc ⟨.int (g i j), H, I.tok _, ⟨_, rfl⟩, q⟩
theorem z8y {f : Value -> Value -> Sem Value} {g : Int -> Int -> Int}
    (rule : ∀ (i j : Int) (t u : Tok) (s : Shared) (Q : Value -> Shared -> Prop) (E : Value -> Shared -> Prop), Q (.int (g i j) s.toks) { s with toks := s.toks + 1 } -> wpAny (model X.prog X.w) X.A (f (.int i t) (.int j u)) Q E s) :
    OpR X f (rI0 fun i j => .int (g i j)) := by
  intro pins s σ H x y v u Q I rx ry h
  obtain ⟨i, j, rfl, rfl, q⟩ := h
  obtain ⟨t, rfl⟩ := rx
  obtain ⟨t', rfl⟩ := ry
  exact rule i j t t' s _ _ ⟨.int (g i j), H, I.tok _, ⟨_, rfl⟩, q⟩
theorem z8n {f : Value -> Value -> Sem Value} {g : Int -> Int -> Bool}
    (rule : ∀ (i j : Int) (t u : Tok) (s : Shared) (Q : Value -> Shared -> Prop) (E : Value -> Shared -> Prop), Q (.bool (g i j)) s -> wpAny (model X.prog X.w) X.A (f (.int i t) (.int j u)) Q E s) :
    OpR X f (rI0 fun i j => .bl (g i j)) := by
  intro pins s σ H x y v u Q I rx ry h
  obtain ⟨i, j, rfl, rfl, q⟩ := h
  obtain ⟨t, rfl⟩ := rx
  obtain ⟨t', rfl⟩ := ry
  exact rule i j t t' s _ _ ⟨.bl (g i j), H, I, rfl, q⟩
noncomputable def z9d (i j : Int) : Prop := 0 < j /\ j < 1073741824
noncomputable def z72 (i j : Int) : Prop := (-(2 ^ 64) < i /\ i < 2 ^ 64) \/ (-(2 ^ 64) < j /\ j < 2 ^ 64)
theorem z72.ok {i j : Int} (h : z72 i j) : IntMulOk i j := by
  rcases h with ⟨h1, h2⟩ | ⟨h1, h2⟩
  · exact .of_left (intBits_le_64 h1 h2)
  · exact .of_right (intBits_le_64 h1 h2)
theorem z4u : OpR X (binaryOp .Add) (rI0 fun i j => .int (i + j)) := z8y fun _ _ _ _ _ _ _ q => add_int q
theorem z5h : OpR X (binaryOp .Mult) (rI z72 fun i j => .int (i * j)) := opI fun _ _ _ _ _ _ _ hc q => mul_int q hc.ok
theorem z3g : OpR X (binaryOp .FloorDiv) (rI z9d fun i j => .int (i / j)) := opI fun i j _ _ _ _ _ hc q => by
  have h1 : (0 : Int) < j := hc.1
  have h2 : j < 1073741824 := hc.2
  exact floordiv_int (by omega) (by rw [Int.fdiv_eq_ediv_of_nonneg i (by omega)]; exact q) (.inl (PyProof.noPylong_small (by omega)))
theorem z63 : OpR X (binaryOp .Mod) (rI (fun _ j => 0 < j) fun i j => .int (i % j)) := opI fun i j _ _ _ _ _ hc q => by
  have h1 : (0 : Int) < j := hc
  exact mod_int' (by omega) (by rw [Int.fmod_eq_emod_of_nonneg i (by omega)]; exact q)
theorem unI {f : Value -> Sem Value} {g : Int -> Int}
    (rule : ∀ (i : Int) (t : Tok) (s : Shared) (Q : Value -> Shared -> Prop) (E : Value -> Shared -> Prop), Q (.int (g i) s.toks) { s with toks := s.toks + 1 } -> wpAny (model X.prog X.w) X.A (f (.int i t)) Q E s) :
    UnR X f (rU fun i => .int (g i)) := by
  intro pins s σ H x v Q I rx h
  obtain ⟨i, rfl, q⟩ := h
  obtain ⟨t, rfl⟩ := rx
  exact rule i t s _ _ ⟨.int (g i), H, I.tok _, ⟨_, rfl⟩, q⟩
theorem z4y : UnR X (unaryOp .USub) (rU fun i => .int (-i)) := unI fun _ _ _ _ _ q => neg_int q
end
section
variable {X : Cx} {a b c : Expr} {ta tb tc : TE} {pos : Pos}
theorem z51 {pins : List (Addr × Obj)} {σ : St} {H : Hp} {s : Shared} {Q : VK} {k k' : Bool} (I : Inv X pins σ H s) (q : Q (.bl k) H) (e : k = k') : EP X pins σ Q (.bool k') s := by
  subst e
  exact ⟨.bl k, H, I, rfl, q⟩
theorem z50 : OpR X (compareOp .Lt) (rI0 fun i j => .bl (decide (i < j))) := z8n fun _ _ _ _ _ _ _ q => lt_int q
theorem z1n : OpR X (compareOp .LtE) (rI0 fun i j => .bl (decide (i <= j))) := z8n fun _ _ _ _ _ _ _ q => le_int q
theorem z0d : OpR X (compareOp .Is) (fun x y H Q => y = .non /\ Q (.bl (decide (x = .non))) H) := by
  intro pins s σ H x y v u Q I rx ry h
  obtain ⟨rfl, q⟩ := h
  cases ry
  refine is_none_gen (z51 I q ?_)
  cases x <;> first
    | (cases rx; rfl)
    | (obtain ⟨t, rfl⟩ := rx; rfl)
theorem OpR.or {f : Value -> Value -> Sem Value} {r r' : R2} (h : OpR X f r) (h' : OpR X f r') : OpR X f (fun x y H Q => r x y H Q \/ r' x y H Q) := by
  intro pins s σ H x y v u Q I rx ry q
  rcases q with q | q
  · exact h pins s σ H x y v u Q I rx ry q
  · exact h' pins s σ H x y v u Q I rx ry q
theorem x9n (b : Expr) {op : CmpOp} (h : op ≠ .In := by decide) (h2 : op ≠ .NotIn := by decide) : behindInMarks op b = false := by
  have e1 : (op == CmpOp.In) = false := by cases op <;> first | rfl | exact absurd rfl h
  have e2 : (op == CmpOp.NotIn) = false := by cases op <;> first | rfl | exact absurd rfl h2
  cases b <;> simp [behindInMarks, e1, e2]
theorem z32 {op : CmpOp} {r : R2} (ho : OpR X (compareOp op) r) (ha : PE X a ta) (hb : PE X b tb) (hm : behindInMarks op b = false) : PE X (.Compare a [op] [b] pos) (tOp r ta tb) := by
  intro pins s σ H Q I h
  exact wpAny_Compare1 (z7u ha hb I h fun v u s2 x y H2 I2 rx ry q => ho pins s2 σ H2 x y v u Q I2 rx ry q) hm
noncomputable def z3e (t : TE) : TT := fun σ H Q => t σ H fun x H' => ∃ k, x = .bl k /\ Q k H'
theorem z22 {op : CmpOp} {r : R2} (ho : OpR X (compareOp op) r) (ha : PE X a ta) (hb : PE X b tb) (hm : behindInMarks op b = false) : PT X (.Compare a [op] [b] pos) (z3e (tOp r ta tb)) := by
  intro pins s σ H Q I h
  refine wpAny_isTrue_Compare1 (thn (ha pins s σ H _ I h) fun v s1 ⟨x, H1, I1, r1, q1⟩ => thn (hb pins s1 σ H1 _ I1 q1) fun u s2 ⟨y, H2, I2, r2, q2⟩ =>
    thn (ho pins s2 σ H2 x y v u _ I2 r1 r2 q2) fun c s3 ⟨z, H3, I3, r3, k, e, q3⟩ => ?_) hm
  subst e
  cases r3
  exact wpAny_truthy_bool ⟨H3, I3, q3⟩
noncomputable def z0w (r r' : R2) (ta tb tc : TE) : TE := fun σ H Q => ta σ H fun x H1 => tb σ H1 fun y H2 => r x y H2 fun z H3 => ∃ k, z = .bl k /\
  (if k = true then tc σ H3 fun w' H4 => r' y w' H4 Q else Q (.bl false) H3)
theorem y8c {op op' : CmpOp} {r r' : R2} (ho : OpR X (compareOp op) r) (ho' : OpR X (compareOp op') r') (ha : PE X a ta) (hb : PE X b tb) (hc : PE X c tc)
    (hm : lastMarks [op, op'] [b, c] = false := by with_unfolding_all rfl) : PE X (.Compare a [op, op'] [b, c] pos) (z0w r r' ta tb tc) := by
  intro pins s σ H Q I h
  refine Compare_chain (thn (ha pins s σ H _ I h) fun v s1 ⟨x, H1, I1, r1, q1⟩ => chain_link (thn (hb pins s1 σ H1 _ I1 q1) fun u s2 ⟨y, H2, I2, r2, q2⟩ =>
    thn (ho pins s2 σ H2 x y v u _ I2 r1 r2 q2) fun d s3 ⟨z, H3, I3, r3, k, e, q3⟩ => ?_)) hm
  subst e
  cases r3
  refine wpAny_truthy_bool ?_
  cases k with
  | false => exact ite_ff ⟨.bl false, H3, I3, rfl, q3⟩
  | true => exact ite_tt (chain_last (thn (hc pins s3 σ H3 _ I3 q3) fun w' s4 ⟨z', H4, I4, r4, q4⟩ => ho' pins s4 σ H4 y z' u w' Q I4 r2 r4 q4))
theorem y7y {op op' : CmpOp} {r r' : R2} (ho : OpR X (compareOp op) r) (ho' : OpR X (compareOp op') r') (ha : PE X a ta) (hb : PE X b tb) (hc : PE X c tc)
    (hm : lastMarks [op, op'] [b, c] = false := by with_unfolding_all rfl) : PT X (.Compare a [op, op'] [b, c] pos) (z3e (z0w r r' ta tb tc)) := by
  intro pins s σ H Q I h
  refine isTrue_chain (thn (ha pins s σ H _ I h) fun v s1 ⟨x, H1, I1, r1, q1⟩ => test_link (thn (hb pins s1 σ H1 _ I1 q1) fun u s2 ⟨y, H2, I2, r2, q2⟩ =>
    thn (ho pins s2 σ H2 x y v u _ I2 r1 r2 q2) fun d s3 ⟨z, H3, I3, r3, k, e, q3⟩ => ?_)) hm
  subst e
  cases r3
  refine wpAny_truthy_bool ?_
  cases k with
  | false =>
    obtain ⟨k', e', q'⟩ := q3
    cases e'
    exact ite_ff ⟨H3, I3, q'⟩
  | true =>
    refine ite_tt (test_last (thn (hc pins s3 σ H3 _ I3 q3) fun w' s4 ⟨z', H4, I4, r4, q4⟩ => thn (ho' pins s4 σ H4 y z' u w' _ I4 r2 r4 q4) fun d' s5 hh0 => ?_))
    obtain ⟨z2, H5, I5, r5, k2, e2, q5⟩ := hh0
    subst e2
    cases r5
    exact wpAny_truthy_bool ⟨H5, I5, q5⟩
noncomputable def z8f (K : PySem.W.Frag) (x : V) (H : Hp) (k : Bool) : Prop :=
  match x with
  | .non => k = false
  | .bl b => k = b
  | .int i => k = (i != 0)
  | .str y => y.length <= sizeLine /\ k = ((y.length : Int) != 0)
  | .byt y => y.size <= sizeLine /\ k = ((y.size : Int) != 0)
  | .ref p => (∃ xs, SqL K H p xs /\ k = !xs.isEmpty) \/ (∃ xs, SqT K H p xs /\ k = !xs.isEmpty) \/ ∃ kvs, H p = some (.dK kvs) /\ k = !kvs.isEmpty
  | _ => False
theorem y4i {κ : Type} {kvs : List (κ × V)} {vs : List (κ × Value)} (r : KV kvs vs) : (!vs.isEmpty) = !kvs.isEmpty := by
  cases r <;> rfl
theorem y04 {xs : List V} {its : List Value} (r : x2m xs its) : (!its.toArray.isEmpty) = !xs.isEmpty := by
  cases r <;> simp
theorem x9o : (sizeLine : Nat) < 2 ^ 63 := by rw [sizeLine_eq]; decide
theorem z4o : z8x X (fun x H Q => ∃ k, z8f X.K x H k /\ Q k H) := by
  intro pins s σ H x v Q I rx h
  obtain ⟨k, e, q⟩ := h
  have hl := x9o
  have hs : sizeLine = 16777216 := sizeLine_eq
  cases x with
  | non =>
    cases rx
    have e' : k = false := e
    subst e'
    exact truthy_none ⟨H, I, q⟩
  | bl b =>
    cases rx
    have e' : k = b := e
    subst e'
    exact wpAny_truthy_bool ⟨H, I, q⟩
  | int i =>
    obtain ⟨t, rfl⟩ := rx
    have e' : k = (i != 0) := e
    subst e'
    exact PySem.P.truthy_int ⟨H, I, q⟩
  | str y =>
    obtain ⟨t, rfl⟩ := rx
    obtain ⟨hy, e'⟩ : y.length <= sizeLine /\ k = ((y.length : Int) != 0) := e
    subst e'
    exact PySem.P.truthy_str (by omega) ⟨H, I.tok _, q⟩
  | byt y =>
    obtain ⟨t, rfl⟩ := rx
    obtain ⟨hy, e'⟩ : y.size <= sizeLine /\ k = ((y.size : Int) != 0) := e
    subst e'
    exact PySem.W.truthy_bytes (by omega) ⟨H, I.tok _, q⟩
  | ref p =>
    cases rx
    have e' : (∃ xs, SqL X.K H p xs /\ k = !xs.isEmpty) \/ (∃ xs, SqT X.K H p xs /\ k = !xs.isEmpty) \/ ∃ kvs, H p = some (.dK kvs) /\ k = !kvs.isEmpty := e
    rcases e' with ⟨xs, hx, e'⟩ | ⟨xs, hx, e'⟩ | ⟨kvs, hx, e'⟩
    · subst e'
      obtain ⟨its, r, pl, hz⟩ := I.list hx
      have hlen := r.length
      exact wpAny_truthy_list pl.isList (by simp only [List.size_toArray]; omega) ⟨H, I.tok _, by rw [y04 r]; exact q⟩
    · subst e'
      obtain ⟨its, r, pl, hz⟩ := I.tuple hx
      have hlen := r.length
      exact truthy_tuple pl (by simp only [List.size_toArray]; omega) ⟨H, I.tok _, by rw [y04 r]; exact q⟩
    · subst e'
      obtain ⟨hz, hS, vs, r, m⟩ : kvs.length <= sizeLine /\ (p == sysModules) = false /\ ∃ vs, KV kvs vs /\ s.heap.DictOf (y2k X.prog X.w) p vs := I.hok p _ hx
      have hlen : kvs.length = vs.length := Paired.length r
      exact wpAny_truthy_dict hS m (by omega) ⟨H, I.tok _, by rw [y4i r]; exact q⟩
  | _ => exact (show False from e).elim
theorem z01 (ha : PE X a ta) (he : ∀ whole, isTrue a X.env whole = (do let v <- whole; standAt a.pos; holding [v] (truthy v))) :
    PT X a (fun σ H Q => ta σ H fun x H' => ∃ k, z8f X.K x H' k /\ Q k H') := by
  intro pins s σ H Q I h
  exact isTrue_plain (thn (ha pins s σ H _ I h) fun v s1 ⟨x, H1, I1, r1, q1⟩ => z4o pins s1 σ H1 x v Q I1 r1 q1) (he _)
theorem y11 {x : V} {us : List Value} (r : x2m [x] us) : ∃ u, us = [u] /\ x4b x u := by
  cases r with
  | cons r1 r2 => cases r2; exact ⟨_, rfl, r1⟩
theorem y8a {x y : V} {us : List Value} (r : x2m [x, y] us) : ∃ u w', us = [u, w'] /\ x4b x u /\ x4b y w' := by
  cases r with
  | cons r1 r2 =>
    cases r2 with
    | cons r3 r4 => cases r4; exact ⟨_, _, rfl, r1, r3⟩
theorem y7n (hc : X.calm = true) : x84 X (.builtin "max") (fun xs H Q => ∃ i j, xs = [.int i, .int j] /\ Q (.int (if j > i then j else i)) H) := by
  intro pins s σ H xs us Q I r h
  obtain ⟨i, j, rfl, q⟩ := h
  obtain ⟨u, w', rfl, ⟨t, rfl⟩, ⟨t', rfl⟩⟩ := y8a r
  refine max_two_ints (I.ok.hd hc) fun h' tk k => ⟨_, H, I.kept k, ?_, q⟩
  by_cases hj : j > i
  · rw [if_pos hj, if_pos hj]; exact ⟨_, rfl⟩
  · rw [if_neg hj, if_neg hj]; exact ⟨_, rfl⟩
end
structure ObjM (h : Heap) (x dx C : Addr) (mA : Str -> Option Value) : Prop where
  obj : h.get? x = some (PySem.W.instObj C dx)
  ns : h.Ns1 dx mA
  ne : dx ≠ x
theorem y7h {h : Heap} {dx : Addr} {mA : Str -> Option Value} (n : h.Ns1 dx mA) : ∃ od, h.get? dx = some od /\ ∀ name, PySem.W.lookIn name od = some (mA name) := by
  obtain ⟨o, es, ep, ho, hd, hk, _, hm⟩ := n
  refine ⟨o, ho, fun name => ?_⟩
  have e := hm name
  unfold nsFind findBy at e
  rw [<- Array.find?_toList] at e
  unfold PySem.W.lookIn
  rw [hd]
  dsimp only
  split
  · rename_i y q
    rw [q] at e
    exact congrArg some e
  · rename_i q
    rw [q] at e
    have a : es.toList.any (·.refKey) = false := by
      rw [List.any_eq_false]
      intro y hy
      obtain ⟨z, t, hkey⟩ := hk y (Array.mem_toList_iff.mp hy)
      simp [DictEntry.refKey, hkey]
    have a' : ¬ es.toList.any (·.refKey) = true := by rw [a]; exact Bool.false_ne_true
    rw [if_neg a']
    exact congrArg some e
theorem ObjM.look {h : Heap} {x dx C : Addr} {mA : Str -> Option Value} (I : ObjM h x dx C mA) : ∃ od, PySem.W.InstAt h x (PySem.W.instObj C dx) C (some od) /\ ∀ name, PySem.W.lookIn name od = some (mA name) :=
  let ⟨od, ho, hl⟩ := y7h I.ns
  ⟨od, ⟨I.obj, rfl, rfl, ho⟩, hl⟩
section
variable {prog : Program} {w : World} {A : Around} {E : Value -> Shared -> Prop} {s : Shared} {K : PySem.W.Frag} {x dx C f : Addr} {mA : Str -> Option Value} {name : Str} {v : Value}
end
section
variable {P : Program} {w : World} {H H' : Hp} {h h' : Heap} {a C dx : Addr} {fs fs' : List (Str × V)}
theorem z3n (hok : HOk P w H h) (e : H a = some (.ins C dx fs)) : ∃ mA, ObjM h a dx C mA /\ (∀ f, z7f (fs.lookup f) (mA f)) /\ PySem.Within mA (fs.map (·.1)) /\ fs.length <= 1000 /\ H dx = some (.own a) := by
  obtain ⟨d, z, ne, ob, mA, n, r, q⟩ := (show x35 P w H h a (.ins C dx fs) from hok a _ e)
  exact ⟨mA, ⟨ob, n, ne⟩, r, q, z, d⟩
end
structure Cls (K : PySem.W.Frag) (C : Addr) : Prop where
  pg : PySem.W.plainGet K C Str.empty = true
  hd : PySem.W.hasDictIn K C = true
  po : PySem.W.plainOver K C = true
  sa : PySem.W.findIn K (.ref C) "__setattr__" = some (some (.builtin "object.__setattr__"))
theorem Cls.get {K : PySem.W.Frag} {C : Addr} (c : Cls K C) (f : Str) : PySem.W.plainGet K C f = true := c.pg
section
variable {X : Cx} {pins : List (Addr × Obj)} {σ : St} {H : Hp} {s : Shared} {a C dx : Addr} {fs : List (Str × V)} {f : Str} {v : V} {A : Around} {E : Value -> Shared -> Prop}
end
section
variable {X : Cx} {pins : List (Addr × Obj)} {σ : St} {H : Hp} {s : Shared} {A : Around} {E : Value -> Shared -> Prop} {Q : Value -> Shared -> Prop} {c : Value} {b : Bool}
inductive TyOf (K : PySem.W.Frag) (H : Hp) : V -> Value -> Prop where
  | non : TyOf K H .non (.type "NoneType")
  | bl (x : Bool) : TyOf K H (.bl x) (.type "bool")
  | int (i : Int) : TyOf K H (.int i) (.type "int")
  | str (x : Str) : TyOf K H (.str x) (.type "str")
  | flt (x : UInt64) : TyOf K H (.flt x) (.type "float")
  | lst {a : Addr} {xs : List V} (e : H a = some (.lst xs)) : TyOf K H (.ref a) (.type "list")
  | frz {a : Addr} {o : Obj} {xs : List V} (e : H a = some (.frz o (.lst xs))) : TyOf K H (.ref a) (.type "list")
  | tup {a : Addr} {xs : List V} (e : H a = some (.tup xs)) : TyOf K H (.ref a) (.type "tuple")
  | dK {a : Addr} {kvs : List (Key × V)} (e : H a = some (.dK kvs)) : TyOf K H (.ref a) (.type "dict")
  | dT {a : Addr} {kvs : List (List Key × V)} (e : H a = some (.dT kvs)) : TyOf K H (.ref a) (.type "dict")
  | ins {a C dx : Addr} {fs : List (Str × V)} (e : H a = some (.ins C dx fs)) (cl : Cls K C) (ha : PySem.W.findIn K (.ref C) "__class__" = some (some (.builtin "object.__class__")))
      (hn : PySem.W.specialIn K (.builtin "object.__class__") "__get__" = some (some (.builtin "getset_descriptor.__get__"))) (htk : PySem.W.takesIn K (.builtin "object.__class__") = some true)
      (hm : PySem.W.mroIn K C (.type "object") = some true) : TyOf K H (.ref a) (.ref C)
theorem x3f {x : V} {u t : Value} (I : Inv X pins σ H s) (rx : x4b x u) (ty : TyOf X.K H x t) (e : PySem.W.kitOne X.K t c = some b) (h : ∀ tk, Q (.bool b) { s with toks := tk }) :
    wpAny (model X.prog X.w) A (call (.builtin "isinstance") [u, c]) Q E s := by
  cases ty with
  | non => cases (show u = Value.none from rx); exact PySem.W.kia_one PySem.W.kitx_none I.kIn True.intro e (fun z => nomatch z) h
  | bl y => cases (show u = Value.bool y from rx); exact PySem.W.kia_one PySem.W.kitx_bool I.kIn True.intro e (fun z => nomatch z) h
  | int i => obtain ⟨t, q⟩ := (show ∃ t, u = Value.int i t from rx); cases q; exact PySem.W.kia_one PySem.W.kitx_int I.kIn True.intro e (fun z => nomatch z) h
  | str y => obtain ⟨t, q⟩ := (show ∃ t, u = Value.str y t from rx); cases q; exact PySem.W.kia_one PySem.W.kitx_str I.kIn True.intro e (fun z => nomatch z) h
  | flt y => obtain ⟨t, q⟩ := (show ∃ t, u = Value.float y t from rx); cases q; exact PySem.W.kia_one PySem.W.kitx_float I.kIn True.intro e (fun z => nomatch z) h
  | @lst a xs ea =>
    cases (show u = Value.ref a from rx)
    obtain ⟨_, _, n, _, h1⟩ := (show x35 X.prog X.w H s.heap a (.lst xs) from I.hok a _ ea)
    exact PySem.W.kia_one PySem.W.kitx_list I.kIn ⟨_, h1, rfl⟩ e (fun z => nomatch z) h
  | @frz a ob xs ea =>
    cases (show u = Value.ref a from rx)
    obtain ⟨_, _, _, n, _, h1⟩ := (show x35 X.prog X.w H s.heap a (.frz ob (.lst xs)) from I.hok a _ ea)
    exact PySem.W.kia_one PySem.W.kitx_list I.kIn ⟨_, h1, rfl⟩ e (fun z => nomatch z) h
  | @tup a xs ea =>
    cases (show u = Value.ref a from rx)
    obtain ⟨_, _, _, p⟩ := (show x35 X.prog X.w H s.heap a (.tup xs) from I.hok a _ ea)
    obtain ⟨o, h1, h2, _⟩ := p
    exact PySem.W.kia_one PySem.W.kitx_tuple I.kIn ⟨o, h1, h2⟩ e (fun z => nomatch z) h
  | @dK a kvs ea =>
    cases (show u = Value.ref a from rx)
    obtain ⟨_, _, vs, _, p⟩ := (show x35 X.prog X.w H s.heap a (.dK kvs) from I.hok a _ ea)
    obtain ⟨o, es, ep, h1, h2, _⟩ := p
    exact PySem.W.kia_one PySem.W.kitx_dict I.kIn ⟨o, h1, h2.1⟩ e (fun z => nomatch z) h
  | @dT a kvs ea =>
    cases (show u = Value.ref a from rx)
    obtain ⟨_, _, xs, _, o, es, ep, h1, h2, _⟩ := (show x35 X.prog X.w H s.heap a (.dT kvs) from I.hok a _ ea)
    exact PySem.W.kia_one PySem.W.kitx_dict I.kIn ⟨o, h1, h2.1⟩ e (fun z => nomatch z) h
  | @ins a C dx fs ea cl ha hn htk hm =>
    cases (show u = Value.ref a from rx)
    obtain ⟨mA, O, _⟩ := z3n I.hok ea
    obtain ⟨od, J, _⟩ := O.look
    exact PySem.W.kia_one (PySem.W.kitx_own (cl.get _) cl.hd ha hn htk hm) I.kIn J e (fun z => nomatch z) h
end
structure Room (k : Nat) (A : Around) : Prop where
  hd : A.handled = none
  dp : A.depth + 3 * k + 5 < recursionLimit
  un : A.units + 16 * k + 200 < cLine
theorem Room.mono {j k : Nat} {A : Around} (r : Room k A) (h : j <= k) : Room j A := ⟨r.hd, by have := r.dp; omega, by have := r.un; omega⟩
theorem Room.deeper {k : Nat} {A : Around} (r : Room (k + 1) A) (env : Env) : Room k (A.deeper env) :=
  ⟨r.hd, by have := r.dp; show A.depth + 1 + 3 * k + 5 < _; omega, by have := r.un; show A.units + 3 + 16 * k + 200 < _; omega⟩
theorem Room.depth {k : Nat} {A : Around} (r : Room k A) : A.depth < recursionLimit := by have := r.dp; omega
theorem Room.units {k : Nat} {A : Around} (r : Room k A) : A.units + 64 < cLine := by have := r.un; omega
noncomputable def z8m : TA := fun _ H Q => Q [] H
noncomputable def z4l (ta : TE) (tr : TA) : TA := fun σ H Q => ta σ H fun x H1 => tr σ H1 fun xs H2 => Q (x :: xs) H2
section
variable {X : Cx} {e : Expr} {es : List Expr} {te : TE} {t : TA} {pos : Pos}
theorem x7v : PA X [] z8m := fun _ _ _ _ H Q I h => Calls.spliced_nil ⟨[], H, I, .nil, h⟩
theorem x4c (ha : PE X e te) (hr : PA X es t) (hs : starEach (e :: es) X.env = (false, eval e X.env) :: starEach es X.env := by rfl) : PA X (e :: es) (z4l te t) := by
  intro pos pins s σ H Q I h
  rw [hs]
  show wpAny _ _ (spliced ((false, eval e X.env) :: backTo pos (starEach es X.env))) _ _ s
  refine Calls.spliced_cons (thn (ha pins s σ H _ I h) fun u s1 hh0 => ?_)
  obtain ⟨x, H1, I1, r1, q1⟩ := hh0
  exact thn (hr pos pins s1 σ H1 _ I1 q1) fun us s2 ⟨xs, H2, I2, r2, q2⟩ => ⟨x :: xs, H2, I2, .cons r1 r2, q2⟩
noncomputable def z99 (t : TA) : TE := fun σ H Q => t σ H fun xs H1 => xs.length <= sizeLine /\ ∀ p, H1 p = none -> Q (.ref p) (upd H1 p (.tup xs))
noncomputable def z9i (t : TA) : TE := fun σ H Q => t σ H fun xs H1 => xs.length <= sizeLine /\ ∀ p, H1 p = none -> Q (.ref p) (upd H1 p (.lst xs))
theorem z60 {x1} (h : PA X es t) : PE X (.Tuple es x1 pos) (z99 t) := by
  intro pins s σ H Q I hq
  refine wpAny_Tuple_spliced (thn (h pos pins s σ H _ I hq) fun us s1 ⟨xs, H1, I1, r, z, q⟩ => ⟨by rw [<- r.length]; exact z, ?_⟩)
  have hf : H1 s1.heap.objs.size = none := I1.hok.fresh (Nat.le_refl _)
  refine ⟨.ref s1.heap.objs.size, upd H1 s1.heap.objs.size (.tup xs), I1.laid (t' := s1.toks) (fun b u e => Heap.get?_push_of_some _ e) (Nat.le_refl _) ?_, rfl, q _ hf⟩
  exact ⟨z, us, r, ⟨_, Heap.get?_push_size _ rfl, rfl, ⟨_, rfl⟩, rfl⟩⟩
theorem z48 (h : PA X es t) : PE X (.List es pos) (z9i t) := by
  intro pins s σ H Q I hq
  refine wpAny_List_spliced (thn (h pos pins s σ H _ I hq) fun us s1 ⟨xs, H1, I1, r, z, q⟩ => ⟨by rw [<- r.length]; exact z, ?_⟩)
  have hf : H1 s1.heap.objs.size = none := I1.hok.fresh (Nat.le_refl _)
  refine ⟨.ref s1.heap.objs.size, upd H1 s1.heap.objs.size (.lst xs), I1.laid (t' := s1.toks) (fun b u e => Heap.get?_push_of_some _ e) (Nat.le_refl _) ?_, rfl, q _ hf⟩
  exact ⟨z, us, 0, r, Heap.get?_push_size _ rfl⟩
end
noncomputable abbrev Sp := List V -> Hp -> VK -> XK -> Prop
noncomputable abbrev CXT := List Env -> Hp -> Shared -> XK -> Value -> Shared -> Prop
structure Env0 (P : Program) (w : World) (K : PySem.W.Frag) (mg : Str -> Option Value) (base : Heap) (A : Around) (outer : List Env) (s : Shared) (H : Hp) : Prop where
  frames : A.frames = some outer
  mod : Mod K mg base
  bs : ∀ b o, base.get? b = some o -> s.heap.get? b = some o /\ H b = none
  bsz : base.objs.size <= s.heap.objs.size
  funs : s.heap.FunFrames base outer
  frf : ∀ b ∈ frs outer, H b = none
  hok : HOk P w H s.heap
  bare : AllBare s.gens
noncomputable def CE (outer : List Env) (P : Program) (w : World) (H : Hp) (s : Shared) (Q : VK) (u : Value) (s' : Shared) : Prop :=
  ∃ v H', s'.os = s.os /\ AllBare s'.gens /\ Un (frs outer) [] H H' s.heap s'.heap /\ HOk P w H' s'.heap /\ x4b v u /\ Q v H'
noncomputable def CR (CX : CXT) (outer : List Env) (P : Program) (w : World) (H : Hp) (s : Shared) (Q : VK) (E : XK) (r : Result) (s' : Shared) : Prop :=
  match r with
  | .ok (.ret u) => CE outer P w H s Q u s'
  | .ok _ => False
  | .error e => CX outer H s E e s'
structure FnOk (P : Program) (w : World) (K : PySem.W.Frag) (mg : Str -> Option Value) (base : Heap) (CX : CXT) (k : Nat) (f : Addr) (fd : FuncData) (ps : List Str) (sp : Sp) : Prop where
  len : ∀ vs H Q E, sp vs H Q E -> vs.length = ps.length
  run : ∀ (A : Around) (outer : List Env) (s : Shared) (H : Hp) (args : Args) (us : List Value) (vs : List V) (Q : VK) (E : XK), Room k A -> Env0 P w K mg base A outer s H -> BindsTo s fd args (ps.zip us) -> x2m vs us -> sp vs H Q E ->
    codeAny (model P w) A (.call (.ref f) args) (CR CX outer P w H s Q E) s
section
variable {X : Cx} {pins : List (Addr × Obj)} {σ : St} {H : Hp} {s s' : Shared}
theorem Inv.env0 (I : Inv X pins σ H s) : Env0 X.prog X.w X.K X.mg X.base X.A X.stack s H :=
  ⟨I.ok.frames, I.ok.mod, I.bs, Nat.le_trans I.ok.bsz I.sz, I.stack, I.stkFree, I.hok, I.bare⟩
theorem Inv.after {Q : VK} {u : Value} (I : Inv X pins σ H s) (h : CE X.stack X.prog X.w H s Q u s') : EP X pins σ Q u s' := by
  obtain ⟨v, H', os, bare, un, hok, r, q⟩ := h
  obtain ⟨hh, g, d, t, os'⟩ := s'
  obtain rfl : os' = s.os := os
  exact ⟨v, H', I.call (h' := hh) (g' := g) (d' := d) (t' := t) (ch := []) un hok bare (fun b z => absurd z (by simp)), r, q⟩
end
noncomputable def z7e (sp : Sp) (dvs : List V) (E : XK) (t : TA) : TE := fun σ H Q => t σ H fun vs H1 => sp (vs ++ dvs) H1 Q E
noncomputable def y0f (K : PySem.W.Frag) (fd : FuncData) (ps : List Str) (ds : List Value) : Prop :=
  ∀ (s : Shared) (us : List Value), K.In s.heap -> (us ++ ds).length = ps.length -> BindsTo s fd ⟨us, []⟩ (ps.zip (us ++ ds))
theorem y0f.all {K : PySem.W.Frag} {fd : FuncData} {ps : List Str} (h : ∀ us : List Value, us.length = ps.length -> bindArgs fd ⟨us, []⟩ = pure (ps.zip us)) : y0f K fd ps [] := fun s us _ hl => by
  rw [List.append_nil] at hl ⊢
  exact .of_eq (h us hl)
noncomputable def y3u (CX : CXT) (X : Cx) (E : XK) : Prop := ∀ (pins : List (Addr × Obj)) (σ : St) (H : Hp) (s : Shared) (e : Value) (s' : Shared), Inv X pins σ H s -> CX X.stack H s E e s' -> X.xe e s'
section
variable {X : Cx} {CX : CXT} {k : Nat} {f C : Addr} {fd : FuncData} {ps : List Str} {sp : Sp} {dvs : List V} {ds : List Value} {E : XK} {x m : Str} {p pos apos : Pos} {e o : Expr} {es : List Expr} {ta : TE} {t : TA}
theorem z6p {pins : List (Addr × Obj)} {σ : St} {H : Hp} {s : Shared} {Q : VK} {us : List Value} {vs : List V} (F : FnOk X.prog X.w X.K X.mg X.base CX k f fd ps sp) (hr : Room k X.A) (hb : y0f X.K fd ps ds) (hd : x2m dvs ds) (hx : y3u CX X E)
    (I : Inv X pins σ H s) (r : x2m vs us) (h : sp (vs ++ dvs) H Q E) : wpAny (model X.prog X.w) X.A (call (.ref f) us) (EP X pins σ Q) X.xe s := by
  have r2 : x2m (vs ++ dvs) (us ++ ds) := r.append hd
  have hl : (us ++ ds).length = ps.length := by rw [<- r2.length]; exact F.len _ _ _ _ h
  refine wpAny_call (codeAny_mono (F.run X.A X.stack s H ⟨us, []⟩ (us ++ ds) (vs ++ dvs) Q E hr I.env0 (hb s us I.kIn hl) r2 h) fun r s' hq => ?_)
  cases r with
  | error e => exact hx pins σ H s e s' I hq
  | ok fl =>
    cases fl with
    | ret u => exact I.after hq
    | next => exact False.elim hq
    | brk => exact False.elim hq
    | cont => exact False.elim hq
theorem y74 (F : FnOk X.prog X.w X.K X.mg X.base CX k f fd ps sp) (hr : Room k X.A) (hg : Gl X x) (hm : X.mg x = some (.ref f)) (hk : PySem.W.keepIn X.K (.ref f) = true) (hb : y0f X.K fd ps ds) (hd : x2m dvs ds) (hx : y3u CX X E)
    (ha : PA X (e :: es) t) (hdb : (x == ("__debug__" : Str)) = false := by decide) (he : starEach (e :: es) X.env = (false, eval e X.env) :: starEach es X.env := by rfl) (hpl : (backTo pos (starEach es X.env)).any (·.1) = false := by rfl) :
    PE X (.Call (.Name x p) (e :: es) [] pos) (z7e sp dvs E t) := by
  intro pins s σ H Q I h
  refine wpAny_Call_Name_kw (x8v I hg hm ?_ hdb)
  refine PySem.W.callWith_K (h₀ := X.base) I.ok.mod.kin hk (thn (ha pos pins s σ H _ I h) fun us s1 ⟨vs, H1, I1, r, q⟩ => ⟨I1.kIn, ?_⟩) he hpl
  exact z6p F hr hb hd hx I1 r q
end
structure FnScope (N P : List Str) (sc : Scope) : Prop where
  kind : sc.kind = .function
  co : sc.isCoroutine = false
  gen : sc.isGenerator = false
  nd : N.Nodup
  pre : N.take P.length = P
  par : ∀ x ∈ P, sc.names.lookup x = some .local \/ sc.names.lookup x = some .cell
  nofree : ∀ y ∈ sc.names, y.2 ≠ .free
theorem y1e {kindOf : Str -> Option NameKind} {x : Str} : ∀ {binds : List (Str × Value)} {m : Str -> Option Value}, (∀ v, (x, v) ∉ binds) -> bindL kindOf binds m x = m x
  | [], _, _ => rfl
  | (n, v) :: r, m, h => by
    unfold bindL
    rw [y1e fun w hw => h w (List.mem_cons_of_mem _ hw)]
    split
    · have : x ≠ n := by rintro rfl; exact h v List.mem_cons_self
      simp [this]
    · rfl
theorem y1f {kindOf : Str -> Option NameKind} {x : Str} : ∀ {binds : List (Str × Value)} {m : Str -> Option Value}, (∀ v, (x, v) ∉ binds) -> bindC kindOf binds m x = m x
  | [], _, _ => rfl
  | (n, v) :: r, m, h => by
    unfold bindC
    rw [y1f fun w hw => h w (List.mem_cons_of_mem _ hw)]
    split
    · rfl
    · have : x ≠ n := by rintro rfl; exact h v List.mem_cons_self
      simp [this]
theorem y2d {kindOf : Str -> Option NameKind} {x : Str} {v : Value} : ∀ {P : List Str} {vs : List Value} {i : Nat} {m : Str -> Option Value}, P.Nodup -> P[i]? = some x -> vs[i]? = some v -> kindOf x = some .local ->
    bindL kindOf (P.zip vs) m x = some v
  | [], _, _, _, _, h, _, _ => by simp at h
  | _ :: _, [], _, _, _, _, h, _ => by simp at h
  | p :: P, w :: vs, 0, m, nd, h1, h2, hk => by
    simp at h1 h2; subst h1; subst h2
    show bindL kindOf ((p, w) :: P.zip vs) m p = _
    unfold bindL
    rw [y1e fun v hv => (List.nodup_cons.mp nd).1 (List.of_mem_zip hv).1, if_pos hk]
    simp
  | p :: P, w :: vs, i + 1, m, nd, h1, h2, hk => by
    show bindL kindOf ((p, w) :: P.zip vs) m x = _
    unfold bindL
    exact y2d (i := i) (List.nodup_cons.mp nd).2 (by simpa using h1) (by simpa using h2) hk
theorem y25 {kindOf : Str -> Option NameKind} {x : Str} {v : Value} : ∀ {P : List Str} {vs : List Value} {i : Nat} {m : Str -> Option Value}, P.Nodup -> P[i]? = some x -> vs[i]? = some v -> kindOf x ≠ some .local ->
    bindC kindOf (P.zip vs) m x = some v
  | [], _, _, _, _, h, _, _ => by simp at h
  | _ :: _, [], _, _, _, _, h, _ => by simp at h
  | p :: P, w :: vs, 0, m, nd, h1, h2, hk => by
    simp at h1 h2; subst h1; subst h2
    show bindC kindOf ((p, w) :: P.zip vs) m p = _
    unfold bindC
    rw [y1f fun v hv => (List.nodup_cons.mp nd).1 (List.of_mem_zip hv).1, if_neg hk]
    simp
  | p :: P, w :: vs, i + 1, m, nd, h1, h2, hk => by
    show bindC kindOf ((p, w) :: P.zip vs) m x = _
    unfold bindC
    exact y25 (i := i) (List.nodup_cons.mp nd).2 (by simpa using h1) (by simpa using h2) hk
noncomputable def x9j (N : List Str) (vs : List V) : St := vs.map some ++ List.replicate (N.length - vs.length) none
noncomputable def y5f (CX : CXT) (P : Program) (w : World) (K : PySem.W.Frag) (mg : Str -> Option Value) (base : Heap) (N : List Str) (qual : Str) (scope : Scope) (f : Addr) (cd : Value) (A : Around) (outer : List Env) (s : Shared) (H : Hp) (E : XK) : Cx where
  prog := P
  w := w
  K := K
  mg := mg
  base := base
  A := A.deeper (envOfC qual scope s.heap.objs.size f cd)
  N := N
  s₀ := s
  H₀ := H
  env := envOfC qual scope s.heap.objs.size f cd
  outer := outer
  stack := envOfC qual scope s.heap.objs.size f cd :: outer
  ex := []
  calm := true
  fn := fun _ => true
  pn := []
  xe := fun e s' => wpAny (model P w) (A.deeper (envOfC qual scope s.heap.objs.size f cd)) (leaving (envOfC qual scope s.heap.objs.size f cd) e) (fun _ s'' => CX outer H s E e s'') (fun e' s'' => CX outer H s E e' s'') s'
theorem y3x {sc : Scope} {n : Nat} {x : Str} (h : sc.names.lookup x = some .cell) : ∃ c, (cellsFrom n sc.names []).lookup x = some c := by
  have q := PySem.W.cellsFrom_some sc.names n [] (.inl h)
  exact Option.isSome_iff_exists.mp q
theorem y6u {CX : CXT} {P : Program} {w : World} {K : PySem.W.Frag} {mg : Str -> Option Value} {base : Heap} {N ps : List Str} {qual : Str} {scope : Scope} {f : Addr} {cd : Value} {A : Around} {outer : List Env} {s s1 : Shared} {H : Hp} {E : XK} {us : List Value} {vs : List V}
    (S : FnScope N ps scope) (hd : A.handled = none) (e0 : Env0 P w K mg base A outer s H) (hl : vs.length = ps.length) (r : x2m vs us)
    (x : InCallC s s.heap.objs.size (bindL (envOfC qual scope s.heap.objs.size f cd).kindOf (ps.zip us) fun _ => none) (cellsFrom (s.heap.objs.size + 1) scope.names []) (bindC (envOfC qual scope s.heap.objs.size f cd).kindOf (ps.zip us) fun _ => none) s1) :
    Inv (y5f CX P w K mg base N qual scope f cd A outer s H E) [] (x9j N vs) H s1 := by
  have hpl : ps.length <= N.length := by have := congrArg List.length S.pre; rw [List.length_take] at this; omega
  obtain ⟨h1, tk, rfl, hk⟩ := x.done
  have noA : ∀ b : Addr, b ∉ (y5f CX P w K mg base N qual scope f cd A outer s H E).ex := fun b z => absurd (show b ∈ ([] : List Addr) from z) (by simp)
  refine ⟨⟨e0.mod, S.kind, rfl, rfl, Nat.le_refl _, fun y z c h1 h2 => ?_, fun y hy => ?_, fun y c _ h => ?_, fun _ => hd, Around.frames_deeper e0.frames, .inr ⟨rfl, rfl⟩, fun b z => absurd z (noA b), e0.bs, e0.bsz, fun b _ _ => noA b, fun b z => absurd z (noA b), e0.funs, e0.frf⟩,
    rfl, e0.bare, Un.kept hk, ⟨_, x.toInCall.ns, fun i y v h1 h2 h3 => ?_⟩, fun y c h => ⟨_, x.cell y c h⟩, e0.hok.fresh (Nat.le_refl _), fun y c h => ?_, fun p hp => absurd (show p ∈ ([] : List (Addr × Obj)) from hp) (by simp), e0.hok.kept hk, ?_⟩
  · exact name_of_addr x.apart (PySem.mem_of_lookup h1) (PySem.mem_of_lookup h2)
  · have hy : scope.names.lookup y = some .cell \/ scope.names.lookup y = some .free := hy
    rcases hy with hy | hy
    · exact y3x hy
    · exact absurd rfl (S.nofree _ (PySem.mem_of_lookup hy))
  · exact Nat.le_of_lt (x.above y c (PySem.mem_of_lookup h))
  · have hi : i < vs.length := by
      unfold x9j at h2
      by_cases hi : i < vs.length
      · exact hi
      · rw [List.getElem?_append_right (by simpa using hi)] at h2
        rw [List.getElem?_replicate] at h2
        split at h2 <;> cases h2
    have ha : vs[i]? = some v := by
      unfold x9j at h2
      rw [List.getElem?_append_left (by simpa using hi), List.getElem?_map] at h2
      cases e : vs[i]? with
      | none => rw [e] at h2; cases h2
      | some a => rw [e] at h2; cases h2; rfl
    obtain ⟨u, hu, rv⟩ := r.get ha
    have hp : ps[i]? = some y := by
      rw [<- S.pre, List.getElem?_take_of_lt (by omega)]; exact h1
    have ndP : ps.Nodup := by rw [<- S.pre]; exact S.nd.sublist (List.take_sublist _ _)
    refine ⟨u, rv, ?_⟩
    rcases S.par y (List.mem_of_getElem? hp) with k | k
    · exact .inl ⟨k, y2d ndP hp hu k⟩
    · obtain ⟨c, e⟩ := y3x (n := s.heap.objs.size + 1) k
      refine .inr ⟨.inl k, c, e, ?_⟩
      have q := x.cell y c e
      rw [y25 ndP hp hu (by show scope.names.lookup y ≠ _; rw [k]; decide)] at q
      exact q
  · exact e0.hok.fresh (Nat.le_of_lt (x.above y c (PySem.mem_of_lookup h)))
  · unfold x9j
    show _ = N.length
    rw [List.length_append, List.length_map, List.length_replicate]
    omega
theorem z4w {CX : CXT} {P : Program} {w : World} {K : PySem.W.Frag} {mg : Str -> Option Value} {base : Heap} {k : Nat} {f : Addr} {name qual : Str} {params : Arguments} {body : List Stmt} {scope : Scope} {dV kV doc pm cdv ct oc : Value} {an od : Option Addr}
    {osl : Array (Option Value)} {N ps : List Str} {sp : Sp} (lk : K.lookup f = some ⟨oc, od, .func (PySem.W.fnOf name qual params body scope dV kV doc pm an cdv ct), osl⟩) (hcd : PySem.W.codeIn K cdv qual = true) (S : FnScope N ps scope)
    (len : ∀ vs H Q E, sp vs H Q E -> vs.length = ps.length)
    (hbody : ∀ (A : Around) (outer : List Env) (s : Shared) (H : Hp) (vs : List V) (Q : VK) (E : XK), Room k (A.deeper (envOfC qual scope s.heap.objs.size f cdv)) -> sp vs H Q E ->
      ∃ t, PSs (y5f CX P w K mg base N qual scope f cdv A outer s H E) body t /\ t { nx := fun _ H' => Q .non H', rt := Q } (x9j N vs) H) :
    FnOk P w K mg base CX (k + 1) f (PySem.W.fnOf name qual params body scope dV kV doc pm an cdv ct) ps sp := by
  refine ⟨len, fun A outer s H args us vs Q E hr e0 hb r hsp => ?_⟩
  have hl := len _ _ _ _ hsp
  have KX : K.In s.heap := e0.mod.kin.keeps fun b o e => (e0.bs b o e).1
  have lim : s.heap.NoLimit := e0.mod.nolimit.keeps fun b o e => (e0.bs b o e).1
  have hkind : ∀ y ∈ ps.zip us, scope.names.lookup y.1 = some .local \/ (scope.names.lookup y.1 = some .cell /\ ((cellsFrom (s.heap.objs.size + 1) scope.names []).lookup y.1).isSome = true) := fun ⟨n, v⟩ hy => by
    rcases S.par n (List.of_mem_zip hy).1 with q | q
    · exact .inl q
    · exact .inr ⟨q, PySem.W.cellsFrom_some _ _ _ (.inl q)⟩
  refine codeAny_call_function hr.depth (KX _ _ lk) rfl S.co S.gen rfl (PySem.W.codeRec_of KX hcd) (hb _ _ _ _ ?_)
  refine wpAny_newFunctionEnv_cells S.kind hkind fun env he s1 x => ?_
  subst he
  refine ⟨lim.keeps x.toInCall.keep, codeAny_func ?_⟩
  obtain ⟨t, ht, hq⟩ := hbody A outer s H vs Q E (hr.deeper _) hsp
  have I : Inv (y5f CX P w K mg base N qual scope f cdv A outer s H E) [] (x9j N vs) H s1 := y6u S hr.hd e0 hl r x
  refine wpAny_mono (ht [] s1 (x9j N vs) H _ I hq) (fun fl s' hs => ?_) fun e s' hs => hs
  have fin : ∀ {σ' : St} {H' : Hp} {v : V} {u : Value}, Inv (y5f CX P w K mg base N qual scope f cdv A outer s H E) [] σ' H' s' -> x4b v u -> Q v H' -> CE outer P w H s Q u s' :=
    fun {σ' H' v u} J rv q => ⟨v, H', J.os, J.bare, J.base, J.hok, rv, q⟩
  cases fl with
  | ret u =>
    obtain ⟨v, σ', H', J, rv, q⟩ := hs
    exact fin J rv q
  | next =>
    obtain ⟨σ', H', J, q⟩ := hs
    exact fin (v := V.non) (u := Value.none) J rfl q
  | brk =>
    obtain ⟨_, _, _, q⟩ := hs
    exact False.elim q
  | cont =>
    obtain ⟨_, _, _, q⟩ := hs
    exact False.elim q
section
variable {X : Cx} {x : Str} {p pos : Pos} {e : Expr} {es : List Expr} {t : TA} {id T : String} {r : List V -> Hp -> VK -> Prop}
noncomputable def tCB (r : List V -> Hp -> VK -> Prop) (t : TA) : TE := fun σ H Q => t σ H fun vs H1 => r vs H1 Q
theorem x64 (hc : x84 X (.builtin id) r) (hg : Gl X x) (hm : X.mg x = none) (hv : bootBuiltins x = some (.builtin id)) (ha : PA X (e :: es) t) (hn : x ≠ "__name__" := by decide) (hdb : (x == ("__debug__" : Str)) = false := by decide)
    (he : starEach (e :: es) X.env = (false, eval e X.env) :: starEach es X.env := by rfl) (hpl : (backTo pos (starEach es X.env)).any (·.1) = false := by rfl) : PE X (.Call (.Name x p) (e :: es) [] pos) (tCB r t) := by
  intro pins s σ H Q I h
  refine wpAny_Call_Name_kw (x93 I hg hm hv ?_ hn hdb)
  exact PyProof.Rows.callWith_builtin1 (thn (ha pos pins s σ H _ I h) fun us s1 ⟨vs, H1, I1, r1, q1⟩ => hc pins s1 σ H1 vs us Q I1 r1 q1) he hpl
theorem x70 (hc : x84 X (.type T) r) (hg : Gl X x) (hm : X.mg x = none) (hv : bootBuiltins x = some (.type T)) (ha : PA X (e :: es) t) (hn : x ≠ "__name__" := by decide) (hdb : (x == ("__debug__" : Str)) = false := by decide)
    (he : starEach (e :: es) X.env = (false, eval e X.env) :: starEach es X.env := by rfl) (hpl : (backTo pos (starEach es X.env)).any (·.1) = false := by rfl) : PE X (.Call (.Name x p) (e :: es) [] pos) (tCB r t) := by
  intro pins s σ H Q I h
  refine wpAny_Call_Name_kw (x93 I hg hm hv ?_ hn hdb)
  exact PyProof.Rows.callWith_type1 (thn (ha pos pins s σ H _ I h) fun us s1 ⟨vs, H1, I1, r1, q1⟩ => hc pins s1 σ H1 vs us Q I1 r1 q1) he hpl
end
end L2
namespace HT
open PySem PyProof.Rows
section
open PySem.SeqAt
open PySem.AutoSeq1 (wpAny_loadPart')
open PySem.MeetsSeq PySem.MeetsSeq2 PySem.MeetsSeq3
end
section
variable {prog : Program} {w : World} {A : Around} {E : Value -> Shared -> Prop} {s : Shared}
theorem z89 {t b : Addr} {vs ws : List Value} {Q : Value -> Shared -> Prop} (ht : IsTup s.heap t vs.toArray) (hb : IsTup s.heap b ws.toArray) (hv : vs ≠ [])
    (h1 : ws = [] -> Q (.ref t) s) (h2 : ws ≠ [] -> Q (.ref s.heap.objs.size) { s with heap := s.heap.push { cls := .type "tuple", data := .seq (vs ++ ws).toArray } })
    (hsz : vs.length + ws.length <= sizeLine) : wpAny (model prog w) A (binaryOp .Add (.ref t) (.ref b)) Q E s := by
  obtain ⟨⟨cls, dd, data, sl⟩, ho, hc, n, hd⟩ := id ht
  obtain ⟨⟨cls2, dd2, data2, sl2⟩, ho2, hc2, n2, hd2⟩ := id hb
  simp only at hc hd hc2 hd2
  subst hc hd hc2 hd2
  have e : vs.toArray ++ ws.toArray = (vs ++ ws).toArray := by simp
  by_cases hw : ws = []
  · exact concat_meets ⟨_, ho, rfl⟩ ⟨_, ho2, rfl⟩ noFill_tuple_add seq_tuple_add PySem.F.slot_tuple_add PySem.F.entry_tuple_add (PySem.F.args_tuple_add_2 _ _)
      (tuple_addW1 t b vs.toArray ws.toArray n n2 dd dd2 sl sl2 (by simpa using hv) (by simp [hw])) ⟨ho, ho2, h1 hw⟩
  · refine concat_meets ⟨_, ho, rfl⟩ ⟨_, ho2, rfl⟩ noFill_tuple_add seq_tuple_add PySem.F.slot_tuple_add PySem.F.entry_tuple_add (PySem.F.args_tuple_add_2 _ _)
      (tuple_addW2 t b vs.toArray ws.toArray n n2 dd dd2 sl sl2 (by simpa using hv) (by simpa using hw) (by rw [List.size_toArray, List.size_toArray]; exact hsz)) ⟨ho, ho2, ?_⟩
    rw [e]
    exact h2 hw
noncomputable def sIx (n d : Nat) : Option Int -> Nat
  | none => d
  | some v => if v < 0 then (v + (n : Int)).toNat else min v.toNat n
theorem z47 (n d : Nat) (hd : d <= n) (o : Option Int) : sIx n d o <= n := by
  cases o with
  | none => exact hd
  | some v =>
    show (if v < 0 then (v + (n : Int)).toNat else min v.toNat n) <= n
    by_cases hv : v < 0
    · rw [if_pos hv]; omega
    · rw [if_neg hv]; exact Nat.min_le_right _ _
theorem y6l (v : Int) (n d : Nat) : (if v < 0 then max (v + (n : Int)) 0 else min v (n : Int)) = ((sIx n d (some v) : Nat) : Int) := by
  show (if v < 0 then max (v + (n : Int)) 0 else min v (n : Int)) = (((if v < 0 then (v + (n : Int)).toNat else min v.toNat n) : Nat) : Int)
  by_cases hv : v < 0
  · simp only [if_pos hv]; omega
  · simp only [if_neg hv]; omega
theorem y4k (lo hi : Option Int) (n : Nat) : Builtin.Slice.sliceAdjust lo hi 1 (n : Int) = (((sIx n 0 lo : Nat) : Int), ((sIx n n hi : Nat) : Int)) := by
  have h1 : ¬ ((1 : Int) < 0) := by omega
  unfold Builtin.Slice.sliceAdjust
  simp only [h1, if_false]
  refine Prod.ext ?_ ?_
  · cases lo with
    | none => rfl
    | some v => exact y6l v n 0
  · cases hi with
    | none => rfl
    | some v => exact y6l v n n
theorem y4u (i j : Nat) : Builtin.Slice.slicePlaces (i : Int) (j : Int) 1 = j - i := by
  unfold Builtin.Slice.slicePlaces
  have h1 : (1 : Int) > 0 := by omega
  simp only [h1, if_true, Int.ediv_one]
  split <;> omega
theorem y02 {v : Value} {o : Option Int} {Q : Option Int -> Shared -> Prop} (p : IsPart v o) (h : Q o s) : wpAny (model prog w) A (Builtin.Slice.slicePartIndex v) Q E s := by
  cases p with
  | none => exact slicePart_none h
  | int i t => exact slicePart_int h
theorem x83 {sl : Addr} {vl vu : Value} {lo hi : Option Int} {n : Nat} {Q : Int × Int × Nat -> Shared -> Prop} (hs : s.heap.IsSliceOf sl vl vu .none) (pl : IsPart vl lo) (pu : IsPart vu hi)
    (h : Q (((sIx n 0 lo : Nat) : Int), 1, sIx n n hi - sIx n 0 lo) s) : wpAny (model prog w) A (Builtin.Slice.sliceApplied (.ref sl) (pure (n : Int))) Q E s := by
  obtain ⟨os, hos, hcs, hds⟩ := id hs
  unfold Builtin.Slice.sliceApplied Builtin.Slice.sliceFields
  refine wpAny_bind (wpAny_bind (wpAny_field hos hds (x := vl) rfl (wpAny_bind (wpAny_field hos hds (x := vu) rfl (wpAny_bind (wpAny_field hos hds (x := .none) rfl (wpAny_pure ?_)))))))
  refine wpAny_bind (slicePart_none ?_)
  show wpAny _ _ (if ((1 : Int) == 0) = true then _ else _) _ _ s
  rw [if_neg (by decide)]
  refine wpAny_bind (y02 pl (wpAny_bind (y02 pu (wpAny_bind (wpAny_pure ?_)))))
  show wpAny _ _ (match Builtin.Slice.sliceAdjust lo hi 1 (n : Int) with | (lo, hi) => pure (lo, (1 : Int), Builtin.Slice.slicePlaces lo hi 1)) _ _ s
  rw [y4k lo hi n]
  show wpAny _ _ (pure (((sIx n 0 lo : Nat) : Int), (1 : Int), Builtin.Slice.slicePlaces ((sIx n 0 lo : Nat) : Int) ((sIx n n hi : Nat) : Int) 1)) _ _ s
  rw [y4u]
  exact wpAny_pure h
theorem y7u (xs : Array Value) (i k : Nat) : ((List.range k).filterMap fun (m : Nat) => xs[((i : Int) + (m : Int) * 1).toNat]?).toArray = ((xs.toList.drop i).take k).toArray := by
  have e : (fun (m : Nat) => xs[((i : Int) + (m : Int) * 1).toNat]?) = fun m => xs[i + m]? := by
    funext m
    have : ((i : Int) + (m : Int) * 1).toNat = i + m := by omega
    rw [this]
  rw [e]
  have := pick_run xs i k
  rw [List.filterMap_map] at this
  have e2 : ((fun x => xs[x]?) ∘ fun x => i + x) = fun m => xs[i + m]? := rfl
  rw [e2] at this
  rw [this]
theorem y53 {t sl : Addr} {items : Array Value} {vl vu : Value} {lo hi : Option Int} {Q : Value -> Shared -> Prop} (ht : IsTup s.heap t items) (hs : s.heap.IsSliceOf sl vl vu .none) (pl : IsPart vl lo) (pu : IsPart vu hi)
    (hw : ¬ (sIx items.size 0 lo = 0 /\ sIx items.size items.size hi = items.size))
    (h : Q (.ref s.heap.objs.size) { s with heap := s.heap.push { cls := .type "tuple", data := .seq ((items.toList.drop (sIx items.size 0 lo)).take (sIx items.size items.size hi - sIx items.size 0 lo)).toArray } })
    (hsz : items.size <= sizeLine) : wpAny (model prog w) A (getItem (.ref t) (.ref sl)) Q E s := by
  have htake : sizeOk (.seq ((items.toList.drop (sIx items.size 0 lo)).take (sIx items.size items.size hi - sIx items.size 0 lo)).toArray) := by
    show ((items.toList.drop (sIx items.size 0 lo)).take (sIx items.size items.size hi - sIx items.size 0 lo)).toArray.size <= sizeLine
    rw [List.size_toArray, List.length_take, List.length_drop, Array.length_toList]
    omega
  have hj : sIx items.size items.size hi <= items.size := z47 _ _ (Nat.le_refl _) hi
  obtain ⟨os, hos, hcs, hds⟩ := id hs
  have hTs : s.TypeIs (.ref sl) "slice" := ⟨os, hos, hcs⟩
  unfold getItem
  try with_reducible refine wpAny_holding ?_
  first | refine wpAny_bind (wpAny_pure ?_) | skip
  refine wpAny_bind (wpAny_sequenceKey ht.typeIs (by decide) ?_)
  refine wpAny_bind (wpAny_callSpecial?_slot (name := Str.ofString "__getitem__") ht.typeIs PyProof.Rows.slot_tuple_getitem
    (wpAny_call_entry PyProof.Rows.slot_tuple_getitem ht.typeIs entry_tuple_getitem ?_ (args_tuple_getitem _ _)))
  show wpAny _ _ (Builtin.Tuple.tupleItemsOf (.ref t) >>= _) _ _ s
  refine wpAny_bind (tupleItemsOf_ ht ?_)
  refine wpAny_bind (wpAny_typeOf hTs ?_)
  rw [if_pos (by decide)]
  refine wpAny_bind (x83 hs pl pu ?_)
  have hno : ¬ ((((sIx items.size 0 lo : Nat) : Int) == 0 && (1 : Int) == 1 && (sIx items.size items.size hi - sIx items.size 0 lo) == items.size) = true) := by
    intro q
    rw [Bool.and_eq_true, Bool.and_eq_true] at q
    have q1 : ((sIx items.size 0 lo : Nat) : Int) = 0 := eq_of_beq q.1.1
    have q2 : sIx items.size items.size hi - sIx items.size 0 lo = items.size := eq_of_beq q.2
    exact hw ⟨by omega, by omega⟩
  show wpAny _ _ (if (((sIx items.size 0 lo : Nat) : Int) == 0 && (1 : Int) == 1 && (sIx items.size items.size hi - sIx items.size 0 lo) == items.size) = true then _ else _) _ _ s
  rw [if_neg hno, y7u]
  first
    | exact wpAny_bind (m := Builtin.Tuple.tupleExact _) (wpAny_newObj_type (wpAny_pure ⟨_, rfl, wpAny_pure h⟩) htake)
    | exact wpAny_bind (m := Builtin.Tuple.tupleExact _) (wpAny_newObj_type (wpAny_bind (wpAny_pure (wpAny_pure ⟨_, rfl, wpAny_pure h⟩))) htake)
    | exact wpAny_bind (wpAny_bind (m := Builtin.Tuple.tupleExact _) (wpAny_newObj_type (wpAny_pure (wpAny_pure ⟨_, rfl, wpAny_pure h⟩)) htake))
    | exact wpAny_bind (wpAny_bind (m := Builtin.Tuple.tupleExact _) (wpAny_newObj_type (wpAny_pure ⟨_, rfl, wpAny_pure h⟩) htake))
end
end HT
namespace L2
open PySem PySem.Spec PyProof.Rows
noncomputable abbrev TO := St -> Hp -> (Option Int -> Hp -> Prop) -> Prop
noncomputable def PO (X : Cx) (e : Option Expr) (t : TO) : Prop :=
  ∀ (pins : List (Addr × Obj)) (s : Shared) (σ : St) (H : Hp) (Q : Option Int -> Hp -> Prop), Inv X pins σ H s -> t σ H Q ->
    wpAny (model X.prog X.w) X.A (evalPart e X.env) (fun u s' => ∃ o H', Inv X pins σ H' s' /\ IsPart u o /\ Q o H') X.xe s
noncomputable def z1y : TO := fun _ H Q => Q none H
noncomputable def z79 (t : TE) : TO := fun σ H Q => t σ H fun x H1 => ∃ i, x = .int i /\ Q (some i) H1
section
variable {X : Cx} {e : Expr} {te : TE} {lo hi : Option Expr} {tl th : TO} {pos p2 : Pos}
theorem z3a : PO X none z1y := by
  intro pins s σ H Q I h
  rw [evalPart_none]
  exact wpAny_pure ⟨none, H, I, .none, h⟩
theorem z0y (h : PE X e te) : PO X (some e) (z79 te) := by
  intro pins s σ H Q I hw
  rw [evalPart_some]
  refine thn (h pins s σ H _ I hw) fun u s1 hh0 => ?_
  obtain ⟨x, H1, I1, r1, q1⟩ := hh0
  obtain ⟨i, rfl, q⟩ := q1
  obtain ⟨t, rfl⟩ := r1
  exact ⟨some i, H1, I1, .int i t, q⟩
noncomputable def SlR (X : Cx) (r : V -> Option Int -> Option Int -> Hp -> VK -> Prop) : Prop :=
  ∀ (pins : List (Addr × Obj)) (s : Shared) (σ : St) (H : Hp) (x : V) (v vl vu : Value) (lo hi : Option Int) (sl : Addr) (Q : VK), Inv X pins σ H s -> x4b x v -> s.heap.IsSliceOf sl vl vu .none -> IsPart vl lo -> IsPart vu hi -> r x lo hi H Q ->
    ∃ T id, typeLookup (.type T) "__getitem__" = pure (some (.builtin id)) /\ s.TypeIs v T /\ wpAny (model X.prog X.w) X.A (getItem v (.ref sl)) (EP X pins σ Q) X.xe s
theorem SlR.or {r r' : V -> Option Int -> Option Int -> Hp -> VK -> Prop} (h : SlR X r) (h' : SlR X r') : SlR X (fun x lo hi H Q => r x lo hi H Q \/ r' x lo hi H Q) := by
  intro pins s σ H x v vl vu lo hi sl Q I rx hs pl pu q
  rcases q with q | q
  · exact h pins s σ H x v vl vu lo hi sl Q I rx hs pl pu q
  · exact h' pins s σ H x v vl vu lo hi sl Q I rx hs pl pu q
noncomputable def tSl (r : V -> Option Int -> Option Int -> Hp -> VK -> Prop) (te : TE) (tl th : TO) : TE := fun σ H Q => te σ H fun x H1 => tl σ H1 fun l H2 => th σ H2 fun u H3 => r x l u H3 Q
theorem y99 {r : V -> Option Int -> Option Int -> Hp -> VK -> Prop} (hr : SlR X r) (he : PE X e te) (hl : PO X lo tl) (hu : PO X hi th) : PE X (.Subscript e (.Slice lo hi none p2) pos) (tSl r te tl th) := by
  intro pins s σ H Q I h
  refine Subscript_ (thn (he pins s σ H _ I h) fun v s1 hh0 => ?_)
  obtain ⟨x, H1, I1, r1, q1⟩ := hh0
  refine wpAny_Slice (thn (hl pins s1 σ H1 _ I1 q1) fun vl s2 ⟨l, H2, I2, pl, q2⟩ => thn (hu pins s2 σ H2 _ I2 q2) fun vu s3 hh0 => ?_)
  obtain ⟨u, H3, I3, pu, q3⟩ := hh0
  rw [evalPart_none]
  refine wpAny_pure ?_
  have I4 : Inv X pins σ H3 { s3 with heap := s3.heap.push { cls := .type "slice", data := .fields #[vl, vu, .none] } } := I3.kept (t' := s3.toks) fun b ob q => Heap.get?_push_of_some _ q
  obtain ⟨T, id, hT, ht, hg⟩ := hr pins { s3 with heap := s3.heap.push { cls := .type "slice", data := .fields #[vl, vu, .none] } } σ H3 x v vl vu l u s3.heap.objs.size Q I4 r1 (Heap.IsSliceOf.new ..) pl pu q3
  show wpAny (model X.prog X.w) X.A (subscriptTail e (.Slice lo hi none p2) v (.ref s3.heap.objs.size)) (EP X pins σ Q) X.xe { s3 with heap := s3.heap.push { cls := .type "slice", data := .fields #[vl, vu, .none] } }
  exact tail_any (ops := [.ref s3.heap.objs.size, v]) ht hT hg (by with_unfolding_all rfl)
noncomputable def z08 (xs : List V) (lo hi : Option Int) : List V := (xs.drop (HT.sIx xs.length 0 lo)).take (HT.sIx xs.length xs.length hi - HT.sIx xs.length 0 lo)
theorem x8x (xs : List V) (lo hi : Option Int) : (z08 xs lo hi).length <= xs.length := by
  unfold z08
  rw [List.length_take, List.length_drop]
  omega
noncomputable def z95 (K : PySem.W.Frag) : V -> Option Int -> Option Int -> Hp -> VK -> Prop := fun x lo hi H Q => ∃ a xs, x = .ref a /\ SqT K H a xs /\
  ¬ (HT.sIx xs.length 0 lo = 0 /\ HT.sIx xs.length xs.length hi = xs.length) /\ ∀ p, H p = none -> Q (.ref p) (upd H p (.tup (z08 xs lo hi)))
theorem z68 : SlR X (z95 X.K) := by
  intro pins s σ H x v vl vu lo hi sl Q I rx hs pl pu h
  obtain ⟨a, xs, rfl, hx, hw, q⟩ := h
  cases rx
  obtain ⟨its, r, ht, hz⟩ := I.tuple hx
  have hlen : its.toArray.size = xs.length := by rw [List.size_toArray]; exact r.length.symm
  refine ⟨"tuple", _, PyProof.Rows.slot_tuple_getitem.lookup, ht.typeIs, ?_⟩
  refine HT.y53 ht hs pl pu (by rw [hlen]; exact hw) ?_ (by rw [hlen]; exact hz)
  rw [hlen]
  refine ⟨.ref s.heap.objs.size, _, I.laid (t' := s.toks) (o := .tup (z08 xs lo hi)) (fun b ob q => Heap.get?_push_of_some _ q) (Nat.le_refl _) ?_, rfl, q _ (I.hok.fresh (Nat.le_refl _))⟩
  exact ⟨Nat.le_trans (x8x xs lo hi) hz, _, (r.drop (HT.sIx xs.length 0 lo)).take (HT.sIx xs.length xs.length hi - HT.sIx xs.length 0 lo), x4u.new _ _⟩
noncomputable def z7j (K : PySem.W.Frag) : R2 := fun x y H Q => ∃ a b xs ys, x = .ref a /\ y = .ref b /\ SqT K H a xs /\ SqT K H b ys /\ xs ≠ [] /\ xs.length + ys.length <= sizeLine /\
  (ys = [] -> Q (.ref a) H) /\ (ys ≠ [] -> ∀ p, H p = none -> Q (.ref p) (upd H p (.tup (xs ++ ys))))
theorem x2m.nil_iff {xs : List V} {us : List Value} (r : x2m xs us) : us = [] ↔ xs = [] := by
  cases r with
  | nil => simp
  | cons _ _ => simp
theorem z1q : OpR X (binaryOp .Add) (z7j X.K) := by
  intro pins s σ H x y v u Q I rx ry h
  obtain ⟨a, b, xs, ys, rfl, rfl, ha, hb, hx, hz, q1, q2⟩ := h
  cases rx
  cases ry
  obtain ⟨its, r1, p1, _⟩ := I.tuple ha
  obtain ⟨its2, r2, p2, _⟩ := I.tuple hb
  refine HT.z89 p1 p2 (fun z => hx (r1.nil_iff.mp z)) (fun z => ⟨.ref a, H, I, rfl, q1 (r2.nil_iff.mp z)⟩) (fun z => ?_) (by rw [<- r1.length, <- r2.length]; exact hz)
  refine ⟨.ref s.heap.objs.size, _, I.laid (t' := s.toks) (o := .tup (xs ++ ys)) (fun b ob q => Heap.get?_push_of_some _ q) (Nat.le_refl _) ?_, rfl, q2 (fun w => z (r2.nil_iff.mpr w)) _ (I.hok.fresh (Nat.le_refl _))⟩
  exact ⟨by rw [List.length_append]; exact hz, _, r1.append r2, x4u.new _ _⟩
end
noncomputable def ixN (n : Nat) (i : Int) : Option Nat := if 0 <= i then (if i < n then some i.toNat else none) else if -(n : Int) <= i then some (i + n).toNat else none
noncomputable def atI {α : Type} (xs : List α) (i : Int) : Option α := (ixN xs.length i).bind fun j => xs[j]?
theorem y0y {n : Nat} {i : Int} {j : Nat} (h : ixN n i = some j) : seqIndex? i n = some j /\ j < n /\ -(n : Int) <= i /\ i < n := by
  unfold ixN at h
  by_cases h0 : 0 <= i
  · rw [if_pos h0] at h
    by_cases h1 : i < n
    · rw [if_pos h1] at h
      have e : i.toNat = j := Option.some.inj h
      exact ⟨by rw [seqIndex_of h0 h1, e], by omega, by omega, h1⟩
    · rw [if_neg h1] at h; cases h
  · rw [if_neg h0] at h
    by_cases h1 : -(n : Int) <= i
    · rw [if_pos h1] at h
      have e : (i + n).toNat = j := Option.some.inj h
      exact ⟨by rw [seqIndex_neg (by omega) h1, e], by omega, h1, by omega⟩
    · rw [if_neg h1] at h; cases h
theorem y2t {α : Type} {xs : List α} {i : Int} {v : α} (h : atI xs i = some v) : ∃ j, seqIndex? i xs.length = some j /\ xs[j]? = some v /\ j < xs.length /\ -(xs.length : Int) <= i /\ i < xs.length := by
  unfold atI at h
  cases e : ixN xs.length i with
  | none => rw [e] at h; cases h
  | some j =>
    rw [e] at h
    obtain ⟨h1, h2, h3, h4⟩ := y0y e
    exact ⟨j, h1, h, h2, h3, h4⟩
noncomputable def x5b (b : Expr) : Prop := ∀ o i, subscripted b false o i = operate [o, i] (getItem o i)
noncomputable def IxR (X : Cx) (r : R2) : Prop :=
  ∀ (value slice : Expr) (pins : List (Addr × Obj)) (s : Shared) (σ : St) (H : Hp) (x y : V) (v u : Value) (Q : VK), Inv X pins σ H s -> x4b x v -> x4b y u -> r x y H Q ->
    subscripted slice false v u = operate [v, u] (getItem v u) -> wpAny (model X.prog X.w) X.A (subscriptTail value slice v u) (EP X pins σ Q) X.xe s
noncomputable def MtR (X : Cx) (id : String) (r : V -> List V -> Hp -> VK -> Prop) : Prop :=
  ∀ (pins : List (Addr × Obj)) (s : Shared) (σ : St) (H : Hp) (x : V) (xs : List V) (v : Value) (us : List Value) (Q : VK), Inv X pins σ H s -> x4b x v -> x2m xs us -> r x xs H Q ->
    wpAny (model X.prog X.w) X.A (call (.builtin id) (v :: us)) (EP X pins σ Q) X.xe s
section
variable {X : Cx} {a b : Expr} {ta tb : TE} {pos : Pos}
theorem IxR.or {r r' : R2} (h : IxR X r) (h' : IxR X r') : IxR X (fun x y H Q => r x y H Q \/ r' x y H Q) := by
  intro value slice pins s σ H x y v u Q I rx ry q hs
  rcases q with q | q
  · exact h value slice pins s σ H x y v u Q I rx ry q hs
  · exact h' value slice pins s σ H x y v u Q I rx ry q hs
theorem y8w {r : R2} (hr : IxR X r) (ha : PE X a ta) (hb : PE X b tb) (hs : x5b b) : PE X (.Subscript a b pos) (tOp r ta tb) := by
  intro pins s σ H Q I h
  exact Subscript_ (z7u ha hb I h fun v u s2 x y H2 I2 rx ry q => hr a b pins s2 σ H2 x y v u Q I2 rx ry q (hs _ _))
noncomputable def z8l (K : PySem.W.Frag) : R2 := fun x y H Q => ∃ p xs i v, x = .ref p /\ y = .int i /\ SqL K H p xs /\ atI xs i = some v /\ Q v H
noncomputable def z8e (K : PySem.W.Frag) : R2 := fun x y H Q => ∃ p xs i v, x = .ref p /\ y = .int i /\ SqT K H p xs /\ atI xs i = some v /\ Q v H
noncomputable def z8g : R2 := fun x y H Q => ∃ z i c, x = .str z /\ y = .int i /\ z.length <= sizeLine /\ atI z.cps.toList i = some c /\ Q (.str ⟨#[c]⟩) H
theorem z3j : IxR X (z8l X.K) := by
  intro value slice pins s σ H x y v u Q I rx ry h hs
  obtain ⟨p, xs, i, z, rfl, rfl, hq, he, q⟩ := h
  cases rx
  obtain ⟨t, rfl⟩ := ry
  obtain ⟨its, r, pl, hz⟩ := I.list hq
  obtain ⟨j, h1, h2, h3, h4, h5⟩ := y2t he
  obtain ⟨w, ew, rw'⟩ := r.get h2
  have hl := r.length
  have hn := x9o
  have fin : EP X pins σ Q w s := ⟨z, H, I, rw', q⟩
  by_cases h0 : 0 <= i
  · have hj : i.toNat = j := by
      rw [seqIndex_of h0 h5] at h1
      exact Option.some.inj h1
    exact item_listR pl.isList h0 (by omega) (by rw [hj]; simpa using ew) fin hs
  · have hj : (i + (its.toArray.size : Int)).toNat = j := by
      rw [seqIndex_neg (by omega) h4] at h1
      rw [List.size_toArray, <- hl]
      exact Option.some.inj h1
    exact subscriptTail_builtinR (x := w) pl.isList.typeIs slot_list_getitem.lookup
      (wpAny_getItem_list_neg (Q := fun r s' => r = w /\ EP X pins σ Q r s') pl.isList (by omega) (by rw [List.size_toArray] <;> omega) (by omega) (by rw [hj]; simpa using ew) ⟨rfl, fin⟩) hs
theorem z4n : IxR X (z8e X.K) := by
  intro value slice pins s σ H x y v u Q I rx ry h hs
  obtain ⟨p, xs, i, z, rfl, rfl, hq, he, q⟩ := h
  cases rx
  obtain ⟨t, rfl⟩ := ry
  obtain ⟨its, r, pl, hz⟩ := I.tuple hq
  obtain ⟨j, h1, h2, h3, h4, h5⟩ := y2t he
  obtain ⟨w, ew, rw'⟩ := r.get h2
  have hl := r.length
  have hn := x9o
  have fin : EP X pins σ Q w s := ⟨z, H, I, rw', q⟩
  exact subscriptTail_builtinR (x := w) pl.typeIs slot_tuple_getitem.lookup
    (getItem_tuple (j := j) (Q := fun r s' => r = w /\ EP X pins σ Q r s') pl (by omega) (by omega) (by rw [List.size_toArray, <- hl]; exact h1) (by simpa using ew) ⟨rfl, fin⟩) hs
theorem z43 : IxR X z8g := by
  intro value slice pins s σ H x y v u Q I rx ry h hs
  obtain ⟨z, i, c, rfl, rfl, hz, he, q⟩ := h
  obtain ⟨t, rfl⟩ := rx
  obtain ⟨t', rfl⟩ := ry
  obtain ⟨j, h1, h2, h3, h4, h5⟩ := y2t he
  have hl : z.cps.toList.length = z.length := by simp [Str.length]
  rw [hl] at h1 h4 h5
  have hn := x9o
  exact tail_any (typeIs_str s z t) slot_str_getitem.lookup (getItem_str (c := c) (by
    have e1 : decide (i < -(2 ^ 63 : Int)) = false := decide_eq_false (by omega)
    have e2 : decide (i ≥ 2 ^ 63) = false := decide_eq_false (by omega)
    rw [e1, e2, Bool.or_false]) (by rw [h1]; simpa using h2) ⟨.str ⟨#[c]⟩, H, I.tok _, ⟨_, rfl⟩, q⟩) hs
noncomputable def rIx (K : PySem.W.Frag) : R2 := fun x y H Q => z8l K x y H Q \/ z8e K x y H Q \/ z8g x y H Q
theorem y3y : IxR X (rIx X.K) := z3j.or (z4n.or z43)
theorem y4z (its : List Value) (n j : Nat) (u : Value) : Obj.mapSeq (·.setIfInBounds j u) { cls := .type "list", data := .seq its.toArray n } = { cls := .type "list", data := .seq (its.set j u).toArray n } := by
  simp [Obj.mapSeq]
theorem Inv.lst {pins : List (Addr × Obj)} {σ : St} {H : Hp} {s : Shared} {p : Addr} {xs : List V} (I : Inv X pins σ H s) (h : H p = some (.lst xs)) :
    ∃ (its : List Value) (n : Nat), x2m xs its /\ s.heap.get? p = some { cls := .type "list", data := .seq its.toArray n } /\ xs.length <= sizeLine := by
  obtain ⟨z, its, n, r, e⟩ := I.hok p _ h
  exact ⟨its, n, r, e, z⟩
theorem Inv.lstUpd {pins : List (Addr × Obj)} {σ : St} {H : Hp} {s : Shared} {p : Addr} {xs ys : List V} {its its' : List Value} {n n' : Nat} {f : Obj -> Obj} (I : Inv X pins σ H s) (h : H p = some (.lst xs))
    (ho : s.heap.get? p = some { cls := .type "list", data := .seq its.toArray n }) (hf : f { cls := .type "list", data := .seq its.toArray n } = { cls := .type "list", data := .seq its'.toArray n' }) (r : x2m ys its') (hz : ys.length <= sizeLine) (t : Nat) :
    Inv X pins σ (upd H p (.lst ys)) { s with heap := s.heap.update p f, toks := t } := by
  have e : (s.heap.update p f).get? p = some { cls := .type "list", data := .seq its'.toArray n' } := by
    rw [Heap.get?_update_self f ho (by rw [hf] <;> rfl), hf]
  refine I.write (x := p) (e := p) (by rw [h]; trivial) (.inl rfl) (fun b u hb q => (Heap.get?_update_other _ _ (Ne.symm hb)).trans q) ⟨_, e⟩ ?_
  exact ⟨hz, its', n', r, e⟩
noncomputable def z74 : V -> V -> V -> Hp -> (Hp -> Prop) -> Prop := fun o i v H Q => ∃ p xs k j, o = .ref p /\ i = .int k /\ H p = some (.lst xs) /\ ixN xs.length k = some j /\ Q (upd H p (.lst (xs.set j v)))
theorem y9i : z8h X z74 := by
  intro pins s σ H o i v ov iv u Q I ro ri rv h
  obtain ⟨p, xs, k, j, rfl, rfl, hp, hj, q⟩ := h
  cases ro
  obtain ⟨t, rfl⟩ := ri
  obtain ⟨its, n, r, ho, hz⟩ := I.lst hp
  obtain ⟨h1, h2, h3, h4⟩ := y0y hj
  have hl := r.length
  have hn := x9o
  have I' : Inv X pins σ (upd H p (.lst (xs.set j v))) { s with heap := s.heap.update p (Obj.mapSeq (·.setIfInBounds j u)) } :=
    I.lstUpd hp ho (y4z its n j u) (r.set rv j) (by rw [List.length_set]; exact hz) s.toks
  by_cases h0 : 0 <= k
  · have hk : k.toNat = j := by
      rw [seqIndex_of h0 h4] at h1
      exact Option.some.inj h1
    exact PySem.W.ki_setAt ho h0 (by omega) (by rw [List.size_toArray, <- hl]; exact h4) (by rw [hk]; exact ⟨_, I', q⟩)
  · have hk : (k + (its.toArray.size : Int)).toNat = j := by
      rw [seqIndex_neg (by omega) h3] at h1
      rw [List.size_toArray, <- hl]
      exact Option.some.inj h1
    exact PySem.W.ki_setBack ho (by omega) (by rw [List.size_toArray, <- hl]; exact h3) (by omega) (by rw [hk]; exact ⟨_, I', q⟩)
theorem y21 (lo hi : Option Int) (n : Nat) : (sliceBounds lo hi none n).1 = ((HT.sIx n 0 lo : Nat) : Int) /\ (sliceBounds lo hi none n).2.1 = ((HT.sIx n n hi : Nat) : Int) /\ (sliceBounds lo hi none n).2.2 = 1 := by
  refine ⟨?_, ?_, rfl⟩
  · cases lo with
    | none => simp [sliceBounds, HT.sIx]
    | some i =>
      simp only [sliceBounds, HT.sIx, Option.getD_none, show (1 : Int) > 0 by decide, if_true]
      by_cases h : i < 0
      · simp only [h, if_true] <;> omega
      · simp only [h, if_false] <;> omega
  · cases hi with
    | none => simp [sliceBounds, HT.sIx]
    | some i =>
      simp only [sliceBounds, HT.sIx, Option.getD_none, show (1 : Int) > 0 by decide, if_true]
      by_cases h : i < 0
      · simp only [h, if_true] <;> omega
      · simp only [h, if_false] <;> omega
theorem y0h (its : List Value) (lo hi : Option Int) : slicePick its.toArray lo hi none = ((its.drop (HT.sIx its.length 0 lo)).take (HT.sIx its.length its.length hi - HT.sIx its.length 0 lo)).toArray := by
  obtain ⟨h1, h2, h3⟩ := y21 lo hi its.toArray.size
  unfold slicePick
  rw [h1, h2, h3]
  simp only [sliceRange_one, pick_run, List.size_toArray] <;> rfl
noncomputable def z9b (K : PySem.W.Frag) : V -> Option Int -> Option Int -> Hp -> VK -> Prop := fun x lo hi H Q => ∃ a xs, x = .ref a /\ SqL K H a xs /\ ∀ p, H p = none -> Q (.ref p) (upd H p (.lst (z08 xs lo hi)))
theorem z81 : SlR X (z9b X.K) := by
  intro pins s σ H x v vl vu lo hi sl Q I rx hs pl pu h
  obtain ⟨a, xs, rfl, hx, q⟩ := h
  cases rx
  obtain ⟨its, r, ht, hz⟩ := I.list hx
  have hlen := r.length
  refine ⟨"list", _, slot_list_getitem.lookup, ht.isList.typeIs, ?_⟩
  refine wpAny_getItem_list_slice ht.isList hs pl pu .none (by simp) ?_ (by rw [List.size_toArray] <;> omega)
  rw [y0h, <- hlen]
  refine ⟨.ref s.heap.objs.size, _, I.laid (t' := s.toks) (o := .lst (z08 xs lo hi)) (fun b ob q => Heap.get?_push_of_some _ q) (Nat.le_refl _) ?_, rfl, q _ (I.hok.fresh (Nat.le_refl _))⟩
  exact ⟨Nat.le_trans (x8x xs lo hi) hz, _, 0, (r.drop (HT.sIx xs.length 0 lo)).take (HT.sIx xs.length xs.length hi - HT.sIx xs.length 0 lo), Heap.get?_push_size _ rfl⟩
theorem y1b : x84 X (.builtin "len") (fun xs H Q => ∃ p ys, xs = [.ref p] /\ (SqL X.K H p ys \/ SqT X.K H p ys) /\ Q (.int ys.length) H) := by
  intro pins s σ H xs us Q I r h
  obtain ⟨p, ys, rfl, hq, q⟩ := h
  obtain ⟨u, rfl, rx⟩ := y11 r
  cases rx
  have hn := x9o
  rcases hq with hq | hq
  · obtain ⟨its, r', pl, hz⟩ := I.list hq
    have hlen := r'.length
    exact Calls.call_len_list pl.isList (by simp only [List.size_toArray] <;> omega) ⟨.int ys.length, H, I.tok _, ⟨s.toks + 1, by rw [List.size_toArray, hlen]⟩, q⟩
  · obtain ⟨its, r', pl, hz⟩ := I.tuple hq
    have hlen := r'.length
    exact len_tuple pl (by simp only [List.size_toArray] <;> omega) ⟨.int ys.length, H, I.tok _, ⟨s.toks + 1, by rw [List.size_toArray, hlen]⟩, q⟩
theorem y1w : x84 X (.type "list") (fun xs H Q => ∃ p ys, xs = [.ref p] /\ (SqL X.K H p ys \/ SqT X.K H p ys) /\ ∀ l, H l = none -> Q (.ref l) (upd H l (.lst ys))) := by
  intro pins s σ H xs us Q I r h
  obtain ⟨p, ys, rfl, hq, q⟩ := h
  obtain ⟨u, rfl, rx⟩ := y11 r
  cases rx
  have fin : ∀ (its : List Value), x2m ys its -> ys.length <= sizeLine -> ∀ (h' : Heap) (c' : Nat), (∀ b o', s.heap.get? b = some o' -> h'.get? b = some o') ->
      h'.get? s.heap.objs.size = some { cls := .type "list", dict := none, data := .seq its.toArray c', slots := #[] } -> EP X pins σ Q (.ref s.heap.objs.size) { s with heap := h' } := fun its r' hz h' c' kp e =>
    ⟨.ref s.heap.objs.size, _, I.laid (t' := s.toks) kp (Nat.le_refl _) (show x35 X.prog X.w _ h' _ (.lst ys) from ⟨hz, its, c', r', e⟩), rfl, q _ (I.hok.fresh (Nat.le_refl _))⟩
  rcases hq with hq | hq
  · obtain ⟨its, r', pl, hz⟩ := I.list hq
    have hlen := r'.length
    obtain ⟨o, ho, hc, n, hd⟩ := pl.isList
    exact call_list_seq p (.inl rfl) ho hc hd (fun h' c' kp e => fin its r' hz h' c' kp e) (by simp only [List.size_toArray] <;> omega)
  · obtain ⟨its, r', pl, hz⟩ := I.tuple hq
    have hlen := r'.length
    obtain ⟨o, ho, hc, n, hd⟩ := pl
    exact call_list_seq p (.inr rfl) ho hc hd (fun h' c' kp e => fin its r' hz h' c' kp e) (by simp only [List.size_toArray] <;> omega)
theorem y15 : x84 X (.type "tuple") (fun xs H Q => ∃ p ys, xs = [.ref p] /\ ((SqL X.K H p ys /\ ∀ l, H l = none -> Q (.ref l) (upd H l (.tup ys))) \/ (SqT X.K H p ys /\ Q (.ref p) H))) := by
  intro pins s σ H xs us Q I r h
  obtain ⟨p, ys, rfl, h⟩ := h
  obtain ⟨u, rfl, rx⟩ := y11 r
  cases rx
  rcases h with ⟨hq, q⟩ | ⟨hq, q⟩
  · obtain ⟨its, r', pl, hz⟩ := I.list hq
    have hlen := r'.length
    refine call_tuple_list pl.isList (fun h' kp => ?_) (by simp only [List.size_toArray] <;> omega)
    have I1 : Inv X pins σ H { s with heap := h' } := I.kept (t' := s.toks) kp
    have I2 : Inv X pins σ (upd H h'.objs.size (.tup ys)) { s with heap := h'.push { cls := .type "tuple", data := .seq its.toArray } } :=
      I1.laid (t' := s.toks) (fun b o e => Heap.get?_push_of_some _ e) (Nat.le_refl _) (show x35 X.prog X.w _ _ _ (.tup ys) from ⟨hz, its, r', x4u.new _ _⟩)
    exact ⟨.ref h'.objs.size, _, I2, rfl, q _ (I1.hok.fresh (Nat.le_refl _))⟩
  · obtain ⟨its, r', pl, hz⟩ := I.tuple hq
    exact call_tuple_same pl ⟨.ref p, H, I, rfl, q⟩
noncomputable def tyV (K : PySem.W.Frag) (T : String) (x : V) (H : Hp) : Prop := match x with
  | .str _ => T = "str"
  | .int _ => T = "int"
  | .ref p => (T = "list" /\ ∃ xs, SqL K H p xs) \/ (T = "tuple" /\ ((∃ o, K.lookup p = some o /\ o.cls = .type "tuple" /\ o.dict = none) \/ ∃ xs, H p = some (.tup xs))) \/
      (T = "dict" /\ ((∃ kvs, H p = some (.dK kvs)) \/ ∃ kvs, H p = some (.dT kvs))) \/ (T = "set" /\ ∃ S n, H p = some (.set S n))
  | _ => False
theorem z5t {pins : List (Addr × Obj)} {σ : St} {H : Hp} {s : Shared} {T : String} {x : V} {v : Value} (I : Inv X pins σ H s) (r : x4b x v) (ty : tyV X.K T x H) :
    s.TypeIs v T /\ ∀ a, v = .ref a -> ∃ ob, s.heap.get? a = some ob /\ ob.dict = none := by
  cases x with
  | str z =>
    obtain ⟨t, rfl⟩ := r
    cases (show T = "str" from ty)
    exact ⟨typeIs_str s z t, fun _ e => nomatch e⟩
  | int i =>
    obtain ⟨t, rfl⟩ := r
    cases (show T = "int" from ty)
    exact ⟨typeIs_int s i t, fun _ e => nomatch e⟩
  | ref p =>
    cases r
    rcases ty with ⟨rfl, xs, hq⟩ | ⟨rfl, ⟨o, hk, hc, hd⟩ | ⟨xs, hk⟩⟩ | ⟨rfl, hk⟩ | ⟨rfl, S, n, hk⟩
    · obtain ⟨its, _, pl, _⟩ := I.list hq
      refine ⟨pl.isList.typeIs, fun a e => ?_⟩
      cases e
      obtain ⟨o, n, e, c, hd, _⟩ := pl
      exact ⟨o, e, hd⟩
    · refine ⟨⟨o, I.kIn p o hk, hc⟩, fun a e => ?_⟩
      cases e
      exact ⟨o, I.kIn _ o hk, hd⟩
    · obtain ⟨_, its, _, o, e, c, _, hd⟩ := (show x35 X.prog X.w H s.heap p (.tup xs) from I.hok p _ hk)
      refine ⟨⟨o, e, c⟩, fun a e2 => ?_⟩
      cases e2
      exact ⟨o, e, hd⟩
    · have z : ∃ o, s.heap.get? p = some o /\ o.ExactDict := by
        rcases hk with ⟨kvs, hk⟩ | ⟨kvs, hk⟩
        · obtain ⟨_, _, _, _, o, _, _, e, ex, _⟩ := I.hok p _ hk
          exact ⟨o, e, ex⟩
        · obtain ⟨_, _, _, _, o, _, _, e, ex, _⟩ := I.hok p _ hk
          exact ⟨o, e, ex⟩
      obtain ⟨o, e, ex⟩ := z
      refine ⟨⟨o, e, ex.1⟩, fun a e2 => ?_⟩
      cases e2
      exact ⟨o, e, ex.2.1⟩
    · obtain ⟨o, _, _, _, e, ex, _⟩ := I.hok p _ hk
      refine ⟨⟨o, e, ex.1⟩, fun a e2 => ?_⟩
      cases e2
      exact ⟨o, e, ex.2.1⟩
  | _ => exact False.elim ty
noncomputable def tBM (K : PySem.W.Frag) (T : String) (r : V -> List V -> Hp -> VK -> Prop) (to : TE) (t : TA) : TE := fun σ H Q => to σ H fun x H1 => tyV K T x H1 /\ t σ H1 fun xs H2 => r x xs H2 Q
variable {o e : Expr} {es : List Expr} {to : TE} {t : TA} {name : Str} {apos cpos : Pos} {T id : String} {r : V -> List V -> Hp -> VK -> Prop}
theorem y4y (pa : PlainAttrs T) (slot : Slot T name id) (hty : typeOf (.builtin id) = pure (.type "method_descriptor")) (hm : MtR X id r) (ho : PE X o to) (ha : PA X (e :: es) t)
    (hbase : attributeBase o name X.env (eval o X.env) = eval o X.env := by rfl)
    (hfew : ((backTo cpos (starEach (e :: es) X.env)).all (fun x => !x.1) && (backToKw cpos (keywordEach [] X.env)).all (fun x => x.1.isSome)
      && decide ((e :: es).length + ([] : List Keyword).length + (if ([] : List Keyword).isEmpty then 0 else 1) < 30)) = true := by rfl)
    (hline : (apos.endLine == cpos.line) = true := by rfl) (hs : starEach (e :: es) X.env = (false, eval e X.env) :: starEach es X.env := by rfl) (hplain : (backTo cpos (starEach es X.env)).any (·.1) = false := by rfl) :
    PE X (.Call (.Attribute o name apos) (e :: es) [] cpos) (tBM X.K T r to t) := by
  intro pins s σ H Q I h
  refine wpAny_Call_method_late hbase hfew hline rfl (thn (ho pins s σ H _ I h) fun v s1 hh0 => ?_)
  obtain ⟨x, H1, I1, r1, ty, q1⟩ := hh0
  obtain ⟨h1, h2⟩ := z5t I1 r1 ty
  refine ⟨T, id, pa, slot, hty, h1, h2, ?_⟩
  have hA := ha cpos pins s1 σ H1 _ I1 q1
  rw [hs] at hA ⊢
  refine Calls.callWith_builtin (by show (false || (backTo cpos (starEach es X.env)).any (·.1)) = false; rw [hplain] <;> rfl) (Calls.evalArgs_plain ?_)
  exact thn hA fun us s2 ⟨vs, H2, I2, r2, q2⟩ => hm pins s2 σ H2 x vs v us Q I2 r1 r2 q2
end
noncomputable def MtM (X : Cx) (id : String) (r : V -> List V -> Hp -> VK -> Prop) : Prop :=
  ∀ (pins : List (Addr × Obj)) (s : Shared) (σ : St) (H : Hp) (x : V) (xs : List V) (v : Value) (us : List Value) (Q : VK), Inv X pins σ H s -> x4b x v -> x2m xs us -> r x xs H Q ->
    wpAny (model X.prog X.w) X.A (call (.builtin id) (v :: us)) (EP X pins σ Q) X.xe s
theorem x2m.one : ∀ {x : V} {us : List Value}, x2m [x] us -> ∃ u, us = [u] /\ x4b x u
  | _, _, .cons r .nil => ⟨_, rfl, r⟩
theorem x2m.eraseIdx : ∀ {xs : List V} {us : List Value} (i : Nat), x2m xs us -> x2m (xs.eraseIdx i) (us.eraseIdx i)
  | _, _, _, .nil => .nil
  | _, _, 0, .cons _ t => t
  | _, _, i + 1, .cons r t => .cons r (x2m.eraseIdx i t)
theorem x2m.rep {xs : List V} {us : List Value} (h : x2m xs us) : ∀ k : Nat, x2m (List.replicate k xs).flatten (List.replicate k us).flatten
  | 0 => .nil
  | k + 1 => by
    rw [List.replicate_succ, List.replicate_succ, List.flatten_cons, List.flatten_cons]
    exact x2m.append h (x2m.rep h k)
theorem y1c {α : Type} : ∀ (l : List α) (i : Nat), (l.eraseIdx i).length <= l.length
  | [], _ => Nat.le_refl _
  | _ :: _, 0 => Nat.le_succ _
  | _ :: r, i + 1 => Nat.succ_le_succ (y1c r i)
theorem y1k (its : List Value) : ∀ (k : Nat) (acc : List Value),
    List.foldl (fun x1 x2 => x1 ++ x2) acc.toArray (List.replicate k its.toArray) = (acc ++ (List.replicate k its).flatten).toArray
  | 0, acc => by simp
  | k + 1, acc => by
    have e : acc.toArray ++ its.toArray = (acc ++ its).toArray := by simp
    have e2 : (acc ++ its) ++ (List.replicate k its).flatten = acc ++ (List.replicate (k + 1) its).flatten := by
      rw [List.replicate_succ, List.flatten_cons, List.append_assoc]
    rw [<- e2, <- y1k its k (acc ++ its), <- e, List.replicate_succ, List.foldl_cons]
section
variable {X : Cx} {pins : List (Addr × Obj)} {σ : St} {H : Hp} {s : Shared} {l b : Addr} {xs ys zs : List V}
theorem Inv.lset {its its' : List Value} {n : Nat} {f : Array Value -> Array Value} {t' : Nat} (I : Inv X pins σ H s) (hH : H l = some (.lst xs))
    (e : s.heap.get? l = some { cls := .type "list", data := .seq its.toArray n }) (hf : f its.toArray = its'.toArray) (hv : x2m ys its') (hz : ys.length <= sizeLine) :
    Inv X pins σ (upd H l (.lst ys)) { s with heap := s.heap.update l (Obj.mapSeq f), toks := t' } := by
  have q := PySem.IsL.update e f
  rw [hf] at q
  refine I.write (x := l) (e := l) (by rw [hH]; exact trivial) (.inl rfl) (fun b' u hb hu => (Heap.get?_update_other s.heap (Obj.mapSeq f) (Ne.symm hb)).trans hu) ⟨_, q⟩ ?_
  exact ⟨hz, its', _, hv, q⟩
theorem Inv.lnew {its : List Value} {t' : Nat} (I : Inv X pins σ H s) (hv : x2m ys its) (hz : ys.length <= sizeLine) :
    Inv X pins σ (upd H s.heap.objs.size (.lst ys)) { s with heap := s.heap.push { cls := .type "list", data := .seq its.toArray }, toks := t' } :=
  I.laid (fun _ _ q => Heap.get?_push_of_some _ q) (Nat.le_refl _) ⟨hz, its, 0, hv, Heap.get?_push_size _ rfl⟩
theorem Inv.fresh (I : Inv X pins σ H s) : H s.heap.objs.size = none := I.hok.fresh (Nat.le_refl _)
theorem Inv.lstM (I : Inv X pins σ H s) (hH : H l = some (.lst xs)) : xs.length <= sizeLine /\ ∃ (its : List Value) (n : Nat), x2m xs its /\ xs.length = its.length /\ s.heap.get? l = some { cls := .type "list", data := .seq its.toArray n } := by
  obtain ⟨z, its, n, r, e⟩ := I.hok l _ hH
  exact ⟨z, its, n, r, r.length, e⟩
theorem y40 {n : Nat} (h : n <= sizeLine) : Builtin.List.listTooLong n = false := by
  unfold Builtin.List.listTooLong
  exact decide_eq_false (by omega)
end
section
variable {X : Cx}
noncomputable def z2s : V -> List V -> Hp -> VK -> Prop := fun x vs H Q => ∃ l xs y, x = .ref l /\ vs = [y] /\ H l = some (.lst xs) /\ xs.length < sizeLine /\ Q .non (upd H l (.lst (xs ++ [y])))
theorem y72 : MtM X "list.append" z2s := by
  intro pins s σ H x vs v us Q I rx rv h
  obtain ⟨l, xs, y, rfl, rfl, hH, hz, q⟩ := h
  cases rx
  obtain ⟨u, rfl, ru⟩ := rv.one
  obtain ⟨z, its, n, r, hl, e⟩ := I.lstM hH
  refine call_meets F.slot_list_append ⟨_, e, rfl⟩ F.entry_list_append (F.args_list_append_2 _ _) (PySem.list_append l its.toArray n u (by rw [List.size_toArray]; omega)) ⟨e, ?_⟩
  refine ⟨.non, _, I.lset (its' := its ++ [u]) hH e (by simp) (r.append (.cons ru .nil)) ?_, rfl, q⟩
  rw [List.length_append, List.length_singleton]
  omega
noncomputable def z1i : V -> List V -> Hp -> VK -> Prop := fun x vs H Q => ∃ l b xs zs, x = .ref l /\ vs = [.ref b] /\ H l = some (.lst xs) /\ H b = some (.lst zs) /\ xs.length + zs.length <= sizeLine /\ Q .non (upd H l (.lst (xs ++ zs)))
theorem y5k : MtM X "list.extend" z1i := by
  intro pins s σ H x vs v us Q I rx rv h
  obtain ⟨l, b, xs, zs, rfl, rfl, hH, hB, hz, q⟩ := h
  cases rx
  obtain ⟨u, rfl, ru⟩ := rv.one
  cases ru
  obtain ⟨z, its, n, r, hl, e⟩ := I.lstM hH
  obtain ⟨z2, its2, n2, r2, hl2, e2⟩ := I.lstM hB
  have hsz : its.toArray.size + its2.toArray.size <= sizeLine := by rw [List.size_toArray, List.size_toArray]; omega
  have hlong : ¬ (!its.toArray.isEmpty && Builtin.List.listTooLong (its.toArray.size + its2.toArray.size)) = true := by
    rw [y40 hsz, Bool.and_false]
    exact Bool.false_ne_true
  refine call_meets F.slot_list_extend ⟨_, e, rfl⟩ F.entry_list_extend (F.args_list_extend_2 _ _)
    (AutoSeq1.list_extend_list_list_0 l its.toArray n b its2.toArray n2 hlong (by rw [List.size_toArray]; omega) (by omega)) ⟨e, e2, ?_⟩
  refine ⟨.non, _, I.lset (its' := its ++ its2) hH e (by simp) (r.append r2) ?_, rfl, q⟩
  rw [List.length_append]
  omega
noncomputable def z6m : V -> List V -> Hp -> VK -> Prop := fun x vs H Q => ∃ l xs i k y, x = .ref l /\ vs = [.int i] /\ H l = some (.lst xs) /\ -(2 ^ 63) <= i /\ i < 2 ^ 63 /\ seqIndex? i xs.length = some k /\ xs[k]? = some y /\ Q y (upd H l (.lst (xs.eraseIdx k)))
theorem y83 : MtM X "list.pop" z6m := by
  intro pins s σ H x vs v us Q I rx rv h
  obtain ⟨l, xs, i, k, y, rfl, rfl, hH, h1, h2, hk, hy, q⟩ := h
  cases rx
  obtain ⟨u, rfl, ru⟩ := rv.one
  obtain ⟨t, rfl⟩ := ru
  obtain ⟨z, its, n, r, hl, e⟩ := I.lstM hH
  obtain ⟨w, hw, rw'⟩ := r.get hy
  refine call_meets F.slot_list_pop ⟨_, e, rfl⟩ F.entry_list_pop (F.args_list_pop_2 _ _)
    (MeetsSeq.list_pop_at l its.toArray n i t k w (fitsIndex_both h1 h2) (by rw [List.size_toArray, <- hl]; exact hk) (by rw [<- Array.getElem?_toList]; exact hw) (by rw [List.size_toArray]; omega)) ⟨e, ?_⟩
  refine ⟨y, _, I.lset (its' := its.eraseIdx k) hH e ?_ (r.eraseIdx k) ?_, rw', q⟩
  · show its.toArray.eraseIdxIfInBounds k = (its.eraseIdx k).toArray
    rw [List.eraseIdxIfInBounds_toArray]
  · have := y1c xs k
    omega
noncomputable def z9h : R2 := fun x y H Q => ∃ l k xs, x = .ref l /\ y = .int k /\ H l = some (.lst xs) /\ -(2 ^ 63) <= k /\ k < 2 ^ 63 /\ xs.length * k.toNat <= sizeLine /\
  ∀ p, H p = none -> Q (.ref p) (upd H p (.lst (List.replicate k.toNat xs).flatten))
theorem z3m {α : Type} (xs : List α) (k : Nat) : (List.replicate k xs).flatten.length = k * xs.length := by
  induction k with
  | zero => simp
  | succ k ih => rw [List.replicate_succ, List.flatten_cons, List.length_append, ih, Nat.succ_mul, Nat.add_comm]
theorem z5c : OpR X (binaryOp .Mult) z9h := by
  intro pins s σ H x y v u Q I rx ry h
  obtain ⟨l, k, xs, rfl, rfl, hH, h1, h2, hz, q⟩ := h
  cases rx
  obtain ⟨t, rfl⟩ := ry
  obtain ⟨z, its, n, r, hl, e⟩ := I.lstM hH
  have hlen : its.toArray.size * k.toNat <= sizeLine := by rw [List.size_toArray, <- hl]; exact hz
  have hcap : ¬ its.toArray.size * k.toNat > (2 ^ 63 - 1) / 8 := by
    have : (sizeLine : Nat) <= (2 ^ 63 - 1) / 8 := by decide
    omega
  have hfit : ¬ (!Builtin.List.listFitsIndex k) = true := by
    rw [fitsIndex_both h1 h2]
    exact Bool.false_ne_true
  have hlong : ¬ Builtin.List.listTooLong (its.toArray.size * k.toNat) = true := by
    rw [y40 hlen]
    exact Bool.false_ne_true
  have hnew : List.foldl (fun x1 x2 => x1 ++ x2) #[] (List.replicate (if its.toArray.isEmpty = true then 0 else k.toNat) its.toArray) = (List.replicate k.toNat its).flatten.toArray := by
    have f0 : ∀ m : Nat, List.foldl (fun x1 x2 => x1 ++ x2) #[] (List.replicate m its.toArray) = (List.replicate m its).flatten.toArray := fun m => by
      have := y1k its m []
      rw [List.nil_append] at this
      exact this
    rw [f0]
    cases its with
    | nil => simp
    | cons a r' => rw [if_neg (by simp)]
  refine wpAny_binaryOp_repeat_ref (T := "list") (U := "int") (by decide) ⟨_, e, rfl⟩ (fun s' => typeIs_int s' k t) noFill_list_mul F.fills_int_mul F.slot_int_rmul repeat_list F.slot_int_index.lookup
    (call_meets F.slot_int_rmul (typeIs_int s k t) F.entry_int_rmul (F.args_int_rmul_2 _ _) (int___rmul___int_list k t l its.toArray n)
      ⟨e, rfl, ⟨_, e, rfl⟩, call_meets F.slot_list_mul ⟨_, e, rfl⟩ F.entry_list_mul (F.args_list_mul_2 _ _) (AutoListH.list___mul___list_int_3 l its.toArray n k t hfit hcap hlong) ⟨e, ?_⟩⟩)
  rw [hnew]
  exact ⟨.ref _, _, I.lnew (t' := s.toks) (r.rep k.toNat) (by rw [z3m, Nat.mul_comm]; exact hz), rfl, q _ I.fresh⟩
end
end L2
namespace Att
open PySem PySem.W PySem.Calls PyProof.Rows
theorem x8m {P : Params} {h : Heap} : ∀ (ns : List Int) (vs : List Value), WellAll P h vs (ns.map WData.int) -> IntsAre vs ns := by
  intro ns
  induction ns with
  | nil =>
    intro vs w
    rw [List.map_nil] at w
    cases w
    exact .nil
  | cons n ns ih =>
    intro vs w
    rw [List.map_cons] at w
    cases w with
    | cons a b =>
      cases a
      exact .cons _ _ (ih _ b)
theorem y6b {l : OpenLaw} {n : Nat} (hn : l.most = some n) {P : Params} {h : Heap} {args : List WData} {vals : List Value}
    (hpre : l.row.toRowW.claim.pre args = true) (hwl : WellAll P h vals args) :
    ∃ a vs ns, vals = [Value.ref a] /\ args = [WData.list (ns.map WData.int)] /\ h.get? a = some { cls := .type "list", data := .seq vs.toArray } /\ IntsAre vs ns /\ ns.length <= n := by
  have hsh : WShape.hasAll [] args [.list .int] = true := (pre_splitW hpre).1
  have hc : l.pre.holds [] { args := args } = true := (pre_splitW hpre).2
  obtain ⟨d, r, rfl, h1, h2⟩ := hasAllW_cons hsh
  obtain rfl := hasAllW_nil h2
  obtain ⟨xs, rfl, h3⟩ := hasW_list h1
  obtain ⟨ns, rfl⟩ := items_int h3
  have hlen : ns.length <= n := by
    unfold OpenLaw.pre at hc
    have h4 : (WTm.not (.lt (.lit (.int (n : Int))) (.len (.arg 0)))).holds [] { args := [.list (ns.map .int)] } = true := by
      have h4 := (holds_andW hc).1
      rw [hn] at h4
      exact h4
    have h5 := condW_of h4 (w_not (w_lt w_lit (w_len_list (w_arg rfl))))
    rw [List.length_map] at h5
    refine Nat.le_of_not_lt fun q => ?_
    have q' : (n : Int) < ((ns.length : Nat) : Int) := by omega
    first
      | (rw [decide_eq_true q'] at h5; exact absurd h5 (by decide))
      | (simp at h5; omega)
  cases hwl with
  | cons w1 w2 =>
    cases w2
    cases w1 with
    | list ho hall => exact ⟨_, _, ns, rfl, rfl, ho, x8m ns _ hall, hlen⟩
theorem y5j (l : OpenLaw) (args : List WData) : l.row.toRowW.claim.post args (.bool true) args = true :=
  postW_of (r := l.row.toRowW) (X := (true == true))
    (show WShape.has [] (.bool true) .bool = true by first | rfl | decide | simp [WShape.has, WShape.arms, WShape.armsAll])
    (show (WTm.eq .res (.lit (.bool true))).value [] { args := args, res := some (.bool true), after := args } = some (.bool (true == true)) from w_eq_bool (w_res rfl) w_lit) rfl
theorem z2r {l : OpenLaw} {n : Nat} {q : Program} {loose : List Str} {XP : (Str -> Option Value) -> Heap -> Prop} {YP : World -> Heap -> Prop} {d : DefRec}
    (hn : l.most = some n) (hdf : d.params.defaults = [])
    (call : ∀ (w : World) (s₀ s₁ : Shared) (mg mb : Str -> Option Value) (fa : Addr) (o : Obj) (pm cd doc : Value) (a : Addr) (vs : List Value) (ns : List Int),
      Ground q loose [] XP w s₀ mg mb s₁.heap -> YP w s₁.heap ->
      s₁.heap.get? fa = some o -> o.data = .func (docDef d.name d.params d.body d.scope pm cd doc) -> s₁.heap.CodeRec cd d.name -> mg d.name = some (.ref fa) ->
      s₁.heap.get? a = some { cls := .type "list", data := .seq vs.toArray } -> IntsAre vs ns -> ns.length <= n -> s₁.gens = #[] ->
      codeAny (model l.prog w) callerA (.call (.ref fa) ⟨[.ref a], []⟩) (fun r s' => r = .ok (.ret (.bool true)) /\ OldK s₁.heap s'.heap /\ s'.os = s₁.os /\ AllBare s'.gens) s₁) :
    WalkO q loose XP YP l.row.toRowW d [] (fun f vs => PySem.call f vs) := by
  intro w s₀ s₁ mg mb G Y fa o pm cd doc dV kV ho hd hcd hD hmg hg args vals as hpre hlay hrd hwl hlo
  obtain rfl : dV = .none := Dflts.none hD hdf
  obtain rfl : kV = .none := Dflts.noKw hD
  obtain ⟨a, vs, ns, rfl, rfl, hobj, hints, hlen⟩ := y6b hn hpre hwl
  refine enter_call (codeAny_mono (call w s₀ s₁ mg mb fa o pm cd doc a vs ns G Y ho (fd_plain hd) hcd hmg hobj hints hlen hg) fun r s' hq => ?_)
  obtain ⟨rfl, h2, h3, h4⟩ := hq
  exact ⟨.inl ⟨.bool true, .bool true, [], rfl, fun _ => rfl, .bool true, y5j l _, fun _ => ⟨List.Pairwise.nil, fun _ hm => (nomatch hm)⟩⟩, h2, h3, h4⟩
section
variable {prog : Program} {w : World} {A : Around} {E : Value -> Shared -> Prop} {s : Shared} {K : Frag}
end
end Att
namespace L2
open PySem PySem.Spec PyProof.Rows
theorem y19 : ∀ {vs : List Value} {ns : List Int}, IntsAre vs ns -> x2m (ns.map V.int) vs
  | _, _, .nil => .nil
  | _, _, .cons n t h => .cons ⟨t, rfl⟩ (y19 h)
noncomputable def z7o (H : Hp) : Prop := ∀ b, H b = none \/ ∃ o xs, H b = some (.frz o (.lst xs))
theorem y9h {P : Program} {w : World} {K : PySem.W.Frag} {mg mb : Str -> Option Value} {CX : CXT} {k : Nat} {fa a : Addr} {fd : FuncData} {x : Str} {sp : Sp} {s₁ : Shared} {vs : List Value} {ns : List Int}
    (KX : K.In s₁.heap) (hns : s₁.heap.Ns mainGlobals mg) (hb : s₁.heap.Ns builtinsNs mb) (hbb : ∀ x : Str, x ≠ "__name__" -> mb x = bootBuiltins x) (hlim : s₁.heap.NoLimit) (hg : s₁.gens = #[])
    (ha : s₁.heap.get? a = some { cls := .type "list", data := .seq vs.toArray }) (hi : IntsAre vs ns) (hl : ns.length <= sizeLine) (hr : Room k callerA)
    (F : ∀ base : Heap, K.In base -> base.Ns mainGlobals mg -> FnOk P w K mg base CX k fa fd [x] sp) (hbind : ∀ (s : Shared) (u : Value), BindsTo s fd ⟨[u], []⟩ [(x, u)])
    (hsp : ∀ H : Hp, z7o H -> SqL K H a (ns.map V.int) -> sp [.ref a] H (fun v _ => v = .bl true) fun _ _ _ => False)
    (hCX : ∀ H e s', CX [] H s₁ (fun _ _ _ => False) e s' -> False) :
    codeAny (model P w) callerA (.call (.ref fa) ⟨[.ref a], []⟩) (fun r s' => r = .ok (.ret (.bool true)) /\ OldK s₁.heap s'.heap /\ s'.os = s₁.os /\ AllBare s'.gens) s₁ := by
  have rv := y19 hi
  have lenV := hi.length
  -- from an abstract heap in which nothing but the script may be tracked
  have core : ∀ H : Hp, z7o H -> SqL K H a (ns.map V.int) -> HOk P w H s₁.heap -> (∀ b, H b ≠ none -> b = a) -> (H a ≠ none -> K.lookup a = none) ->
      codeAny (model P w) callerA (.call (.ref fa) ⟨[.ref a], []⟩) (fun r s' => r = .ok (.ret (.bool true)) /\ OldK s₁.heap s'.heap /\ s'.os = s₁.os /\ AllBare s'.gens) s₁ := by
    intro H hO hS hok hA hK
    have base_of : ∀ {b : Addr} {o : Obj}, s₁.heap.get? b = some o -> H b = none -> (y9n s₁.heap H).get? b = some o := fun e n => y9y e n
    have noA : ∀ {b : Addr} {o : Obj} {es : Array DictEntry} {ep : Nat}, s₁.heap.get? b = some o -> o.data = .dict es ep -> H b = none := fun {b o es ep} e d => by
      cases q : H b with
      | none => rfl
      | some u =>
        have e' : b = a := hA b (by rw [q]; simp)
        subst e'
        rw [ha] at e; cases e
        have d' : Data.seq vs.toArray _ = Data.dict es ep := d
        cases d'
    have nsK : ∀ {b : Addr} {m : Str -> Option Value}, s₁.heap.Ns b m -> (y9n s₁.heap H).Ns b m := fun {b m} ⟨o, es, ep, e, d, r⟩ => ⟨o, es, ep, base_of e (noA e d), d, r⟩
    have hKb : K.In (y9n s₁.heap H) := fun b o e => base_of (KX b o e) (by
      cases q : H b with
      | none => rfl
      | some u =>
        have e' : b = a := hA b (by rw [q]; simp)
        subst e'
        rw [hK (by rw [q]; simp)] at e; cases e)
    have hM : Mod K mg (y9n s₁.heap H) := ⟨hKb, nsK hns, ⟨mb, nsK hb, hbb⟩, let ⟨mc, h1, h2⟩ := hlim; ⟨mc, nsK h1, h2⟩⟩
    have e0 : Env0 P w K mg (y9n s₁.heap H) callerA [] s₁ H := ⟨rfl, hM, fun b o e => z1x e, Nat.le_of_eq (y5x _ _), trivial, fun b hb => absurd (show b ∈ ([] : List Addr) from hb) (by simp), hok, .of_eq hg⟩
    refine codeAny_mono ((F _ hKb (nsK hns)).run callerA [] s₁ H ⟨[.ref a], []⟩ [.ref a] [.ref a] _ _ hr e0 (hbind s₁ (.ref a)) (.cons rfl .nil) (hsp H hO hS)) fun r s' h => ?_
    cases r with
    | error e => exact (hCX H e s' h).elim
    | ok fl =>
      cases fl with
      | next => exact False.elim h
      | brk => exact False.elim h
      | cont => exact False.elim h
      | ret u =>
        obtain ⟨v, H', os, bare, un, hok', r', q⟩ := h
        have q' : v = .bl true := q
        subst q'
        obtain rfl : u = Value.bool true := r'
        refine ⟨rfl, OldK.of_keep fun b o e => ?_, os, bare⟩
        cases q : H b with
        | none => exact un.keep b o e q (by intro z; exact absurd (show b ∈ ([] : List Addr) from z) (by simp)) (by simp)
        | some u =>
          rcases hO b with z | ⟨ob, xs, z⟩
          · rw [q] at z; cases z
          · have z2 := un.frzs b ob _ z
            obtain ⟨e1, _⟩ := hok b _ z
            obtain ⟨e2, _⟩ := hok' b _ z2
            rw [e] at e1; cases e1
            exact e2
  cases hk : K.lookup a with
  | some o =>
    -- the script is one of the module's own objects
    have e := KX a o hk
    rw [ha] at e
    cases e
    refine core (fun _ => none) (fun _ => .inl rfl) (.inr ⟨_, vs.toArray, _, hk, rfl, rfl, rfl, by rw [List.size_toArray, lenV]; exact hl, by simpa using rv⟩) (fun b u z => by have z' : (none : Option HO) = some u := z; cases z') (fun b z => absurd rfl z) fun z => absurd rfl z
  | none =>
    refine core (fun b => if b = a then some (.frz { cls := .type "list", data := .seq vs.toArray } (.lst (ns.map V.int))) else none) (fun b => ?_) (.inl (.inr ⟨{ cls := .type "list", data := .seq vs.toArray }, if_pos rfl⟩)) (fun b u z => ?_) (fun b z => ?_) fun _ => hk
    · by_cases hb : b = a
      · exact .inr ⟨_, _, if_pos hb⟩
      · exact .inl (if_neg hb)
    · by_cases hb : b = a
      · have z' := (if_pos hb).symm.trans z
        cases z'
        subst hb
        exact ⟨ha, by rw [List.length_map]; exact hl, vs, _, rv, ha⟩
      · have z' := (if_neg hb).symm.trans z
        cases z'
    · by_cases hb : b = a
      · exact hb
      · exact absurd (if_neg hb) z
theorem z86 {l : PySem.W.OpenLaw} {n k : Nat} {q : Program} {loose : List Str} {XP : (Str -> Option Value) -> Heap -> Prop} {YP : World -> Heap -> Prop} {d : DefRec} {K : Params -> PySem.W.Frag} {CX : World -> CXT} {sp : World -> Sp} {x : Str}
    (hn : l.most = some n) (hn2 : n <= sizeLine) (hdf : d.params.defaults = []) (hr : Room k callerA)
    (hY : ∀ (w : World) (h : Heap), YP w h -> (K w.params).In h)
    (F : ∀ (w : World) (mg : Str -> Option Value) (fa : Addr) (h : Heap), (K w.params).In h -> h.Ns mainGlobals mg -> mg d.name = some (.ref fa) ->
      ∃ fd : FuncData, (∀ (s : Shared) (u : Value), BindsTo s fd ⟨[u], []⟩ [(x, u)]) /\
        ∀ base : Heap, (K w.params).In base -> base.Ns mainGlobals mg -> FnOk l.prog w (K w.params) mg base (CX w) k fa fd [x] (sp w))
    (hsp : ∀ (w : World) (H : Hp) (a : Addr) (ns : List Int), ns.length <= n -> z7o H -> SqL (K w.params) H a (ns.map V.int) -> sp w [.ref a] H (fun v _ => v = .bl true) fun _ _ _ => False)
    (hCX : ∀ (w : World) (H : Hp) (s : Shared) (e : Value) (s' : Shared), CX w [] H s (fun _ _ _ => False) e s' -> False) :
    PySem.W.WalkO q loose XP YP l.row.toRowW d [] (fun f vs => PySem.call f vs) := by
  refine Att.z2r hn hdf fun w s₀ s₁ mg mb fa o pm cd doc a vs ns G Y ho hd hcd hmg hobj hints hlen hg => ?_
  have KX := hY w _ Y
  obtain ⟨fd, hb, hF⟩ := F w mg fa _ KX G.T.g hmg
  exact y9h KX G.T.g G.T.b G.T.builtins G.T.nolimit hg hobj hints (Nat.le_trans hlen hn2) hr hF hb (fun H hO hS => hsp w H a ns hlen hO hS) fun H e s' => hCX w H s₁ e s'
noncomputable def x15 (s : Stmt) : Arguments := match s with
  | .FunctionDef _ a _ _ _ _ _ _ _ _ => a
  | _ => { posonlyargs := [], args := [], vararg := none, kwonlyargs := [], kw_defaults := [], kwarg := none, defaults := [] }
noncomputable def x0s (s : Stmt) : List Stmt := match s with
  | .FunctionDef _ _ b _ _ _ _ _ _ _ => b
  | _ => []
noncomputable def x08 (s : Stmt) : Scope := match s with
  | .FunctionDef _ _ _ _ _ _ sc _ _ _ => sc
  | _ => { kind := .function, names := [], isGenerator := false, isCoroutine := false }
noncomputable abbrev CX0 : CXT := fun _ _ _ _ _ _ => False
noncomputable abbrev E0 : XK := fun _ _ _ => False
theorem z7r {X : Cx} : y3u CX0 X E0 := fun _ _ _ _ _ _ _ h => h.elim
structure Fun (K : PySem.W.Frag) (x qual : Str) (st : Stmt) (f : Addr) (fd : FuncData) : Prop where
  ex : ∃ (oc : Value) (od : Option Addr) (kV doc pm : Value) (an : Option Addr) (cdv ct : Value) (osl : Array (Option Value)),
    fd = PySem.W.fnOf x qual (x15 st) (x0s st) (x08 st) .none kV doc pm an cdv ct /\ K.lookup f = some ⟨oc, od, .func fd, osl⟩ /\ PySem.W.codeIn K cdv qual = true
  kp : PySem.W.keepIn K (.ref f) = true
section
variable {P : Program} {w : World} {K : PySem.W.Frag} {mg : Str -> Option Value} {base : Heap}
theorem Fun.ok {x qual : Str} {st : Stmt} {f : Addr} {fd : FuncData} {N ps : List Str} {k : Nat} {sp : Sp} (F : Fun K x qual st f fd) (S : FnScope N ps (x08 st)) (len : ∀ vs H Q E, sp vs H Q E -> vs.length = ps.length)
    (hbody : ∀ (cdv : Value) (A : Around) (outer : List Env) (s : Shared) (H : Hp) (vs : List V) (Q : VK) (E : XK), Room k (A.deeper (envOfC qual (x08 st) s.heap.objs.size f cdv)) -> sp vs H Q E ->
      ∃ t, PSs (y5f CX0 P w K mg base N qual (x08 st) f cdv A outer s H E).nox (x0s st) t /\ t { nx := fun _ H' => Q .non H', rt := Q } (x9j N vs) H) : FnOk P w K mg base CX0 (k + 1) f fd ps sp := by
  obtain ⟨oc, od, kV, doc, pm, an, cdv, ct, osl, rfl, lk, hcd⟩ := F.ex
  refine z4w lk hcd S len fun A outer s H vs Q E hr hsp => ?_
  obtain ⟨t, h, q⟩ := hbody cdv A outer s H vs Q E hr hsp
  exact ⟨t, h.nox, q⟩
theorem Fun.binds {x qual : Str} {st : Stmt} {f : Addr} {fd : FuncData} {ps : List Str} (F : Fun K x qual st f fd)
    (h : ∀ (kV doc pm : Value) (an : Option Addr) (cdv ct : Value) (us : List Value), us.length = ps.length -> bindArgs (PySem.W.fnOf x qual (x15 st) (x0s st) (x08 st) .none kV doc pm an cdv ct) ⟨us, []⟩ = pure (ps.zip us)) : y0f K fd ps [] := by
  obtain ⟨oc, od, kV, doc, pm, an, cdv, ct, osl, rfl, lk, hcd⟩ := F.ex
  exact .all (h kV doc pm an cdv ct)
theorem x0p {x qual : Str} {st : Stmt} {f : Addr} {oc : Value} {od an : Option Addr} {osl : Array (Option Value)} {kV doc pm cdv ct : Value} (l : K.lookup f = some ⟨oc, od, .func (PySem.W.fnOf x qual (x15 st) (x0s st) (x08 st) .none kV doc pm an cdv ct), osl⟩)
    (c : PySem.W.codeIn K cdv qual = true) (k : PySem.W.keepIn K (.ref f) = true) : Fun K x qual st f (PySem.W.fnOf x qual (x15 st) (x0s st) (x08 st) .none kV doc pm an cdv ct) := ⟨⟨oc, od, kV, doc, pm, an, cdv, ct, osl, rfl, l, c⟩, k⟩
end
theorem x3i {n : Nat} (h : n <= 1000) : n < sizeLine := Nat.lt_of_le_of_lt h (by decide)
section
variable {X : Cx}
theorem pv (i : Nat) {x : Str} {pos : Pos} (hN : X.N[i]? = some x := by rfl) (hv : Vis X.env.scope x := by first | exact Or.inl rfl | exact Or.inr (Or.inl rfl) | exact Or.inr (Or.inr rfl)) (hd : (x == ("__debug__" : Str)) = false := by decide)
    (hcd : (x == ("__classdict__" : Str)) = false := by decide) : PE X (.Name x pos) (x9i i) := z6f hN hv hd hcd
end
section
variable {X : Cx} {pins : List (Addr × Obj)} {σ : St} {H : Hp} {s : Shared} {a : Addr} {y v : V} {u r : Value} {o : Option V} {A : Around} {E : Value -> Shared -> Prop}
end
theorem y26 {prog : Program} {w : World} {A : Around} {R : Result -> Shared -> Prop} {s : Shared} {elt target iter : Expr} {ifs : List Expr} {scope : Scope} {pos : Pos} {it acc : Value} {env : Env} (I : Nat -> Shared -> Prop)
    (turn : ∀ n s, I n s -> wpAny (model prog w) A (pyNext it) (fun r s₁ => match r with
      | none => R (.ok .next) s₁
      | some v => wpAny (model prog w) A (letOwnedTupleGo target it v) (fun _ s₁' => wpAny (model prog w) A (assign target env v) (fun _ s₂ =>
          wpAny (model prog w) A (forIn ifs true fun c r => if r = true then do let ok <- isTrue c env (eval c env); pure (ForInStep.yield ok) else pure (ForInStep.yield r)) (fun ok s₃ =>
            if ok = true then wpAny (model prog w) A (eval elt env) (fun x s₄ =>
              wpAny (model prog w) A (call (.builtin "list.append") [acc, x]) (fun _ s₅ => ∃ m, m < n /\ I m s₅) (fun _ _ => False) s₄) (fun _ _ => False) s₃
            else ∃ m, m < n /\ I m s₃) (fun _ _ => False) s₂) (fun _ _ => False) s₁') (fun _ _ => False) s₁) (fun _ _ => False) s)
    (n : Nat) (h : I n s) : codeAny (model prog w) A (.compLoop (.ListComp elt [⟨target, iter, ifs, 0⟩] scope pos) 0 it acc env) R s := by
  refine codeAny_loop rfl I (fun n s hI => ?_) n h
  show wpAny _ A ((compTurn (.ListComp elt [⟨target, iter, ifs, 0⟩] scope pos) 0 it acc env).onRaise (fun x => do noteFrame x env; theTreesLotGoes x)) _ _ s
  refine wpAny_noted ?_
  rw [compTurn_list]
  refine wpAny_bind (wpAny_standAt (wpAny_bind (wpAny_mono (turn n s hI) (fun r s₁ h₁ => ?_) fun _ _ h' => h'.elim)))
  cases r with
  | none => exact wpAny_pure h₁
  | some v =>
    refine wpAny_bind (wpAny_mono h₁ (fun _ s₁' h₁' => ?_) fun _ _ h' => h'.elim)
    refine wpAny_bind (wpAny_mono h₁' (fun _ s₂ h₂ => wpAny_bind (wpAny_mono h₂ (fun ok s₃ h₃ => ?_) fun _ _ h' => h'.elim)) fun _ _ h' => h'.elim)
    cases ok with
    | false => exact wpAny_pure ⟨rfl, h₃⟩
    | true =>
      exact wpAny_bind (wpAny_bind (wpAny_mono h₃ (fun x s₄ h₄ => wpAny_bind (wpAny_mono h₄ (fun _ s₅ h₅ => wpAny_pure (wpAny_pure ⟨rfl, h₅⟩)) fun _ _ h' => h'.elim)) fun _ _ h' => h'.elim))
theorem y38 {M : Model} {A : Around} {E : Value -> Shared -> Prop} {s : Shared} {scope : Scope} {globals : Addr} {cl : List (Str × Addr)} {qual : Str} {outer : Env} {Q : Env -> Shared -> Prop}
    (hQ : Q (newEnv scope s.heap.objs.size globals (cellsFrom (s.heap.objs.size + 1) scope.names cl) qual none .none (some outer) builtinsNs)
      { s with heap := pushCells (s.heap.push { cls := .type "dict", data := .dict #[] }) scope.names }) :
    wpAny M A (newFunctionEnv scope globals cl [] qual none .none (some outer)) Q E s := by
  simp only [newFunctionEnv, Option.isSome_some, if_true]
  refine wpAny_bind (wpAny_alloc ?_)
  refine wpAny_bind (wpAny_layCells _ (fun name kind cells => by cases hkc : kind == NameKind.cell <;> simp [hkc]) _ _ _ _ ?_)
  rw [show ({ s with heap := s.heap.push { cls := .type "dict", data := .dict #[] } } : Shared).heap.objs.size = s.heap.objs.size + 1 from Heap.size_push ..]
  refine wpAny_bind ?_
  rw [List.forIn_nil]
  exact wpAny_pure (wpAny_pure hQ)
noncomputable def x2b (cells : List (Str × Addr)) : List (Str × NameKind) -> List (Str × Addr) -> List (Str × Addr)
  | [], acc => acc
  | (n, k) :: r, acc => if k == .free then (match cells.lookup n with
      | some c => x2b cells r ((n, c) :: acc)
      | none => x2b cells r acc) else x2b cells r acc
theorem x75 {scope : Scope} {env : Env} (h : ∀ y ∈ scope.names, y.2 = .free -> ∃ c, env.cells.lookup y.1 = some c) : closureFor scope env = pure (x2b env.cells scope.names []) := by
  unfold closureFor
  have key : ∀ (names : List (Str × NameKind)) (acc : List (Str × Addr)), (∀ y ∈ names, y.2 = .free -> ∃ c, env.cells.lookup y.1 = some c) ->
      (forIn names acc (fun (x : Str × NameKind) (r : List (Str × Addr)) => (match x with
        | (name, kind) => if (kind == NameKind.free) = true then do
            let c <- cellOf env name
            pure (ForInStep.yield ((name, c) :: r))
          else pure (ForInStep.yield r) : Sem (ForInStep (List (Str × Addr)))))) = (pure (x2b env.cells names acc) : Sem (List (Str × Addr))) := by
    intro names
    induction names with
    | nil => intro acc _; rfl
    | cons y r ih =>
      intro acc hh
      obtain ⟨n, kd⟩ := y
      rw [List.forIn_cons]
      unfold x2b
      by_cases hk : (kd == NameKind.free) = true
      · obtain ⟨c, hc⟩ := hh (n, kd) List.mem_cons_self (by simpa using hk)
        have hc' : env.cells.lookup n = some c := hc
        simp only [hk, if_true, hc']
        have e : cellOf env n = pure c := by unfold cellOf; rw [hc']
        rw [e]
        exact ih ((n, c) :: acc) fun z hz => hh z (List.mem_cons_of_mem _ hz)
      · simp only [hk]
        exact ih acc fun z hz => hh z (List.mem_cons_of_mem _ hz)
  exact (congrArg (fun m => m >>= fun cs => (pure cs : Sem (List (Str × Addr)))) (key scope.names [] h)).trans rfl
theorem x5c {cells : List (Str × Addr)} : ∀ {names : List (Str × NameKind)} {acc : List (Str × Addr)}, (∀ y c, (y, c) ∈ acc -> cells.lookup y = some c) -> ∀ y c, (y, c) ∈ x2b cells names acc -> cells.lookup y = some c
  | [], _, h, y, c, m => h y c m
  | (n, k) :: r, acc, h, y, c, m => by
    unfold x2b at m
    split at m
    · split at m
      · rename_i c' e
        refine x5c (acc := (n, c') :: acc) (fun z d hz => ?_) y c m
        rcases List.mem_cons.mp hz with q | q
        · cases q; exact e
        · exact h z d q
      · exact x5c h y c m
    · exact x5c h y c m
theorem x4z {cells : List (Str × Addr)} : ∀ {names : List (Str × NameKind)} {acc : List (Str × Addr)} {y : Str}, (acc.lookup y).isSome = true -> ((x2b cells names acc).lookup y).isSome = true
  | [], _, _, h => h
  | (n, k) :: r, acc, y, h => by
    unfold x2b
    split
    · split
      · refine x4z ?_
        rw [List.lookup_cons]
        split
        · rfl
        · exact h
      · exact x4z h
    · exact x4z h
theorem x47 {cells : List (Str × Addr)} {y : Str} {c : Addr} (hc : cells.lookup y = some c) : ∀ {names : List (Str × NameKind)} {acc : List (Str × Addr)}, (y, NameKind.free) ∈ names -> ((x2b cells names acc).lookup y).isSome = true
  | (n, k) :: r, acc, h => by
    unfold x2b
    rcases List.mem_cons.mp h with q | q
    · cases q
      simp only [hc]
      rw [if_pos (by rfl)]
      refine x4z ?_
      rw [List.lookup_cons, beq_self_eq_true]
      rfl
    · split
      · split
        · exact x47 hc q
        · exact x47 hc q
      · exact x47 hc q
theorem x52 : ∀ {names : List (Str × NameKind)} {h : Heap} {acc : List (Str × Addr)} {y : Str} {c : Addr}, (y, c) ∈ cellsFrom h.objs.size names acc -> (y, c) ∈ acc \/ (h.objs.size <= c /\ (pushCells h names).IsCell c none)
  | [], _, _, _, _, m => .inl m
  | (n, k) :: r, h, acc, y, c, m => by
    unfold cellsFrom at m
    unfold pushCells
    split at m
    · rename_i hk
      rw [if_pos hk]
      have m' : (y, c) ∈ cellsFrom (h.push { cls := .type "cell", data := .cell none }).objs.size r ((n, h.objs.size) :: acc) := by rw [Heap.size_push]; exact m
      rcases x52 m' with q | ⟨q1, q2⟩
      · rcases List.mem_cons.mp q with e | q
        · cases e
          refine .inr ⟨Nat.le_refl _, _, pushCells_keeps _ _ _ _ (Heap.get?_push_size _ rfl), rfl⟩
        · exact .inl q
      · rw [Heap.size_push] at q1
        exact .inr ⟨by omega, q2⟩
    · rename_i hk
      rw [if_neg hk]
      exact x52 m
theorem x56 : ∀ {names : List (Str × NameKind)} {n : Nat} {acc : List (Str × Addr)}, (∀ y c, (y, c) ∈ acc -> c < n) -> (∀ x y c, (x, c) ∈ acc -> (y, c) ∈ acc -> x = y) -> ∀ x y c, (x, c) ∈ cellsFrom n names acc -> (y, c) ∈ cellsFrom n names acc -> x = y
  | [], _, _, _, h => h
  | (nm, k) :: r, n, acc, hlt, h => by
    unfold cellsFrom
    split
    · refine x56 (n := n + 1) (acc := (nm, n) :: acc) (fun y c m => ?_) (fun x y c m1 m2 => ?_)
      · rcases List.mem_cons.mp m with e | m
        · cases e; exact Nat.lt_succ_self _
        · exact Nat.lt_succ_of_lt (hlt y c m)
      · rcases List.mem_cons.mp m1 with e1 | m1 <;> rcases List.mem_cons.mp m2 with e2 | m2
        · cases e1; cases e2; rfl
        · cases e1; exact absurd (hlt y _ m2) (Nat.lt_irrefl _)
        · cases e2; exact absurd (hlt x _ m1) (Nat.lt_irrefl _)
        · exact h x y c m1 m2
    · exact x56 hlt h
theorem x54 {lo : Nat} {y : Str} : ∀ {names : List (Str × NameKind)} {n : Nat} {acc : List (Str × Addr)}, lo <= n -> (∀ c, acc.lookup y = some c -> lo <= c) -> ∀ c, (cellsFrom n names acc).lookup y = some c -> lo <= c
  | [], _, _, _, h => h
  | (nm, k) :: r, n, acc, hn, h => by
    unfold cellsFrom
    split
    · refine x54 (n := n + 1) (by omega) fun c e => ?_
      rw [List.lookup_cons] at e
      split at e
      · cases e; exact hn
      · exact h c e
    · exact x54 hn h
theorem x5l {lo : Nat} {y : Str} : ∀ {names : List (Str × NameKind)} {n : Nat} {acc : List (Str × Addr)}, lo <= n -> (y, NameKind.cell) ∈ names -> ∀ c, (cellsFrom n names acc).lookup y = some c -> lo <= c
  | (nm, k) :: r, n, acc, hn, h => by
    unfold cellsFrom
    rcases List.mem_cons.mp h with q | q
    · cases q
      rw [if_pos (by rfl)]
      refine x54 (n := n + 1) (by omega) fun c e => ?_
      rw [List.lookup_cons, beq_self_eq_true] at e
      cases e; exact hn
    · split
      · exact x5l (n := n + 1) (by omega) q
      · exact x5l hn q
theorem x4a {y : Str} : ∀ {names : List (Str × NameKind)} {n : Nat} {acc : List (Str × Addr)}, (y, NameKind.cell) ∉ names -> (cellsFrom n names acc).lookup y = acc.lookup y
  | [], _, _, _ => rfl
  | (nm, k) :: r, n, acc, h => by
    unfold cellsFrom
    split
    · rename_i hk
      rw [x4a (fun z => h (List.mem_cons_of_mem _ z)), List.lookup_cons]
      have hne : (y == nm) = false := by
        cases e : y == nm with
        | false => rfl
        | true =>
          have e1 : y = nm := beq_iff_eq.mp e
          have e2 : k = NameKind.cell := by simpa using hk
          exact absurd (by rw [e1, <- e2]; exact List.mem_cons_self) h
      rw [hne]
    · exact x4a fun z => h (List.mem_cons_of_mem _ z)
noncomputable def y20 (env : Env) (y : Str) (k : NameKind) : NameKind := if (k == NameKind.free && env.scope.kind == .function && env.kindOf y == some .cell) then .cell else k
theorem x4o {env : Env} {y : Str} : ∀ (names : List (Str × NameKind)), (names.map fun (n, k) => if (k == NameKind.free && env.scope.kind == .function && env.kindOf n == some .cell) then (n, NameKind.cell) else (n, k)).lookup y = (names.lookup y).map (y20 env y)
  | [] => rfl
  | (n, k) :: r => by
    have ih := x4o (env := env) (y := y) r
    show List.lookup y ((if (k == NameKind.free && env.scope.kind == .function && env.kindOf n == some .cell) = true then (n, NameKind.cell) else (n, k)) :: _) = _
    cases hx : y == n with
    | true =>
      have e := beq_iff_eq.mp hx
      subst e
      rw [List.lookup_cons, List.lookup_cons]
      by_cases hc : (k == NameKind.free && env.scope.kind == .function && env.kindOf y == some .cell) = true
      · simp only [y20, hc, if_true, beq_self_eq_true, Option.map_some]
      · simp only [y20, hc, beq_self_eq_true, Option.map_some]
        simp
    | false =>
      by_cases hc : (k == NameKind.free && env.scope.kind == .function && env.kindOf n == some .cell) = true
      · rw [if_pos hc, List.lookup_cons, List.lookup_cons]; simp only [hx]; exact ih
      · rw [if_neg hc, List.lookup_cons, List.lookup_cons]; simp only [hx]; exact ih
theorem y1y {l : List (Str × NameKind)} (hn : (l.map (·.1)).Nodup) {y : Str} {k : NameKind} (h : (y, k) ∈ l) : l.lookup y = some k := by
  induction l with
  | nil => cases h
  | cons p r ih =>
    rw [List.lookup_cons]
    rcases List.mem_cons.mp h with e | h
    · rw [<- e, beq_self_eq_true]
    · have hne : y ≠ p.1 := fun e => by
        have := (List.nodup_cons.mp hn).1
        exact this (by show p.1 ∈ _; rw [<- e]; exact List.mem_map.mpr ⟨(y, k), h, rfl⟩)
      have : (y == p.1) = false := by simpa using hne
      rw [this]
      exact ih (List.nodup_cons.mp hn).2 h
noncomputable def y5p (scope : Scope) (env : Env) (C : Addr) : Env :=
  { newEnv scope C env.globals (cellsFrom (C + 1) scope.names (x2b env.cells scope.names [])) env.qual none .none (some env) builtinsNs with scope := relabel scope env }
noncomputable def x23 (X : Cx) (N' : List Str) (scope : Scope) (C : Addr) (s : Shared) (H : Hp) (fp : List Addr) : Cx where
  prog := X.prog
  w := X.w
  K := X.K
  mg := X.mg
  base := X.base
  A := X.A
  N := N'
  s₀ := s
  H₀ := H
  env := y5p scope X.env C
  outer := X.stack
  stack := X.stack
  ex := fp
  fn := fun y => scope.names.lookup y == some .cell
  calm := X.calm
  pn := []
  xe := fun _ _ => False
structure CompOk (X : Cx) (k : Nat) (N' : List Str) (scope : Scope) : Prop where
  kind : scope.kind = .function
  names : (scope.names.map (·.1)).Nodup
  len : N'.length = X.N.length + k
  frees : (scope.names.all fun y => y.2 != .free || X.env.kindOf y.1 == some .cell || X.env.kindOf y.1 == some .free) = true
  outs : ((N'.zip X.N).all fun p => (p.1 == p.2 && scope.names.lookup p.1 == some .free) || scope.names.lookup p.1 == none || scope.names.lookup p.1 == some .globalImplicit) = true
theorem CompOk.free {X : Cx} {k : Nat} {N' : List Str} {scope : Scope} (S : CompOk X k N' scope) {y : Str} (h : (y, NameKind.free) ∈ scope.names) : X.env.kindOf y = some .cell \/ X.env.kindOf y = some .free := by
  have := List.all_eq_true.mp S.frees (y, NameKind.free) h
  simp only [Bool.or_eq_true, bne_iff_ne, ne_eq, beq_iff_eq] at this
  rcases this with (h1 | h1) | h1
  · exact absurd trivial h1
  · exact .inl h1
  · exact .inr h1
theorem CompOk.out {X : Cx} {k : Nat} {N' : List Str} {scope : Scope} (S : CompOk X k N' scope) {i : Nat} {y : Str} (hi' : i < X.N.length) (h : N'[i]? = some y) (hv : Vis (relabel scope X.env) y) : X.N[i]? = some y /\ scope.names.lookup y = some .free := by
  have e2 : X.N[i]? = some X.N[i] := by simp [hi']
  have m : (y, X.N[i]) ∈ N'.zip X.N := List.mem_of_getElem? (i := i) (by rw [List.getElem?_zip_eq_some]; exact ⟨h, e2⟩)
  have := List.all_eq_true.mp S.outs _ m
  simp only [Bool.or_eq_true, Bool.and_eq_true, beq_iff_eq] at this
  have hl : (relabel scope X.env).names.lookup y = (scope.names.lookup y).map (y20 X.env y) := x4o _
  rcases this with (⟨h1, h2⟩ | h1) | h1
  · exact ⟨by rw [e2, <- h1], h2⟩
  · rw [h1] at hl
    rcases hv with z | z | z <;> (rw [hl] at z; cases z)
  · rw [h1] at hl
    have hr : y20 X.env y .globalImplicit = .globalImplicit := rfl
    rw [Option.map_some, hr] at hl
    rcases hv with z | z | z <;> (rw [hl] at z; cases z)
theorem Un.updNew {fs ex : List Addr} {P : Program} {w : World} {H H' : Hp} {h h' : Heap} {D : Addr} {o : HO} (u : Un fs ex H H' h h') (hok : HOk P w H h) (hD : h.objs.size <= D) : Un fs ex H (upd H' D o) h h' := by
  have ne : ∀ b ob, h.get? b = some ob -> b ≠ D := fun b ob e z => absurd (Nat.lt_of_lt_of_le (Heap.lt_size e) hD) (by rw [z]; exact Nat.lt_irrefl _)
  have ne' : ∀ b x, H b = some x -> b ≠ D := fun b x e z => absurd (Nat.lt_of_lt_of_le (hok.lt e) hD) (by rw [z]; exact Nat.lt_irrefl _)
  refine ⟨u.keep, u.slot, fun b ob e n hx => ?_, u.there, fun b xs e => ?_, fun b ob x e => ?_, fun b ps e => ?_⟩
  · rw [x0w (ne b ob e)]; exact u.free b ob e n hx
  · rw [x0w (ne' b _ e)]; exact u.tups b xs e
  · rw [x0w (ne' b _ e)]; exact u.frzs b ob x e
  · rw [x0w (ne' b _ e)]; exact u.tbls b ps e
theorem HOk.add {P : Program} {w : World} {H : Hp} {h : Heap} {D : Addr} {o : HO} (x : HOk P w H h) (hn : H D = none) (new : x35 P w (upd H D o) h D o) : HOk P w (upd H D o) h := fun b u e => by
  by_cases hb : b = D
  · subst hb; rw [x2h] at e; cases e; exact new
  · rw [x0w hb] at e
    exact (x b u e).stay (fun c v _ q => q) (fun c q => by rw [x0w (x1t q hn)]; exact q) fun c xs q => by rw [x0w (x1t q hn)]; exact q
noncomputable def PTs (X : Cx) (ifs : List Expr) (t : TT) : Prop :=
  ∀ (pins : List (Addr × Obj)) (s : Shared) (σ : St) (H : Hp) (Q : Bool -> Hp -> Prop), Inv X pins σ H s -> t σ H Q ->
    wpAny (model X.prog X.w) X.A (forIn ifs true fun c r => if r = true then do let ok <- isTrue c X.env (eval c X.env); pure (ForInStep.yield ok) else pure (ForInStep.yield r)) (TP X pins σ Q) X.xe s
noncomputable def z97 : TT := fun _ H Q => Q true H
theorem z19 {X : Cx} : PTs X [] z97 := fun pins s σ H Q I h => wpAny_tests_nil ⟨H, I, h⟩
theorem z3k {X : Cx} {c : Expr} {t : TT} (h : PT X c t) : PTs X [c] t := fun pins s σ H Q I q => wpAny_tests_one (h pins s σ H Q I q)
noncomputable def z3x (k : Nat) (g : TG) (tt : TT) (te : TE) (σ : St) (J : It) (H : Hp) (Fin : List V -> Hp -> Prop) : Prop :=
  ∃ W : Nat -> Nat -> List V -> Hp -> Prop, (∃ m, W 0 m [] H) /\ ∀ i m ys H2, W i m ys H2 -> ys.length <= sizeLine /\
    ((J.stop i H2 /\ Fin ys H2) \/ (J.go i H2 /\ ys.length < sizeLine /\ ∀ x H3, J.yld i H2 x H3 -> g x (σ ++ List.replicate k none) H3 fun σ4 H4 => (∃ τ, σ4 = σ ++ τ /\ τ.length = k) /\
      tt σ4 H4 fun b H5 => if b = true then te σ4 H5 fun v H6 => ∃ m', m' < m /\ W (i + 1) m' (ys ++ [v]) H6 else ∃ m', m' < m /\ W (i + 1) m' ys H5))
noncomputable def y8s (k : Nat) (wi : TI) (g : TG) (tt : TT) (te : TE) : TE := fun σ H Q => wi σ H fun J H1 => z3x k g tt te σ J H1 fun ys H2 => ∀ p, H2 p = none -> Q (.ref p) (upd H2 p (.lst ys))
noncomputable def lsO (us : List Value) (n : Nat) : Obj := { cls := .type "list", data := .seq us.toArray n }
theorem z5v {X : Cx} {pins : List (Addr × Obj)} {τ σ : St} {H : Hp} {s : Shared} (I : Inv X pins (σ ++ τ) H s) : Inv X pins (σ ++ List.replicate τ.length none) H s :=
  I.weak (by simp) fun i v e => by
    by_cases hi : i < σ.length
    · rw [List.getElem?_append_left hi] at e ⊢
      exact e
    · rw [List.getElem?_append_right (by omega), List.getElem?_replicate] at e
      split at e <;> cases e
section
variable {X : Cx} {k : Nat} {N' : List Str} {scope : Scope} {pins : List (Addr × Obj)} {σ : St} {H2 : Hp} {s2 : Shared} {fp : List Addr}
noncomputable abbrev x6z (scope : Scope) (s2 : Shared) : Heap := pushCells ((s2.heap.push (lsO [] 0)).push { cls := .type "dict", data := .dict #[] }) scope.names
theorem y8z (S : CompOk X k N' scope) (I2 : Inv X pins σ H2 s2) (f2 : ∀ b ∈ fp, y62 X pins H2 b) (hfp : ∀ b ∈ fp, b < s2.heap.objs.size) :
    Inv (x23 X N' scope (s2.heap.objs.size + 1) s2 H2 fp) [(s2.heap.objs.size, lsO [] 0)] (σ ++ List.replicate k none) H2 { s2 with heap := x6z scope s2 } := by
  have e1 : (s2.heap.push (lsO [] 0)).objs.size = s2.heap.objs.size + 1 := Heap.size_push ..
  have e2 : ((s2.heap.push (lsO [] 0)).push { cls := .type "dict", data := .dict #[] }).objs.size = s2.heap.objs.size + 1 + 1 := by rw [Heap.size_push, e1]
  have keep : ∀ b o, s2.heap.get? b = some o -> (x6z scope s2).get? b = some o := fun b o e => pushCells_keeps _ _ b o (Heap.get?_push_of_some _ (Heap.get?_push_of_some _ e))
  have hsub : ∀ y c, (y, c) ∈ x2b X.env.cells scope.names [] -> X.env.cells.lookup y = some c := x5c (fun _ _ m => nomatch m)
  have cmem : ∀ y c, (y, c) ∈ cellsFrom (s2.heap.objs.size + 1 + 1) scope.names (x2b X.env.cells scope.names []) -> X.env.cells.lookup y = some c \/ (s2.heap.objs.size + 1 + 1 <= c /\ (x6z scope s2).IsCell c none) := fun y c m => by
    have m' : (y, c) ∈ cellsFrom ((s2.heap.push (lsO [] 0)).push { cls := .type "dict", data := .dict #[] }).objs.size scope.names (x2b X.env.cells scope.names []) := by rw [e2]; exact m
    rcases x52 m' with q | ⟨q1, q2⟩
    · exact .inl (hsub y c q)
    · rw [e2] at q1; exact .inr ⟨q1, q2⟩
  have clt : ∀ y c, X.env.cells.lookup y = some c -> c < s2.heap.objs.size := fun y c e => by obtain ⟨v, z⟩ := I2.cell y c e; exact z.lt
  have hl : ∀ y, (relabel scope X.env).names.lookup y = (scope.names.lookup y).map (y20 X.env y) := fun y => x4o _
  have ok : (x23 X N' scope (s2.heap.objs.size + 1) s2 H2 fp).Ok := by
    refine ⟨I2.ok.mod, S.kind, I2.ok.glob, I2.ok.blt, Nat.le_succ _, fun x y c h1 h2 => ?_, fun x hx => ?_, fun x c hf h => ?_, I2.ok.hd, I2.ok.frames, .inl rfl, fun b hb => ⟨?_, fun x c h z => ?_⟩, I2.bs, Nat.le_trans I2.ok.bsz I2.sz, fun b o e hb => ?_, fun b hb z => ?_, I2.stack, I2.stkFree⟩
    · refine x56 (n := s2.heap.objs.size + 1 + 1) (names := scope.names) (acc := x2b X.env.cells scope.names []) (fun y c m => ?_) (fun x y c m1 m2 => ?_) x y c (PySem.mem_of_lookup h1) (PySem.mem_of_lookup h2)
      · exact Nat.lt_of_lt_of_le (clt y c (hsub y c m)) (by omega)
      · exact I2.ok.inj x y c (hsub x c m1) (hsub y c m2)
    · have hx' : (relabel scope X.env).names.lookup x = some .cell \/ (relabel scope X.env).names.lookup x = some .free := hx
      rw [hl x] at hx'
      have : scope.names.lookup x = some .cell \/ scope.names.lookup x = some .free := by
        cases e : scope.names.lookup x with
        | none => rw [e] at hx'; rcases hx' with z | z <;> cases z
        | some kd =>
          rw [e, Option.map_some] at hx'
          cases kd <;> first
            | exact .inl rfl
            | exact .inr rfl
            | (rcases hx' with z | z <;> (have z' := Option.some.inj z; unfold y20 at z'; simp at z'))
      rcases this with q | q
      · exact Option.isSome_iff_exists.mp (PySem.W.cellsFrom_some scope.names (s2.heap.objs.size + 1 + 1) _ (.inl q))
      · have qm := PySem.mem_of_lookup q
        have hk := S.free qm
        obtain ⟨c, hc⟩ := I2.ok.has x hk
        exact Option.isSome_iff_exists.mp (PySem.W.cellsFrom_some scope.names (s2.heap.objs.size + 1 + 1) _ (.inr (x47 hc qm)))
    · have hf' : (scope.names.lookup x == some .cell) = true := hf
      have := x5l (lo := s2.heap.objs.size) (n := s2.heap.objs.size + 1 + 1) (acc := x2b X.env.cells scope.names []) (by omega) (PySem.mem_of_lookup (beq_iff_eq.mp hf')) c h
      exact this
    · have := hfp b hb
      show b ≠ s2.heap.objs.size + 1
      exact Nat.ne_of_lt (Nat.lt_of_lt_of_le this (Nat.le_succ _))
    · have q := hfp b hb
      rcases cmem x c (PySem.mem_of_lookup h) with w | ⟨w, _⟩
      · exact (f2 b hb).2.2.2.2.1 x c w z
      · subst z; exact absurd (Nat.lt_of_lt_of_le q (Nat.le_trans (by omega) w)) (Nat.lt_irrefl _)
    · rcases (f2 b hb).2.2.2.1 with z | z
      · exact I2.ok.noex b o e z
      · have := Heap.lt_size e
        have := I2.ok.bsz
        exact absurd (Nat.lt_of_lt_of_le (Heap.lt_size e) (Nat.le_trans I2.ok.bsz z)) (Nat.lt_irrefl _)
    · rcases List.mem_cons.mp (I2.stkSub b z) with q | q
      · exact (f2 b hb).2.1 q
      · exact (f2 b hb).2.2.1 q
  obtain ⟨m, hn, hloc⟩ := id I2.loc
  refine ⟨ok, rfl, I2.bare, Un.kept keep, ⟨fun _ => none, ?_, fun i y v h1 h2 h3 => ?_⟩, fun y c h => ?_, I2.hok.fresh (Nat.le_succ _), fun y c h => ?_, fun p hp => ?_, I2.hok.kept keep, ?_⟩
  · have := (Heap.Ns.new (s2.heap.push (lsO [] 0)) (.type "dict")).keeps (pushCells_keeps scope.names _)
    rw [e1] at this
    exact this
  · by_cases hi : i < σ.length
    · have h3' : Vis (relabel scope X.env) y := h3
      obtain ⟨o1, o2⟩ := S.out (by rw [<- I2.len]; exact hi) h1 h3'
      have hk := S.free (PySem.mem_of_lookup o2)
      have hs : σ[i]? = some (some v) := by
        rw [List.getElem?_append_left hi] at h2
        exact h2
      obtain ⟨u, r, l⟩ := hloc i y v o1 hs (.inr hk)
      refine ⟨u, r, ?_⟩
      rcases l with ⟨l, _⟩ | ⟨_, c, hc, hcell⟩
      · rcases hk with z | z <;> (rw [l] at z; cases z)
      · refine .inr ⟨?_, c, ?_, hcell.keeps keep⟩
        · show (relabel scope X.env).names.lookup y = some .cell \/ (relabel scope X.env).names.lookup y = some .free
          rw [hl y, o2, Option.map_some]
          unfold y20
          split
          · exact .inl rfl
          · exact .inr rfl
        · show (cellsFrom (s2.heap.objs.size + 1 + 1) scope.names (x2b X.env.cells scope.names [])).lookup y = some c
          rw [x4a (fun z => by have := y1y S.names z; rw [o2] at this; cases this)]
          obtain ⟨c', hc'⟩ := Option.isSome_iff_exists.mp (x47 (acc := []) hc (PySem.mem_of_lookup o2))
          have := hsub y c' (PySem.mem_of_lookup hc')
          rw [hc] at this; cases this
          exact hc'
    · rw [List.getElem?_append_right (by omega), List.getElem?_replicate] at h2
      split at h2 <;> cases h2
  · rcases cmem y c (PySem.mem_of_lookup h) with w | ⟨_, w⟩
    · obtain ⟨v, z⟩ := I2.cell y c w
      exact ⟨v, z.keeps keep⟩
    · exact ⟨_, w⟩
  · rcases cmem y c (PySem.mem_of_lookup h) with w | ⟨w, _⟩
    · exact I2.freeC y c w
    · exact I2.hok.fresh (by omega)
  · have e : p = (s2.heap.objs.size, lsO [] 0) := by
      have : p ∈ [(s2.heap.objs.size, lsO [] 0)] := hp
      simpa using this
    subst e
    refine ⟨pushCells_keeps _ _ _ _ (Heap.get?_push_of_some _ (Heap.get?_push_size _ rfl)), I2.hok.fresh (Nat.le_refl _), ?_, fun z => ?_, fun v z => nomatch z⟩
    · show s2.heap.objs.size ≠ s2.heap.objs.size + 1
      omega
    · have z' : s2.heap.objs.size ∈ frs X.stack := z
      rcases List.mem_cons.mp (I2.stkSub _ z') with q | q
      · exact absurd I2.lt (by rw [<- q]; exact Nat.lt_irrefl _)
      · exact I2.nofs (Nat.le_refl _) q
  · rw [List.length_append, List.length_replicate, I2.len]
    exact S.len.symm
theorem y98 {us : List Value} {n : Nat} {ys : List V} {H' : Hp} {s' : Shared} {σ' : St} {C : Addr} (I2 : Inv X pins σ H2 s2) (f2 : ∀ b ∈ fp, y62 X pins H2 b)
    (I3 : Inv (x23 X N' scope C s2 H2 fp) [(s2.heap.objs.size, lsO us n)] σ' H' s') (r : x2m ys us) (hz : ys.length <= sizeLine) : Inv X pins σ (upd H' s2.heap.objs.size (.lst ys)) s' := by
  obtain ⟨e, hn, _⟩ := I3.pin (s2.heap.objs.size, lsO us n) (List.mem_append_right _ (List.mem_singleton.mpr rfl))
  have u : Un (frs X.stack) fp H2 H' s2.heap s'.heap := I3.base
  exact I2.call' (ch := fp) I3.os (u.updNew I2.hok (Nat.le_refl _)) (I3.hok.add hn ⟨hz, us, n, r, e⟩) I3.bare fun b hb => ⟨(f2 b hb).2.2.2.1, (f2 b hb).2.1, (f2 b hb).2.2.2.2⟩
end
theorem y3w {X : Cx} {k : Nat} {N' : List Str} {scope : Scope} {pins : List (Addr × Obj)} {σ : St} {H2 : Hp} {s2 : Shared} {fp : List Addr} {elt tg iter : Expr} {ifs : List Expr} {pos : Pos} {it : Addr} {tn : Nat -> Heap -> Prop} {J : It} {g : TG} {tt : TT} {te : TE} {Fin : List V -> Hp -> Prop} {E : Value -> Shared -> Prop} {RR : Value -> Addr -> Result -> Shared -> Prop}
    (hc : X.calm = true) (S : CompOk X k N' scope) (hg : ∀ C s H fp, PG (x23 X N' scope C s H fp) tg g) (ht : ∀ C s H fp, PTs (x23 X N' scope C s H fp) ifs tt) (he : ∀ C s H fp, PE (x23 X N' scope C s H fp) elt te)
    (I2 : Inv X pins σ H2 s2) (T : Turn X.prog X.w X.K tg J fp it tn) (st2 : tn 0 s2.heap) (f2 : ∀ b ∈ fp, y62 X pins H2 b) (R : z3x k g tt te σ J H2 Fin)
    (hRR : ∀ C ys H' s' m', Inv X pins σ (upd H' s2.heap.objs.size (.lst ys)) s' -> s'.heap.Ns C m' -> H' s2.heap.objs.size = none -> upd H' s2.heap.objs.size (.lst ys) C = none -> C ≠ X.env.locals -> X.s₀.heap.objs.size <= C -> s2.heap.objs.size < C ->
      Fin ys H' -> RR (.ref s2.heap.objs.size) C (.ok .next) s') :
    wpAny (model X.prog X.w) X.A (newList []) (fun acc s₃ => wpAny (model X.prog X.w) X.A (newFunctionEnv scope X.env.globals (x2b X.env.cells scope.names []) [] X.env.qual none .none (some X.env)) (fun cenv s₄ =>
      codeAny (model X.prog X.w) X.A (.compStart (.ListComp elt [⟨tg, iter, ifs, 0⟩] scope pos) 0 (.ref it) acc { cenv with scope := relabel scope X.env }) (RR acc cenv.locals) s₄) E s₃) E s2 := by
  refine wpAny_newObj_type (y38 ?_)
  have e1 : (s2.heap.push (lsO [] 0)).objs.size = s2.heap.objs.size + 1 := Heap.size_push ..
  have hfp : ∀ b ∈ fp, b < s2.heap.objs.size := fun b hb => by obtain ⟨o, e, _⟩ := T.obj _ _ st2 b hb; exact Heap.lt_size e
  obtain ⟨W, ⟨m0, w0⟩, turn⟩ := R
  have I3 := y8z S I2 f2 hfp
  have st3 : tn 0 (x6z scope s2) := T.keep _ _ _ st2 fun b hb o e => pushCells_keeps _ _ b o (Heap.get?_push_of_some _ (Heap.get?_push_of_some _ e))
  have hDC : s2.heap.objs.size ≠ s2.heap.objs.size + 1 := by omega
  -- what stays true of the iterator's objects
  have stat : ∀ {H' : Hp} {us : List Value} {n : Nat}, (∀ b ∈ fp, H' b = none) -> ∀ b ∈ fp, y62 (x23 X N' scope (s2.heap.objs.size + 1) s2 H2 fp) [(s2.heap.objs.size, lsO us n)] H' b := fun {H' us n} hn b hb => by
    have q := I3.ok.exf b hb
    refine ⟨hn b hb, q.1, I3.ok.exfs b hb, .inl hb, q.2, fun p hp z => ?_⟩
    have hp' : p ∈ [(s2.heap.objs.size, lsO us n)] := hp
    have e : p = (s2.heap.objs.size, lsO us n) := by simpa using hp'
    subst e
    have := hfp b hb
    have z' : s2.heap.objs.size = b := z
    exact absurd this (by rw [z']; exact Nat.lt_irrefl _)
  have loop : ∀ it', it' = Value.ref it -> codeAny (model X.prog X.w) X.A (.compLoop (.ListComp elt [⟨tg, iter, ifs, 0⟩] scope pos) 0 it' (.ref s2.heap.objs.size) (y5p scope X.env (s2.heap.objs.size + 1))) (RR (.ref s2.heap.objs.size) (s2.heap.objs.size + 1)) { s2 with heap := x6z scope s2 } := by
    rintro _ rfl
    refine y26 (fun n s' => ∃ i ys us cnt H', Inv (x23 X N' scope (s2.heap.objs.size + 1) s2 H2 fp) [(s2.heap.objs.size, lsO us cnt)] (σ ++ List.replicate k none) H' s' /\ tn i s'.heap /\ (∀ b ∈ fp, H' b = none) /\ x2m ys us /\ W i n ys H') ?_ m0
      ⟨0, [], [], 0, H2, I3, st3, fun b hb => (f2 b hb).1, .nil, w0⟩
    rintro n s3 ⟨i, ys, us, cnt, H3, J3, st, fr, r3, w3⟩
    obtain ⟨hz, hw⟩ := turn i n ys H3 w3
    rcases hw with ⟨stop, fin⟩ | ⟨go, hlt, step⟩
    · refine thn (T.done (x23 X N' scope (s2.heap.objs.size + 1) s2 H2 fp) rfl rfl rfl hc i _ s3 _ H3 _ J3 (stat fr) st stop) fun rr s4 ⟨hr, I4⟩ => ?_
      subst hr
      obtain ⟨m', hn', _⟩ := id I4.loc
      obtain ⟨eD, nD, _⟩ := I4.pin (s2.heap.objs.size, lsO us cnt) (List.mem_append_right _ (List.mem_singleton.mpr rfl))
      refine hRR (s2.heap.objs.size + 1) ys H3 s4 m' (y98 I2 f2 I4 r3 hz) hn' nD ?_ ?_ ?_ (Nat.lt_succ_self _) fin
      · rw [x0w (Ne.symm hDC)]; exact I4.free
      · exact Ne.symm (Nat.ne_of_lt (Nat.lt_of_lt_of_le I2.lt (Nat.le_succ _)))
      · have := I2.sz; omega
    · refine thn (T.item (x23 X N' scope (s2.heap.objs.size + 1) s2 H2 fp) rfl rfl rfl hc i _ s3 _ H3 _ J3 (stat fr) st go) fun rr s4 ⟨u, hr, h4⟩ => ?_
      subst hr
      refine thn h4 fun _ s5 hh0 => ?_
      obtain ⟨x, H5, I5, r5, y5, st5, fr5⟩ := hh0
      have I5' := I5.pinned (stat fr5) (T.obj _ _ st5)
      refine thn (hg _ _ _ _ _ s5 _ H5 x u _ I5' r5 (step x H5 y5)) fun _ s6 ⟨σ6, H6, I6, ⟨τ, e6, l6⟩, q6⟩ => ?_
      subst e6
      refine thn (ht _ _ _ _ _ s6 _ H6 _ I6 q6) fun ok s7 hh0 => ?_
      obtain ⟨H7, I7, q7⟩ := hh0
      have kept : ∀ {s' : Shared} {H' : Hp} {σ' : St}, Inv (x23 X N' scope (s2.heap.objs.size + 1) s2 H2 fp) ([(s2.heap.objs.size, lsO us cnt)] ++ x80 fp s5.heap) σ' H' s' -> tn (i + 1) s'.heap /\ ∀ b ∈ fp, H' b = none := fun {s' H' σ'} I' => by
        refine ⟨T.keep _ _ _ st5 fun b hb o e => (I'.pin (b, o) (List.mem_append_right _ (List.mem_append_right _ (x62 hb e)))).1, fun b hb => ?_⟩
        obtain ⟨o, e, d⟩ := T.obj _ _ st5 b hb
        exact (I'.pin (b, o) (List.mem_append_right _ (List.mem_append_right _ (x62 hb e)))).2.1
      cases ok with
      | false =>
        rw [if_neg (by decide)] at q7 ⊢
        obtain ⟨m', hm, w7⟩ := q7
        have := z5v I7.unpinned
        rw [l6] at this
        exact ⟨m', hm, i + 1, ys, us, cnt, H7, this, (kept I7).1, (kept I7).2, r3, w7⟩
      | true =>
        rw [if_pos rfl] at q7 ⊢
        refine thn (he _ _ _ _ _ s7 _ H7 _ I7 q7) fun u8 s8 hh0 => ?_
        obtain ⟨v, H8, I8, r8, m', hm, w8⟩ := hh0
        obtain ⟨eD, nD, neD, nfD, dD⟩ := I8.pin (s2.heap.objs.size, lsO us cnt) (List.mem_append_right _ (List.mem_append_left _ (List.mem_singleton.mpr rfl)))
        refine append_at eD (fun h9 hs9 hD9 => ?_) (hsz := by rw [List.size_toArray, <- r3.length]; exact Nat.le_of_lt hlt)
        have Ia := I8.pins_of (pins' := x80 fp s5.heap) fun p hp => I8.pin p (List.mem_append_right _ (List.mem_append_right _ hp))
        have nfp : ∀ p ∈ x80 fp s5.heap, p.1 ≠ s2.heap.objs.size := fun p hp z => by
          have := hfp p.1 (y1d hp).1
          exact absurd this (by rw [z]; exact Nat.lt_irrefl _)
        have Ib := Ia.turned (h' := h9) (t' := s8.toks) (it := s2.heap.objs.size) (fun b o hb e => hs9.extBut b o hb e) nD neD (.inr (Nat.le_refl _)) (fun y c h z => by
            obtain ⟨vv, o, ho, hd⟩ := I8.cell y c h
            rw [z, eD] at ho
            cases ho
            cases hd) (fun p hp => nfp p (by
            have hp' : p ∈ [] ++ x80 fp s5.heap := hp
            simpa using hp'))
        have Ic := Ib.pins_of (pins' := [(s2.heap.objs.size, lsO (us ++ [u8]) (cnt + 1))]) fun p hp => by
          have e : p = (s2.heap.objs.size, lsO (us ++ [u8]) (cnt + 1)) := by simpa using hp
          subst e
          refine ⟨?_, nD, neD, nfD, fun v z => nomatch z⟩
          show h9.get? s2.heap.objs.size = _
          rw [hD9]
          unfold lsO
          simp
        have Id := z5v Ic
        rw [l6] at Id
        have kp := kept I8
        refine ⟨m', hm, i + 1, ys ++ [v], us ++ [u8], cnt + 1, H8, Id, T.keep _ _ _ kp.1 fun b hb o e => hs9.extBut b o (fun z => by
          have := hfp b hb
          have z' : b = s2.heap.objs.size := z
          exact absurd this (by rw [z']; exact Nat.lt_irrefl _)) e, kp.2, x2m.append r3 (.cons r8 .nil), w8⟩
  have hC : (s2.heap.push { cls := .type "list", dict := none, data := .seq ([] : List Value).toArray }).objs.size = s2.heap.objs.size + 1 := Heap.size_push ..
  have fin := codeAny_compStart_list (loop _ rfl) (T.self X.A 0 _ _ _ st3 (loop _ rfl))
  dsimp only at fin ⊢
  rw [hC]
  exact fin
theorem CompOk.locs {X : Cx} {k : Nat} {N' : List Str} {scope : Scope} (S : CompOk X k N' scope) : ∀ y ∈ scope.names, y.2 = .local -> scope.names.lookup y.1 = some .local := fun y hy e => by
  obtain ⟨n, kd⟩ := y
  have e' : kd = .local := e
  subst e'
  exact y1y S.names hy
theorem x7f {h : Heap} {C c : Addr} {m : Str -> Option Value} {v : Option Value} (hn : h.Ns C m) (hc : h.IsCell c v) : c ≠ C := fun z => by
  obtain ⟨o, es, ep, ho, hd, _⟩ := hn
  obtain ⟨o', ho', hd'⟩ := hc
  rw [z, ho] at ho'
  cases ho'
  rw [hd] at hd'
  cases hd'
section
variable {X : Cx} {k : Nat} {N' : List Str} {scope : Scope} {elt tg iter : Expr} {ifs : List Expr} {pos : Pos} {wi : TI} {g : TG} {tt : TT} {te : TE}
theorem z2q (hc : X.calm = true) (S : CompOk X k N' scope) (hi : PI X tg iter wi) (hg : ∀ C s H fp, PG (x23 X N' scope C s H fp) tg g) (ht : ∀ C s H fp, PTs (x23 X N' scope C s H fp) ifs tt) (he : ∀ C s H fp, PE (x23 X N' scope C s H fp) elt te)
    (hs : ∀ x, foldedSetIterable iter X.env x = pure x := by intro _; rfl) : PE X (.ListComp elt [⟨tg, iter, ifs, 0⟩] scope pos) (y8s k wi g tt te) := by
  intro pins s σ H Q I h
  rw [eval_ListComp]
  refine wpAny_comprehension_free (use := none) rfl hs (x75 fun y hy e => ?_) S.kind S.locs (thn (hi pins s σ H _ I h) fun v s1 h1 => thn h1 fun itv s2 h2 => ?_)
  · obtain ⟨n, kd⟩ := y
    have e' : kd = .free := e
    subst e'
    exact I.ok.has n (S.free hy)
  · obtain ⟨it, fp, tn, J, H2, e, I2, T, st2, f2, R⟩ := h2
    subst e
    refine y3w hc S hg ht he I2 T st2 f2 R ?_
    intro C ys H' s' m' I' hn hD hCn hCL hCs hCD fin
    refine ⟨m', hn, fun h' hs' => ⟨.ref s2.heap.objs.size, _, I'.turned (h' := h') (t' := s'.toks) (it := C) (fun b o hb e => hs'.extBut b o hb e) hCn hCL (.inr hCs) (fun x c h => ?_) (fun p hp z => ?_), rfl, fin _ hD⟩⟩
    · obtain ⟨v, q⟩ := I'.cell x c h
      exact x7f hn q
    · have := Heap.lt_size (I2.pin p hp).1
      exact absurd (Nat.lt_trans this hCD) (by rw [z]; exact Nat.lt_irrefl _)
theorem z15 {i : Nat} {y : Str} {py spos : Pos} (hN : X.N.Nodup) (hy : X.N[i]? = some y) (hx : Loc X.env.scope y) (hsw : swapsWith (.ListComp elt [⟨tg, iter, ifs, 0⟩] scope pos) (some (.Name y py)) spos.line X.env = pure true)
    (hc : X.calm = true) (S : CompOk X k N' scope) (hi : PI X tg iter wi) (hg : ∀ C s H fp, PG (x23 X N' scope C s H fp) tg g) (ht : ∀ C s H fp, PTs (x23 X N' scope C s H fp) ifs tt) (he : ∀ C s H fp, PE (x23 X N' scope C s H fp) elt te)
    (hs : ∀ x, foldedSetIterable iter X.env x = pure x := by intro _; rfl) (hf : X.fn y = true \/ X.env.scope.names.lookup y = some .local := by first | exact .inl rfl | exact .inr rfl | assumption) :
    PS X (.Assign [.Name y py] (.ListComp elt [⟨tg, iter, ifs, 0⟩] scope pos) spos) (z8b (y8s k wi g tt te) (z1w i)) := by
  intro pins s σ H D I h
  rw [exec_Assign_Name_used _ _ _ _ hsw]
  refine wpAny_bind (wpAny_standAt (wpAny_bind ?_))
  show wpAny _ X.A (do let _ <- comprehension (.ListComp elt [⟨tg, iter, ifs, 0⟩] scope pos) scope X.env _ (newList []) false (eval iter X.env) (some (assign (.Name y py) X.env))) _ _ s
  refine wpAny_bind (wpAny_mono (wpAny_comprehension_free (use := some (assign (.Name y py) X.env)) (Q := fun _ s' => SP X pins D .next s') rfl hs (x75 fun z hz e => ?_) S.kind S.locs
    (thn (hi pins s σ H _ I h) fun v s1 h1 => thn h1 fun itv s2 h2 => ?_)) (fun _ s' hq => wpAny_pure (wpAny_pure hq)) fun _ _ e => e)
  · obtain ⟨n, kd⟩ := z
    have e' : kd = .free := e
    subst e'
    exact I.ok.has n (S.free hz)
  · obtain ⟨it, fp, tn, J, H2, e, I2, T, st2, f2, R⟩ := h2
    subst e
    refine y3w hc S hg ht he I2 T st2 f2 R ?_
    intro C ys H' s' m' I' hn hD hCn hCL hCs hCD fin
    show wpAny _ X.A (assign (.Name y py) X.env (.ref s2.heap.objs.size)) _ _ _
    refine wpAny_assign_Name (y2c I' hN hy hx (v := .ref s2.heap.objs.size) rfl (fun s'' I'' ⟨a, sb, ha⟩ => ?_) hf)
    have hCa : C ≠ a := fun z => by
      rcases ha with q | q
      · exact hCL (z.trans q)
      · obtain ⟨v, w⟩ := I'.cell y a q
        exact x7f hn w z.symm
    have hn2 := hn.sameBut sb hCa
    refine ⟨m', hn2, fun h' hs' => ⟨_, _, I''.turned (h' := h') (t' := s''.toks) (it := C) (fun b o hb e => hs'.extBut b o hb e) hCn hCL (.inr hCs) (fun x c h => ?_) (fun p hp z => ?_), fin _ hD⟩⟩
    · obtain ⟨v, q⟩ := I''.cell x c h
      exact x7f hn2 q
    · have := Heap.lt_size (I2.pin p hp).1
      exact absurd (Nat.lt_trans this hCD) (by rw [z]; exact Nat.lt_irrefl _)
end
end L2
namespace L3
open PySem PySem.Spec PyProof.Rows PySem.W L2
section
variable {prog : Program} {w : World} {A : Around} {E : Value -> Shared -> Prop} {s : Shared} {K : Frag} {x C : Addr} {ox : Obj}
structure XAt (h : Heap) (x : Addr) (ox : Obj) (C : Addr) : Prop where
  at_ : h.get? x = some ox
  cls : ox.cls = .ref C
theorem XAt.type {M : Model} {h : Heap} (I : XAt h x ox C) : Looks M h (typeOf (.ref x)) (.ref C) := I.cls ▸ (Looks.ld I.at_).andThen .now
structure XCls (K : Frag) (C : Addr) : Prop where
  ci : (clsIn K C).isSome = true
  ga : findIn K (.ref C) "__getattribute__" = some (some (.builtin "BaseException.__getattribute__"))
  gt : findIn K (.ref C) "__getattr__" = some none
  cl : findIn K (.ref C) "__class__" = some (some (.builtin "object.__class__"))
  cg : specialIn K (.builtin "object.__class__") "__get__" = some (some (.builtin "getset_descriptor.__get__"))
  ct : takesIn K (.builtin "object.__class__") = some true
  mo : mroIn K C (.type "object") = some true
  mb : mroIn K C (.type "BaseException") = some true
theorem z2t {M : Model} {h : Heap} (X : K.In h) (I : XAt h x ox C) (XC : XCls K C) : Looks M h (Builtin.ObjectAttr.find (.ref x) (.ref C) "__class__") (.bind (.builtin "getset_descriptor.__get__") (.builtin "object.__class__")) := by
  have L1 := looks_findIn (M := M) X XC.cl
  have L2 : Looks M h (Builtin.ObjectAttr.getOf (some (.builtin "object.__class__"))) _ := looks_specialIn (M := M) X XC.cg
  have L3 := looks_takesIn (M := M) X XC.ct
  exact L1.andThen (L2.andThen ((show Looks M h (Builtin.ObjectAttr.dataDescriptor? (some (.builtin "object.__class__")) (some (.builtin "getset_descriptor.__get__"))) (some ((.builtin "getset_descriptor.__get__"), (.builtin "object.__class__"))) from L3.andThen .now).andThen (Looks.tag .now)))
theorem y34 {tp : Value} {R : Result -> Shared -> Prop} (X : K.In s.heap) (I : XAt s.heap x ox C) (hm : mroIn K C (.type "object") = some true)
    (h : R (.ok (.ret (.ref C))) s) : codeAny (model prog w) A (.call (.builtin "getset_descriptor.__get__") ⟨[.builtin "object.__class__", .ref x, tp], []⟩) R s := by
  obtain ⟨hh, g, dr, t, os⟩ := s
  have L0 := I.type (M := model prog w)
  have L1 := looks_mroIn (M := model prog w) X hm
  refine codeAny_call_builtin KF.slot_gs.plain KF.entry_gs (KF.slot_gs.check _ _ _ _ _ _ _ _ KF.type_class (KF.args_gs _ _ _) ?_)
  unfold Builtin.«getset_descriptor.__get__» Builtin.Getset_descriptor.descrGet
  rw [dga_obj]
  refine wpAny_bind (wpAny_pure ?_)
  unfold Builtin.Getset_descriptor.descrGetter Builtin.Getset_descriptor.descrCheckInstance Builtin.Getset_descriptor.descrNameAndClass isInstance
  simp only [KF.owner_class]
  repeat lk
  refine ⟨Code.quiet_builtin _ (by decide +kernel), codeAny_builtin KF.entry_class ?_⟩
  unfold Builtin.«object.__class__» shownTypeOf
  repeat lk
  exact h
theorem z04 {M : Model} {nameV : Value} {Q : Unit -> Shared -> Prop} (X : K.In s.heap) (I : XAt s.heap x ox C) (XC : XCls K C) (hq : Q () s) : wpAny M A (checkBuiltinCall "BaseException.__getattribute__" ⟨[.ref x, nameV], []⟩) Q E s := by
  obtain ⟨hh, g, d, t, os⟩ := s
  have L0 := I.type (M := M)
  have L1 := looks_mroIn (M := M) X XC.mb
  have hk : builtinKind "BaseException.__getattribute__" = some .slot := by decide +kernel
  have hsplit : splitId "BaseException.__getattribute__" = some ("BaseException", "__getattribute__") := by decide +kernel
  have ha := PySem.F.args_bexc_ga (.ref x) nameV
  simp only [checkBuiltinCall, hk, hsplit]
  unfold isInstance
  repeat lk
  exact hq
theorem z88 {tk : Tok} {R : Result -> Shared -> Prop} (X : K.In s.heap) (I : XAt s.heap x ox C) (XC : XCls K C) (h : R (.ok (.ret (.ref C))) s) :
    codeAny (model prog w) A (.call (.builtin "BaseException.__getattribute__") ⟨[.ref x, .str "__class__" tk], []⟩) R s := by
  refine codeAny_call_builtin PySem.F.excAttr_ValueError.ga.plain PySem.F.entry_bexc_ga (z04 X I XC ?_)
  obtain ⟨hh, g, d, t, os⟩ := s
  have L0 := I.type (M := model prog w)
  have L1 := z2t (M := model prog w) X I XC
  show wpAny _ _ (Builtin.«object.__getattribute__» ⟨[.ref x, .str "__class__" tk], []⟩) _ _ _
  refine wpAny_bind (wpAny_pure ?_)
  refine wpAny_bind (wpAny_pure ?_)
  refine wpAny_bind (L0.at (wpAny_bind (L1.at ?_)))
  show wpAny _ _ (holding [.builtin "object.__class__"] (call (.builtin "getset_descriptor.__get__") [.builtin "object.__class__", .ref x, .ref C]) >>= ret) _ _ _
  exact wpAny_bind (wpAny_holding (wpAny_call (y34 X I XC.mo (wpAny_pure h))))
theorem y85 {Q : Option Value -> Shared -> Prop} (X : K.In s.heap) (I : XAt s.heap x ox C) (XC : XCls K C) (h : Q (some (.ref C)) { s with toks := s.toks + 1 }) : wpAny (model prog w) A (getAttr? (.ref x) "__class__") Q E s := by
  obtain ⟨hh, g, d, t, os⟩ := s
  have L0 := I.type (M := model prog w)
  have L1 := looks_findIn (M := model prog w) X XC.ga
  have L2 := looks_findIn (M := model prog w) X XC.gt
  have f3 := PySem.F.excAttr_ValueError.ga.bind (.ref x)
  unfold getAttr? getAttrBy? getAttrBy
  refine wpAny_bind (wpAny_mkText (wpAny_bind (wpAny_attempt (wpAny_holding (wpAny_bind (L0.at (wpAny_bind (L1.at ?_))))))))
  show wpAny _ _ (getAttrByItsOwn _ _ _ _ _ _) _ _ _
  unfold getAttrByItsOwn
  refine wpAny_bind (L2.at ?_)
  refine wpAny_bind (wpAny_attempt (wpAny_holding ?_))
  show wpAny _ _ (boundAndCalled _ _ _) _ _ _
  unfold boundAndCalled
  rw [f3]
  refine wpAny_bind (wpAny_pure ?_)
  show wpAny _ _ (call (.builtin "BaseException.__getattribute__") [.ref x, .str "__class__" t]) _ _ _
  refine wpAny_call (z88 (s := ⟨hh, g, d, t + 1, os⟩) X I XC ?_)
  exact handed_on rfl (wpAny_pure h)
theorem x5u {M : Model} {h : Heap} {D : Addr} (X : K.In h) (e : (clsIn K D).isSome = true) : Looks M h (isType (.ref D)) true := by
  unfold clsIn at e
  split at e
  · rename_i c' d' cd' sl' ho
    intro A' Q' E' s' k q
    unfold isType loadHead
    exact wpAny_bind (wpAny_loadPart (k _ _ (X _ _ ho)) (wpAny_pure q))
  · cases e
theorem y1q {c : Value} {dep : Int} {tk : Tok} {Q : Fin -> Shared -> Prop} (X : K.In s.heap) (I : XAt s.heap x ox C) (XC : XCls K C) (hty : Looks (model prog w) s.heap (typeOf c) (.type "type")) (his : Looks (model prog w) s.heap (isType c) true)
    (hne : (Value.ref C == c) = false) (hsub : Looks (model prog w) s.heap (isSubtype (.ref C) c) false) (h : Q (.done (.ret (.bool false))) { s with toks := s.toks + 1 }) :
    wpAny (model prog w) A (Builtin.«isinstance.nested» ⟨[.ref x, c, .int dep tk], []⟩) Q E s := by
  have hisD := x5u (M := model prog w) X XC.ci
  obtain ⟨h0, g, d, tt, os⟩ := s
  have L0 := I.type (M := model prog w)
  have LI : Looks (model prog w) h0 (isInstance (.ref x) c) false := L0.andThen hsub
  unfold Builtin.«isinstance.nested»
  refine wpAny_bind (L0.at ?_)
  rw [if_neg (fun q => by rw [hne] at q; exact Bool.noConfusion q)]
  refine wpAny_bind (hty.at ?_)
  rw [if_pos (by decide)]
  k_delta "plainIsInstance"
  refine wpAny_bind (wpAny_bind (his.at ?_))
  simp only [Bool.not_true, Bool.false_eq_true, if_false]
  refine wpAny_bind (LI.at ?_)
  simp only [Bool.false_eq_true, if_false]
  refine wpAny_bind (y85 X I XC ?_)
  refine wpAny_bind (hisD.at ?_)
  simp only [Bool.not_true, Bool.false_eq_true, if_false]
  refine wpAny_bind (wpAny_rule ?_)
  refine hsub.at ?_
  first
    | exact wpAny_pure h
    | exact wpAny_pure (wpAny_pure h)
    | exact wpAny_bind (wpAny_pure (wpAny_pure h))
theorem z8a {D : Addr} {Q : Value -> Shared -> Prop} (X : K.In s.heap) (I : XAt s.heap x ox C) (XC : XCls K C) (e : kin_not K C D = true) (h : Q (.bool false) { s with toks := s.toks + 1 }) : wpAny (model prog w) A (call (.builtin "isinstance") [.ref x, .ref D]) Q E s := by
  unfold kin_not at e
  rw [Bool.and_eq_true, Bool.and_eq_true, Bool.and_eq_true] at e
  obtain ⟨⟨⟨e0, e1⟩, e2⟩, e3⟩ := e
  have hne : (Value.ref C == Value.ref D) = false := Bool.eq_false_iff.mpr fun q => of_decide_eq_true e0 (Value.ref.inj (beq_iff_eq.mp q))
  exact call_isinstance (S := fun _ R s => (K.In s.heap /\ XAt s.heap x ox C) /\ R (.ok (.ret (.bool false))) { s with toks := s.toks + 1 })
    (fun _ _ _ _ _ hs => isinstance_outer (y1q hs.1.1 hs.1.2 XC (looks_typeIn hs.1.1 (beq_iff_eq.mp e2)) (x5u hs.1.1 e1) hne (looks_subIn hs.1.1 (beq_iff_eq.mp e3)) hs.2) (by intro q; cases q)) ⟨⟨X, I⟩, h⟩
theorem z6t {D : Addr} {Q : Value -> Shared -> Prop} (X : K.In s.heap) (I : XAt s.heap x ox C) (e : isIn K (.ref C) D = true) (h : Q (.bool true) s) : wpAny (model prog w) A (call (.builtin "isinstance") [.ref x, .ref D]) Q E s :=
  isi_call X (fun M => I.type) e (by intro q; cases q) h
theorem z2e {T : String} {Q : Value -> Shared -> Prop} (X : K.In s.heap) (I : XAt s.heap x ox C) (hty : typeOf (.type T) = pure (.type "type")) (e : subIn K (.ref C) (.type T) = some true) (h : Q (.bool true) s) : wpAny (model prog w) A (call (.builtin "isinstance") [.ref x, .type T]) Q E s :=
  call_isinstance (S := fun _ R s => (K.In s.heap /\ XAt s.heap x ox C) /\ R (.ok (.ret (.bool true))) s) (fun prog w A R s hs => isinstance_outer (by
    obtain ⟨⟨X, I⟩, h⟩ := hs
    obtain ⟨h0, g, d, tt, os⟩ := s
    have L0 := I.type (M := model prog w)
    have LI : Looks (model prog w) h0 (isInstance (.ref x) (.type T)) true := L0.andThen (looks_subIn X e)
    have hT : Looks (model prog w) h0 (typeOf (.type T)) (.type "type") := Looks.of_pure hty
    have hI : Looks (model prog w) h0 (isType (.type T)) true := Looks.of_pure rfl
    unfold Builtin.«isinstance.nested»
    refine wpAny_bind (L0.at ?_)
    rw [if_neg (fun q => by cases beq_iff_eq.mp q)]
    refine wpAny_bind (hT.at ?_)
    rw [if_pos (by decide)]
    k_delta "plainIsInstance"
    refine wpAny_bind (wpAny_bind (hI.at ?_))
    simp only [Bool.not_true, Bool.false_eq_true, if_false]
    refine wpAny_bind (LI.at ?_)
    simp only [if_true]
    exact wpAny_pure (wpAny_pure h)) (by intro q; cases q)) ⟨⟨X, I⟩, h⟩
theorem z5r {T : String} {Q : Value -> Shared -> Prop} (X : K.In s.heap) (I : XAt s.heap x ox C) (XC : XCls K C) (hty : typeOf (.type T) = pure (.type "type")) (e : subIn K (.ref C) (.type T) = some false) (h : Q (.bool false) { s with toks := s.toks + 1 }) : wpAny (model prog w) A (call (.builtin "isinstance") [.ref x, .type T]) Q E s :=
  call_isinstance (S := fun _ R s => (K.In s.heap /\ XAt s.heap x ox C) /\ R (.ok (.ret (.bool false))) { s with toks := s.toks + 1 })
    (fun _ _ _ _ _ hs => isinstance_outer (y1q hs.1.1 hs.1.2 XC (Looks.of_pure hty) (Looks.of_pure rfl) (Bool.eq_false_iff.mpr fun q => by cases beq_iff_eq.mp q) (looks_subIn hs.1.1 e) hs.2) (by intro q; cases q)) ⟨⟨X, I⟩, h⟩
end
def bmV : List Value := [.type "ValueError", .type "Exception", .type "BaseException", .type "object"]
structure XKls (K : Frag) (nm : Str) (C : Addr) : Prop where
  ns : nsIn K mainGlobals nm = some (some (.ref C))
  xc : XCls K C
  ex : excIn K C bmV "ValueError.__new__" = true
  ve : subIn K (.ref C) (.type "ValueError") = some true
  no : ∀ T ∈ ["int", "bool", "tuple", "list", "str"], subIn K (.ref C) (.type T) = some false
noncomputable def XO (K : Frag) (nm : Str) (ob : Obj) : Prop := ∃ C, ob.cls = .ref C /\ XKls K nm C
end L3
namespace L3
open PySem PySem.Spec PyProof.Rows L2
inductive D where
  | non | bl (b : Bool) | int (i : Int) | str (x : Str) | tup (ds : List D) | lst (ds : List D)
  /-- a dict that is not changed, its keys texts -/
  | dic (ks : List Str) (ds : List D)
  /-- an exception, by its class's name -/
  | exc (nm : Str)
noncomputable abbrev St := L2.St
inductive Ow where
  | s (i : Nat) | t (i : Nat) | f
  deriving DecidableEq
noncomputable abbrev Wn := Addr -> Option Ow
noncomputable def KL (K : PySem.W.Frag) (a : Addr) (xs : List V) : Prop :=
  ∃ (o : Obj) (its : Array Value) (n : Nat), K.lookup a = some o /\ o.cls = .type "list" /\ o.dict = none /\ o.data = .seq its n /\ its.size <= sizeLine /\ x2m xs its.toList
theorem SqL.cases {K : PySem.W.Frag} {H : Hp} {a : Addr} {xs : List V} (h : SqL K H a xs) : Rd H a (.lst xs) \/ KL K a xs := h
theorem KL.sq {K : PySem.W.Frag} {H : Hp} {a : Addr} {xs : List V} (h : KL K a xs) : SqL K H a xs := .inr h
noncomputable def kvL (ks : List Str) (vs : List V) : List (Key × V) := (ks.map fun x => (Sum.inr x : Key)).zip vs
mutual
/-- q: how deep the lists are owned -/
inductive Rep (K : PySem.W.Frag) (H : Hp) (w : Wn) (o : Ow) : Nat -> D -> V -> List Addr -> Prop
  | non {q} : Rep K H w o q .non .non []
  | bl {q} (b : Bool) : Rep K H w o q (.bl b) (.bl b) []
  | int {q} (i : Int) : Rep K H w o q (.int i) (.int i) []
  | str {q} (x : Str) : Rep K H w o q (.str x) (.str x) []
  | tup {q} {a : Addr} {vs : List V} {ds : List D} : H a = some (.tup vs) -> Reps K H w o 0 ds vs [] -> Rep K H w o q (.tup ds) (.ref a) []
  | dic {q} {a : Addr} {ks : List Str} {vs : List V} {ds : List D} : H a = some (.dK (kvL ks vs)) -> Reps K H w o 0 ds vs [] -> Rep K H w o q (.dic ks ds) (.ref a) []
  | exc {q} {a : Addr} {nm : Str} {ob : Obj} {u : HO} : H a = some (.frz ob u) -> XO K nm ob -> (∀ xs, u ≠ .lst xs) -> Rep K H w o q (.exc nm) (.ref a) []
  | kl {a : Addr} {vs : List V} {ds : List D} : KL K a vs -> Reps K H w o 0 ds vs [] -> Rep K H w o 0 (.lst ds) (.ref a) []
  | shr {a : Addr} {vs : List V} {ds : List D} : Rd H a (.lst vs) -> w a = none -> Reps K H w o 0 ds vs [] -> Rep K H w o 0 (.lst ds) (.ref a) []
  | own {q} {a : Addr} {vs : List V} {ds : List D} {F : List Addr} : H a = some (.lst vs) -> w a = some o -> Reps K H w o q ds vs F -> a ∉ F -> Rep K H w o (q + 1) (.lst ds) (.ref a) (a :: F)
inductive Reps (K : PySem.W.Frag) (H : Hp) (w : Wn) (o : Ow) : Nat -> List D -> List V -> List Addr -> Prop
  | nil {q} : Reps K H w o q [] [] []
  | cons {q} {d : D} {v : V} {ds : List D} {vs : List V} {F G : List Addr} : Rep K H w o q d v F -> Reps K H w o q ds vs G -> (∀ a ∈ F, a ∉ G) -> Reps K H w o q (d :: ds) (v :: vs) (F ++ G)
end
noncomputable def WL (w : Wn) (H : Hp) : Prop := ∀ a o, w a = some o -> ∃ vs, H a = some (.lst vs)
noncomputable def x76 (H : Hp) (w : Wn) (H' : Hp) (w' : Wn) : Prop := ∀ a x, H a = some x -> w a = none -> H' a = some x /\ w' a = none
theorem WL.rdT {w : Wn} {H : Hp} (wl : WL w H) {a : Addr} {x : HO} (e : H a = some x) (h : ∀ vs, x ≠ .lst vs) : w a = none := by
  cases q : w a with
  | none => rfl
  | some o =>
    obtain ⟨vs, e'⟩ := wl a o q
    rw [e] at e'
    exact absurd (Option.some.inj e') (h vs)
theorem SqT.go {K : PySem.W.Frag} {H H' : Hp} {w w' : Wn} (wl : WL w H) (st : x76 H w H' w') {a : Addr} {vs : List V} (h : SqT K H a vs) : SqT K H' a vs := by
  rcases h with (h | ⟨o, h⟩) | h
  · exact .inl (.inl (st a _ h (wl.rdT h (fun _ z => nomatch z))).1)
  · exact .inl (.inr ⟨o, (st a _ h (wl.rdT h (fun _ z => nomatch z))).1⟩)
  · exact .inr h
theorem RdL.go {H H' : Hp} {w w' : Wn} (st : x76 H w H' w') {a : Addr} {vs : List V} (n : w a = none) (h : Rd H a (.lst vs)) : Rd H' a (.lst vs) /\ w' a = none := by
  rcases h with h | ⟨o, h⟩
  · exact ⟨.inl (st a _ h n).1, (st a _ h n).2⟩
  · exact ⟨.inr ⟨o, (st a _ h n).1⟩, (st a _ h n).2⟩
theorem Rep.go {K : PySem.W.Frag} {H H' : Hp} {w w' : Wn} {o o' : Ow} (wl : WL w H) (st : x76 H w H' w') : ∀ {q : Nat} {d : D} {v : V} {F : List Addr}, Rep K H w o q d v F -> (∀ a ∈ F, H' a = H a /\ w' a = some o') -> Rep K H' w' o' q d v F := by
  intro q d v F r
  refine Rep.rec (motive_1 := fun q d v F _ => (∀ a ∈ F, H' a = H a /\ w' a = some o') -> Rep K H' w' o' q d v F) (motive_2 := fun q ds vs F _ => (∀ a ∈ F, H' a = H a /\ w' a = some o') -> Reps K H' w' o' q ds vs F) ?_ ?_ ?_ ?_ ?_ ?_ ?_ ?_ ?_ ?_ ?_ ?_ r
  · intro q _; exact .non
  · intro q b _; exact .bl b
  · intro q i _; exact .int i
  · intro q x _; exact .str x
  · intro q a vs ds h r ih _; exact .tup (st _ _ h (wl.rdT h (fun _ z => by cases z))).1 (ih (fun _ z => (List.not_mem_nil z).elim))
  · intro q a ks vs ds h r ih _; exact .dic (st _ _ h (wl.rdT h (fun _ z => by cases z))).1 (ih (fun _ z => (List.not_mem_nil z).elim))
  · intro q a nm ob u h x n _; exact .exc (st _ _ h (wl.rdT h (fun _ z => by cases z))).1 x n
  · intro a vs ds h r ih _; exact .kl h (ih (fun _ z => (List.not_mem_nil z).elim))
  · intro a vs ds h n r ih _; exact .shr (RdL.go st n h).1 (RdL.go st n h).2 (ih (fun _ z => (List.not_mem_nil z).elim))
  · intro q a vs ds F h e r ne ih k; exact .own ((k _ List.mem_cons_self).1.trans h) (k _ List.mem_cons_self).2 (ih fun a m => k a (List.mem_cons_of_mem _ m)) ne
  · intro q _; exact .nil
  · intro q d v ds vs F G r s ne ih1 ih2 k; exact .cons (ih1 fun a m => k a (List.mem_append_left _ m)) (ih2 fun a m => k a (List.mem_append_right _ m)) ne
theorem Reps.go {K : PySem.W.Frag} {H H' : Hp} {w w' : Wn} {o o' : Ow} (wl : WL w H) (st : x76 H w H' w') : ∀ {q : Nat} {ds : List D} {vs : List V} {F : List Addr}, Reps K H w o q ds vs F -> (∀ a ∈ F, H' a = H a /\ w' a = some o') -> Reps K H' w' o' q ds vs F := by
  intro q ds vs F r
  refine Reps.rec (motive_1 := fun q d v F _ => (∀ a ∈ F, H' a = H a /\ w' a = some o') -> Rep K H' w' o' q d v F) (motive_2 := fun q ds vs F _ => (∀ a ∈ F, H' a = H a /\ w' a = some o') -> Reps K H' w' o' q ds vs F) ?_ ?_ ?_ ?_ ?_ ?_ ?_ ?_ ?_ ?_ ?_ ?_ r
  · intro q _; exact .non
  · intro q b _; exact .bl b
  · intro q i _; exact .int i
  · intro q x _; exact .str x
  · intro q a vs ds h r ih _; exact .tup (st _ _ h (wl.rdT h (fun _ z => by cases z))).1 (ih (fun _ z => (List.not_mem_nil z).elim))
  · intro q a ks vs ds h r ih _; exact .dic (st _ _ h (wl.rdT h (fun _ z => by cases z))).1 (ih (fun _ z => (List.not_mem_nil z).elim))
  · intro q a nm ob u h x n _; exact .exc (st _ _ h (wl.rdT h (fun _ z => by cases z))).1 x n
  · intro a vs ds h r ih _; exact .kl h (ih (fun _ z => (List.not_mem_nil z).elim))
  · intro a vs ds h n r ih _; exact .shr (RdL.go st n h).1 (RdL.go st n h).2 (ih (fun _ z => (List.not_mem_nil z).elim))
  · intro q a vs ds F h e r ne ih k; exact .own ((k _ List.mem_cons_self).1.trans h) (k _ List.mem_cons_self).2 (ih fun a m => k a (List.mem_cons_of_mem _ m)) ne
  · intro q _; exact .nil
  · intro q d v ds vs F G r s ne ih1 ih2 k; exact .cons (ih1 fun a m => k a (List.mem_append_left _ m)) (ih2 fun a m => k a (List.mem_append_right _ m)) ne
theorem Rep.freeze {K : PySem.W.Frag} {H : Hp} {w w' : Wn} {o o' : Ow} (n : ∀ a, w a = none -> w' a = none) : ∀ {q : Nat} {d : D} {v : V} {F : List Addr}, Rep K H w o q d v F -> (∀ a ∈ F, w' a = none) -> Rep K H w' o' 0 d v [] := by
  intro q d v F r
  refine Rep.rec (motive_1 := fun q d v F _ => (∀ a ∈ F, w' a = none) -> Rep K H w' o' 0 d v []) (motive_2 := fun q ds vs F _ => (∀ a ∈ F, w' a = none) -> Reps K H w' o' 0 ds vs []) ?_ ?_ ?_ ?_ ?_ ?_ ?_ ?_ ?_ ?_ ?_ ?_ r
  · intro q _; exact .non
  · intro q b _; exact .bl b
  · intro q i _; exact .int i
  · intro q x _; exact .str x
  · intro q a vs ds h r ih _; exact .tup h (ih (fun _ z => (List.not_mem_nil z).elim))
  · intro q a ks vs ds h r ih _; exact .dic h (ih (fun _ z => (List.not_mem_nil z).elim))
  · intro q a nm ob u h x n _; exact .exc h x n
  · intro a vs ds h r ih _; exact .kl h (ih (fun _ z => (List.not_mem_nil z).elim))
  · intro a vs ds h e r ih _; exact .shr h (n _ e) (ih (fun _ z => (List.not_mem_nil z).elim))
  · intro q a vs ds F h e r ne ih k; exact .shr (Rd.of h) (k _ List.mem_cons_self) (ih fun a m => k a (List.mem_cons_of_mem _ m))
  · intro q _; exact .nil
  · intro q d v ds vs F G r s ne ih1 ih2 k; exact .cons (F := []) (G := []) (ih1 fun a m => k a (List.mem_append_left _ m)) (ih2 fun a m => k a (List.mem_append_right _ m)) (fun _ z => (List.not_mem_nil z).elim)
theorem Reps.freeze {K : PySem.W.Frag} {H : Hp} {w w' : Wn} {o o' : Ow} (n : ∀ a, w a = none -> w' a = none) : ∀ {q : Nat} {ds : List D} {vs : List V} {F : List Addr}, Reps K H w o q ds vs F -> (∀ a ∈ F, w' a = none) -> Reps K H w' o' 0 ds vs [] := by
  intro q ds vs F r
  refine Reps.rec (motive_1 := fun q d v F _ => (∀ a ∈ F, w' a = none) -> Rep K H w' o' 0 d v []) (motive_2 := fun q ds vs F _ => (∀ a ∈ F, w' a = none) -> Reps K H w' o' 0 ds vs []) ?_ ?_ ?_ ?_ ?_ ?_ ?_ ?_ ?_ ?_ ?_ ?_ r
  · intro q _; exact .non
  · intro q b _; exact .bl b
  · intro q i _; exact .int i
  · intro q x _; exact .str x
  · intro q a vs ds h r ih _; exact .tup h (ih (fun _ z => (List.not_mem_nil z).elim))
  · intro q a ks vs ds h r ih _; exact .dic h (ih (fun _ z => (List.not_mem_nil z).elim))
  · intro q a nm ob u h x n _; exact .exc h x n
  · intro a vs ds h r ih _; exact .kl h (ih (fun _ z => (List.not_mem_nil z).elim))
  · intro a vs ds h e r ih _; exact .shr h (n _ e) (ih (fun _ z => (List.not_mem_nil z).elim))
  · intro q a vs ds F h e r ne ih k; exact .shr (Rd.of h) (k _ List.mem_cons_self) (ih fun a m => k a (List.mem_cons_of_mem _ m))
  · intro q _; exact .nil
  · intro q d v ds vs F G r s ne ih1 ih2 k; exact .cons (F := []) (G := []) (ih1 fun a m => k a (List.mem_append_left _ m)) (ih2 fun a m => k a (List.mem_append_right _ m)) (fun _ z => (List.not_mem_nil z).elim)
theorem Rep.owns {K : PySem.W.Frag} {H : Hp} {w : Wn} {o : Ow} : ∀ {q : Nat} {d : D} {v : V} {F : List Addr}, Rep K H w o q d v F -> ∀ a ∈ F, w a = some o := by
  intro q d v F r
  refine Rep.rec (motive_1 := fun q d v F _ => ∀ a ∈ F, w a = some o) (motive_2 := fun q ds vs F _ => ∀ a ∈ F, w a = some o) ?_ ?_ ?_ ?_ ?_ ?_ ?_ ?_ ?_ ?_ ?_ ?_ r
  · intro q a m; exact (List.not_mem_nil m).elim
  · intro q b a m; exact (List.not_mem_nil m).elim
  · intro q i a m; exact (List.not_mem_nil m).elim
  · intro q x a m; exact (List.not_mem_nil m).elim
  · intro q a vs ds h r ih b m; exact (List.not_mem_nil m).elim
  · intro q a ks vs ds h r ih b m; exact (List.not_mem_nil m).elim
  · intro q a nm ob u h x n b m; exact (List.not_mem_nil m).elim
  · intro a vs ds h r ih b m; exact (List.not_mem_nil m).elim
  · intro a vs ds h e r ih b m; exact (List.not_mem_nil m).elim
  · intro q a vs ds F h e r ne ih b m
    rcases List.mem_cons.mp m with z | z
    · rw [z]; exact e
    · exact ih b z
  · intro q a m; exact (List.not_mem_nil m).elim
  · intro q d v ds vs F G r s ne ih1 ih2 a m
    rcases List.mem_append.mp m with z | z
    · exact ih1 a z
    · exact ih2 a z
theorem Reps.owns {K : PySem.W.Frag} {H : Hp} {w : Wn} {o : Ow} : ∀ {q : Nat} {ds : List D} {vs : List V} {F : List Addr}, Reps K H w o q ds vs F -> ∀ a ∈ F, w a = some o := by
  intro q ds vs F r
  refine Reps.rec (motive_1 := fun q d v F _ => ∀ a ∈ F, w a = some o) (motive_2 := fun q ds vs F _ => ∀ a ∈ F, w a = some o) ?_ ?_ ?_ ?_ ?_ ?_ ?_ ?_ ?_ ?_ ?_ ?_ r
  · intro q a m; exact (List.not_mem_nil m).elim
  · intro q b a m; exact (List.not_mem_nil m).elim
  · intro q i a m; exact (List.not_mem_nil m).elim
  · intro q x a m; exact (List.not_mem_nil m).elim
  · intro q a vs ds h r ih b m; exact (List.not_mem_nil m).elim
  · intro q a ks vs ds h r ih b m; exact (List.not_mem_nil m).elim
  · intro q a nm ob u h x n b m; exact (List.not_mem_nil m).elim
  · intro a vs ds h r ih b m; exact (List.not_mem_nil m).elim
  · intro a vs ds h e r ih b m; exact (List.not_mem_nil m).elim
  · intro q a vs ds F h e r ne ih b m
    rcases List.mem_cons.mp m with z | z
    · rw [z]; exact e
    · exact ih b z
  · intro q a m; exact (List.not_mem_nil m).elim
  · intro q d v ds vs F G r s ne ih1 ih2 a m
    rcases List.mem_append.mp m with z | z
    · exact ih1 a z
    · exact ih2 a z
noncomputable def D.isL : D -> Bool
  | .lst _ => true
  | _ => false
@[simp] theorem D.isL_non : D.isL .non = false := rfl
@[simp] theorem D.isL_bl (b : Bool) : D.isL (.bl b) = false := rfl
@[simp] theorem D.isL_int (i : Int) : D.isL (.int i) = false := rfl
@[simp] theorem D.isL_str (x : Str) : D.isL (.str x) = false := rfl
@[simp] theorem D.isL_tup (ds : List D) : D.isL (.tup ds) = false := rfl
@[simp] theorem D.isL_dic (ks : List Str) (ds : List D) : D.isL (.dic ks ds) = false := rfl
@[simp] theorem D.isL_exc (nm : Str) : D.isL (.exc nm) = false := rfl
@[simp] theorem D.isL_lst (ds : List D) : D.isL (.lst ds) = true := rfl
theorem Rep.nolist {K : PySem.W.Frag} {H : Hp} {w : Wn} {o : Ow} {q : Nat} {d : D} {v : V} {F : List Addr} (r : Rep K H w o q d v F) (h : d.isL = false) : F = [] /\ ∀ q', Rep K H w o q' d v [] := by
  cases r with
  | non => exact ⟨rfl, fun _ => .non⟩
  | bl b => exact ⟨rfl, fun _ => .bl b⟩
  | int i => exact ⟨rfl, fun _ => .int i⟩
  | str x => exact ⟨rfl, fun _ => .str x⟩
  | tup h' r' => exact ⟨rfl, fun _ => .tup h' r'⟩
  | dic h' r' => exact ⟨rfl, fun _ => .dic h' r'⟩
  | exc h' x n => exact ⟨rfl, fun _ => .exc h' x n⟩
  | kl => cases h
  | shr => cases h
  | own => cases h
theorem Rep.zero {K : PySem.W.Frag} {H : Hp} {w : Wn} {o : Ow} {d : D} {v : V} {F : List Addr} (r : Rep K H w o 0 d v F) : F = [] := by
  cases r <;> rfl
theorem Reps.zero {K : PySem.W.Frag} {H : Hp} {w : Wn} {o : Ow} : ∀ {ds : List D} {vs : List V} {F : List Addr}, Reps K H w o 0 ds vs F -> F = []
  | _, _, _, .nil => rfl
  | _, _, _, .cons r s _ => by rw [r.zero, s.zero]; rfl
theorem Reps.length {K : PySem.W.Frag} {H : Hp} {w : Wn} {o : Ow} {q : Nat} : ∀ {ds : List D} {vs : List V} {F : List Addr}, Reps K H w o q ds vs F -> ds.length = vs.length
  | _, _, _, .nil => rfl
  | _, _, _, .cons _ s _ => by simp [s.length]
theorem Rep.any {K : PySem.W.Frag} {H : Hp} {w : Wn} {o o' : Ow} {q : Nat} {d : D} {v : V} (r : Rep K H w o q d v []) (wl : WL w H) : Rep K H w o' q d v [] :=
  Rep.go wl (fun a x h n => ⟨h, n⟩) r (fun _ z => nomatch z)
theorem Reps.any {K : PySem.W.Frag} {H : Hp} {w : Wn} {o o' : Ow} {q : Nat} {d : List D} {v : List V} (r : Reps K H w o q d v []) (wl : WL w H) : Reps K H w o' q d v [] :=
  Reps.go wl (fun a x h n => ⟨h, n⟩) r (fun _ z => nomatch z)
theorem Reps.get {K : PySem.W.Frag} {H : Hp} {w : Wn} {o : Ow} : ∀ {ds : List D} {vs : List V} {i : Nat} {d : D}, Reps K H w o 0 ds vs [] -> ds[i]? = some d -> ∃ v, vs[i]? = some v /\ Rep K H w o 0 d v []
  | ds, vs, i, d, r, e => by
    generalize hF : ([] : List Addr) = F at r
    cases r with
    | nil => simp at e
    | @cons _ d' v' ds' vs' F' G' r s _ =>
      have h1 : F' = [] := r.zero
      have h2 : G' = [] := s.zero
      subst h1 h2
      cases i with
      | zero => simp at e; subst e; exact ⟨v', rfl, r⟩
      | succ j =>
        obtain ⟨v, h1, h2⟩ := Reps.get (i := j) (d := d) s (by simpa using e)
        exact ⟨v, by simpa using h1, h2⟩
theorem Reps.snoc {K : PySem.W.Frag} {H : Hp} {w : Wn} {o : Ow} {q : Nat} {d : D} {v : V} {G : List Addr} (r' : Rep K H w o q d v G) : ∀ {ds : List D} {vs : List V} {F : List Addr}, Reps K H w o q ds vs F -> (∀ a ∈ F, a ∉ G) -> Reps K H w o q (ds ++ [d]) (vs ++ [v]) (F ++ G)
  | _, _, _, .nil, _ => by
    have : Reps K H w o q [d] [v] (G ++ []) := .cons r' .nil (fun a _ z => nomatch z)
    simpa using this
  | _, _, _, .cons (F := F) (G := F') r s ne, k => by
    rw [List.append_assoc]
    refine .cons r (Reps.snoc r' s fun a m => k a (List.mem_append_right _ m)) fun a m z => ?_
    rcases List.mem_append.mp z with z | z
    · exact ne a m z
    · exact k a (List.mem_append_left _ m) z
noncomputable abbrev Rho := List (Option (D × Nat))
structure Good (K : PySem.W.Frag) (ρ : Rho) (σ : St) (H : Hp) (w : Wn) (t : Nat) : Prop where
  wl : WL w H
  ws : ∀ a i, w a = some (.s i) -> i < σ.length
  wt : ∀ a i, w a = some (.t i) -> i < t
  len : ρ.length = σ.length
  slot : ∀ (i : Nat) d q, ρ[i]? = some (some (d, q)) -> ∃ v F, σ[i]? = some (some v) /\ Rep K H w (.s i) q d v F
structure Go (H : Hp) (w : Wn) (H' : Hp) (w' : Wn) : Prop where
  stab : x76 H w H' w'
  keep : ∀ a o, w a = some o -> (∀ i, o ≠ .s i) -> H' a = H a /\ w' a = some o
theorem Go.refl {H : Hp} {w : Wn} : Go H w H w := ⟨fun a x h n => ⟨h, n⟩, fun a o e _ => ⟨rfl, e⟩⟩
theorem Go.trans {H H1 H2 : Hp} {w w1 w2 : Wn} (a : Go H w H1 w1) (b : Go H1 w1 H2 w2) : Go H w H2 w2 :=
  ⟨fun c x h n => b.stab c x (a.stab c x h n).1 (a.stab c x h n).2, fun c o e h => by
    obtain ⟨h1, w1⟩ := a.keep c o e h
    obtain ⟨h2, w2⟩ := b.keep c o w1 h
    exact ⟨h2.trans h1, w2⟩⟩
theorem Rep.gone {K : PySem.W.Frag} {H H' : Hp} {w w' : Wn} {q : Nat} {d : D} {v : V} {F : List Addr} {i : Nat} (r : Rep K H w (.t i) q d v F) (wl : WL w H) (g : Go H w H' w') : Rep K H' w' (.t i) q d v F :=
  Rep.go wl g.stab r fun a m => g.keep a _ (r.owns a m) (fun _ z => nomatch z)
theorem Reps.gone {K : PySem.W.Frag} {H H' : Hp} {w w' : Wn} {q : Nat} {d : List D} {v : List V} {F : List Addr} {i : Nat} (r : Reps K H w (.t i) q d v F) (wl : WL w H) (g : Go H w H' w') : Reps K H' w' (.t i) q d v F :=
  Reps.go wl g.stab r fun a m => g.keep a _ (r.owns a m) (fun _ z => nomatch z)
noncomputable def x21 (t : Nat) (w : Wn) : Wn := fun a => match w a with
  | some (.t i) => if t <= i then none else some (.t i)
  | x => x
theorem x65 {t : Nat} {w : Wn} {a : Addr} (h : w a = none) : x21 t w a = none := by unfold x21; rw [h]
theorem z1l {t : Nat} {w : Wn} {a : Addr} {i : Nat} (h : w a = some (.s i)) : x21 t w a = some (.s i) := by unfold x21; rw [h]
theorem z1b {t : Nat} {w : Wn} {a : Addr} (h : w a = some .f) : x21 t w a = some .f := by unfold x21; rw [h]
theorem y9r {t : Nat} {w : Wn} {a : Addr} {i : Nat} (h : w a = some (.t i)) (hi : i < t) : x21 t w a = some (.t i) := by unfold x21; rw [h]; exact if_neg (by omega)
theorem y9o {t : Nat} {w : Wn} {a : Addr} {i : Nat} (h : w a = some (.t i)) (hi : t <= i) : x21 t w a = none := by unfold x21; rw [h]; exact if_pos hi
theorem x7d {t : Nat} {w : Wn} {a : Addr} {o : Ow} (h : x21 t w a = some o) : w a = some o /\ ∀ i, o = .t i -> i < t := by
  unfold x21 at h
  cases e : w a with
  | none => rw [e] at h; cases h
  | some o' =>
    rw [e] at h
    cases o' with
    | s i => cases h; exact ⟨rfl, fun i z => nomatch z⟩
    | f => cases h; exact ⟨rfl, fun i z => nomatch z⟩
    | t i =>
      dsimp only at h
      split at h
      · cases h
      · cases h; exact ⟨rfl, fun j z => by cases z; omega⟩
theorem Good.drop {K : PySem.W.Frag} {ρ : Rho} {σ : St} {H : Hp} {w : Wn} {t t' : Nat} (g : Good K ρ σ H w t) : Good K ρ σ H (x21 t' w) t' := by
  refine ⟨fun a o e => g.wl a o (x7d e).1, fun a i e => g.ws a i (x7d e).1, fun a i e => (x7d e).2 i rfl, g.len, fun i d q e => ?_⟩
  obtain ⟨v, F, h1, h2⟩ := g.slot i d q e
  exact ⟨v, F, h1, Rep.go g.wl (fun a x h n => ⟨h, x65 n⟩) h2 fun a m => ⟨rfl, z1l (h2.owns a m)⟩⟩
theorem Go.drop {H H' : Hp} {w w' : Wn} {t : Nat} (g : Go H w H' w') (wt : ∀ a i, w a = some (.t i) -> i < t) : Go H w H' (x21 t w') :=
  ⟨fun a x h n => ⟨(g.stab a x h n).1, x65 (g.stab a x h n).2⟩, fun a o e h => by
    obtain ⟨h1, h2⟩ := g.keep a o e h
    refine ⟨h1, ?_⟩
    cases o with
    | s i => exact absurd rfl (h i)
    | f => exact z1b h2
    | t i => exact y9r h2 (wt a i e)⟩
theorem Rep.drop {K : PySem.W.Frag} {H : Hp} {w : Wn} {q : Nat} {d : D} {v : V} {F : List Addr} {t : Nat} {o : Ow} (r : Rep K H w (.t t) q d v F) {t' : Nat} (h : t' <= t) : Rep K H (x21 t' w) o 0 d v [] :=
  Rep.freeze (fun a n => x65 n) r fun a m => y9o (r.owns a m) h
noncomputable abbrev Den := Rho -> Option (D × Nat × Rho)
noncomputable def tD (K : PySem.W.Frag) (f : Den) : TE := fun σ H Q => ∃ ρ w t r q ρ', Good K ρ σ H w t /\ f ρ = some (r, q, ρ') /\ ∀ v H' w' F, Good K ρ' σ H' w' (t + 1) -> Go H w H' w' -> Rep K H' w' (.t t) q r v F -> Q v H'
theorem PE.imp {X : Cx} {e : Expr} {t t' : TE} (h : PE X e t) (i : ∀ σ H Q, t' σ H Q -> t σ H Q) : PE X e t' := fun pins s σ H Q I q => h pins s σ H Q I (i σ H Q q)
noncomputable abbrev PD (X : Cx) (e : Expr) (f : Den) : Prop := PE X e (tD X.K f)
theorem Good.up {K : PySem.W.Frag} {ρ : Rho} {σ : St} {H : Hp} {w : Wn} {t : Nat} (g : Good K ρ σ H w t) : Good K ρ σ H w (t + 1) := ⟨g.wl, g.ws, fun a i e => Nat.lt_succ_of_lt (g.wt a i e), g.len, g.slot⟩
@[simp] noncomputable def x2e (d : D) : Nat := if d.isL then 0 else 9
theorem Rep.dep {K : PySem.W.Frag} {H : Hp} {w : Wn} {o : Ow} {d : D} {v : V} (r : Rep K H w o 0 d v []) : Rep K H w o (x2e d) d v [] := by
  unfold x2e
  cases e : d.isL with
  | true => exact r
  | false => exact (r.nolist e).2 9
section
variable {K : PySem.W.Frag} {σ : St} {H : Hp} {ρ ρ' ρ1 ρ2 : Rho} {w : Wn} {t : Nat} {Q : VK}
theorem z3t {fa fb : Den} {R : V -> V -> Hp -> Prop} (g : Good K ρ σ H w t) {d1 d2 : D} {q1 q2 : Nat} (e1 : fa ρ = some (d1, q1, ρ1)) (e2 : fb ρ1 = some (d2, q2, ρ2))
    (k : ∀ x y H2 w2 F1 F2, Good K ρ2 σ H2 w2 (t + 2) -> Go H w H2 w2 -> Rep K H2 w2 (.t t) q1 d1 x F1 -> Rep K H2 w2 (.t (t + 1)) q2 d2 y F2 -> R x y H2) :
    tD K fa σ H fun x H1 => tD K fb σ H1 fun y H2 => R x y H2 :=
  ⟨ρ, w, t, d1, q1, ρ1, g, e1, fun x H1 w1 F1 g1 go1 r1 => ⟨ρ1, w1, t + 1, d2, q2, ρ2, g1, e2, fun y H2 w2 F2 g2 go2 r2 => k x y H2 w2 F1 F2 g2 (go1.trans go2) (r1.gone g1.wl go2) r2⟩⟩
theorem z2m {r : D} {q : Nat} {v : V} {H2 : Hp} {w2 : Wn} {t2 : Nat} (k : ∀ v H' w' F, Good K ρ' σ H' w' (t + 1) -> Go H w H' w' -> Rep K H' w' (.t t) q r v F -> Q v H') (g : Good K ρ σ H w t) (g2 : Good K ρ' σ H2 w2 t2) (go : Go H w H2 w2)
    (rr : Rep K H2 (x21 t w2) (.t t) q r v []) : Q v H2 := k v H2 (x21 t w2) [] g2.drop.up (go.drop g.wt) rr
noncomputable def y7s (p : Addr) (o : Ow) (w : Wn) : Wn := fun a => if a = p then some o else w a
theorem x4w {p : Addr} {o : Ow} {w : Wn} : y7s p o w p = some o := if_pos rfl
theorem x3q {p a : Addr} {o : Ow} {w : Wn} (h : a ≠ p) : y7s p o w a = w a := if_neg h
theorem y6f {H1 : Hp} {p : Addr} {vs : List V} {ds : List D} {w1 : Wn} (g : Good K ρ σ H1 w1 t) (hp : H1 p = none) (r : Reps K H1 w1 .f 0 ds vs []) :
    Good K ρ σ (upd H1 p (.lst vs)) (y7s p (.t t) w1) (t + 1) /\ Go H1 w1 (upd H1 p (.lst vs)) (y7s p (.t t) w1) /\ Rep K (upd H1 p (.lst vs)) (y7s p (.t t) w1) (.t t) 1 (.lst ds) (.ref p) [p] := by
  have ne : ∀ a x, H1 a = some x -> a ≠ p := fun a x e => x1t e hp
  have nw : ∀ a o, w1 a = some o -> a ≠ p := fun a o e => by obtain ⟨vs, q⟩ := g.wl a o e; exact ne a _ q
  have st : x76 H1 w1 (upd H1 p (.lst vs)) (y7s p (.t t) w1) := fun a x e n => ⟨by rw [x0w (ne a x e)]; exact e, by rw [x3q (ne a x e)]; exact n⟩
  refine ⟨⟨fun a o e => ?_, fun a i e => ?_, fun a i e => ?_, g.len, fun i d q e => ?_⟩, ⟨st, fun a o e _ => ⟨x0w (nw a o e), (x3q (nw a o e)).trans e⟩⟩, ?_⟩
  · by_cases h : a = p
    · subst h; exact ⟨vs, x2h⟩
    · rw [x3q h] at e
      obtain ⟨us, q⟩ := g.wl a o e
      exact ⟨us, by rw [x0w h]; exact q⟩
  · by_cases h : a = p
    · subst h; rw [x4w] at e; cases e
    · rw [x3q h] at e; exact g.ws a i e
  · by_cases h : a = p
    · subst h; rw [x4w] at e; cases e; exact Nat.lt_succ_self _
    · rw [x3q h] at e; exact Nat.lt_succ_of_lt (g.wt a i e)
  · obtain ⟨v, F, h1, h2⟩ := g.slot i d q e
    exact ⟨v, F, h1, Rep.go g.wl st h2 fun a m => ⟨x0w (nw a _ (h2.owns a m)), (x3q (nw a _ (h2.owns a m))).trans (h2.owns a m)⟩⟩
  · exact .own x2h x4w (Reps.go g.wl st r (fun _ z => nomatch z)) (fun z => nomatch z)
theorem y1o {H1 : Hp} {p : Addr} {vs : List V} {ds : List D} {w1 : Wn} (g : Good K ρ σ H1 w1 t) (hp : H1 p = none) (r : Reps K H1 w1 .f 0 ds vs []) :
    Good K ρ σ (upd H1 p (.tup vs)) w1 (t + 1) /\ Go H1 w1 (upd H1 p (.tup vs)) w1 /\ Rep K (upd H1 p (.tup vs)) w1 (.t t) 9 (.tup ds) (.ref p) [] := by
  have ne : ∀ a x, H1 a = some x -> a ≠ p := fun a x e => x1t e hp
  have nw : ∀ a o, w1 a = some o -> a ≠ p := fun a o e => by obtain ⟨vs, q⟩ := g.wl a o e; exact ne a _ q
  have st : x76 H1 w1 (upd H1 p (.tup vs)) w1 := fun a x e n => ⟨by rw [x0w (ne a x e)]; exact e, n⟩
  refine ⟨⟨fun a o e => ?_, g.ws, fun a i e => Nat.lt_succ_of_lt (g.wt a i e), g.len, fun i d q e => ?_⟩, ⟨st, fun a o e _ => ⟨x0w (nw a o e), e⟩⟩, ?_⟩
  · obtain ⟨us, q⟩ := g.wl a o e
    exact ⟨us, by rw [x0w (nw a o e)]; exact q⟩
  · obtain ⟨v, F, h1, h2⟩ := g.slot i d q e
    exact ⟨v, F, h1, Rep.go g.wl st h2 fun a m => ⟨x0w (nw a _ (h2.owns a m)), h2.owns a m⟩⟩
  · exact .tup x2h (Reps.go g.wl st r (fun _ z => nomatch z))
end
@[simp] noncomputable def eC (d : D) : Den := fun ρ => some (d, 9, ρ)
@[simp] noncomputable def x06 (i : Nat) : Den := fun ρ => match ρ[i]? with
  | some (some (d, q)) => if d.isL = false then some (d, 9, ρ) else if q = 0 then some (d, 0, ρ) else some (d, 0, ρ.set i (some (d, 0)))
  | _ => none
section
variable {X : Cx} {a b c e : Expr} {fa fb fc f : Den} {pos : Pos}
theorem x6t {v : V} {d : D} (h : PE X e (tC v)) (r : ∀ K H w o q, Rep K H w o q d v []) : PD X e (eC d) := PE.imp h fun σ H Q hh0 => by
  obtain ⟨ρ, w, t, r', q, ρ', g, ee, k⟩ := hh0
  cases ee
  exact k v H w [] g.up Go.refl (r _ _ _ _ _)
theorem z69 {i j} : PD X (.Constant (.int i) j pos) (eC (.int i)) := x6t z62 fun _ _ _ _ _ => .int i
theorem z7z {i j} : PD X (.Constant (.bool i) j pos) (eC (.bl i)) := x6t z82 fun _ _ _ _ _ => .bl i
theorem z6c {j} : PD X (.Constant .none j pos) (eC .non) := x6t z67 fun _ _ _ _ _ => .non
theorem z5y {x j} : PD X (.Constant (.str x) j pos) (eC (.str x)) := x6t z0n fun _ _ _ _ _ => .str x
noncomputable def x51 (i : Nat) (w : Wn) : Wn := fun a => if w a = some (.s i) then none else w a
theorem x4v {i : Nat} {w : Wn} {a : Addr} (h : w a = none) : x51 i w a = none := by unfold x51; rw [h]; rfl
theorem y07 {i : Nat} {w : Wn} {a : Addr} (h : w a = some (.s i)) : x51 i w a = none := by unfold x51; rw [if_pos h]
theorem x61 {i : Nat} {w : Wn} {a : Addr} {o : Ow} (h : w a = some o) (n : o ≠ .s i) : x51 i w a = some o := by unfold x51; rw [if_neg (by rw [h]; exact fun z => n (Option.some.inj z))]; exact h
theorem x2w {i : Nat} {w : Wn} {a : Addr} {o : Ow} (h : x51 i w a = some o) : w a = some o /\ o ≠ .s i := by
  unfold x51 at h
  split at h
  · cases h
  · rename_i n; exact ⟨h, fun z => n (by rw [h, z])⟩
theorem Good.give {K : PySem.W.Frag} {ρ : Rho} {σ : St} {H : Hp} {w : Wn} {t i : Nat} {d : D} {q : Nat} (g : Good K ρ σ H w t) (e : ρ[i]? = some (some (d, q))) : Good K (ρ.set i (some (d, 0))) σ H (x51 i w) t /\ Go H w H (x51 i w) := by
  have st : x76 H w H (x51 i w) := fun a x h n => ⟨h, x4v n⟩
  refine ⟨⟨fun a o h => g.wl a o (x2w h).1, fun a j h => g.ws a j (x2w h).1, fun a j h => g.wt a j (x2w h).1, by rw [List.length_set]; exact g.len, fun j d' q' e' => ?_⟩, ⟨st, fun a o h n => ⟨rfl, x61 h (n i)⟩⟩⟩
  by_cases hj : i = j
  · subst hj
    rw [List.getElem?_set_self (List.getElem?_eq_some_iff.mp e).1] at e'
    cases e'
    obtain ⟨v, F, h1, h2⟩ := g.slot i d q e
    exact ⟨v, [], h1, Rep.freeze (fun a n => x4v n) h2 fun a m => y07 (h2.owns a m)⟩
  · rw [List.getElem?_set_ne hj] at e'
    obtain ⟨v, F, h1, h2⟩ := g.slot j d' q' e'
    exact ⟨v, F, h1, Rep.go g.wl st h2 fun a m => ⟨rfl, x61 (h2.owns a m) (fun z => hj (by cases z; rfl))⟩⟩
theorem z6b {i : Nat} {x : Str} (h : PE X (.Name x pos) (x9i i)) : PD X (.Name x pos) (x06 i) := PE.imp h fun σ H Q hh0 => by
  obtain ⟨ρ, w, t, r', q, ρ', g, ee, k⟩ := hh0
  unfold x06 at ee
  split at ee
  · rename_i d q0 e0
    obtain ⟨v, F, h1, h2⟩ := g.slot i d q0 e0
    refine ⟨v, h1, ?_⟩
    split at ee
    · rename_i hl
      cases ee
      obtain ⟨hF, hr⟩ := h2.nolist hl
      exact k v H w [] g.up Go.refl ((hr 9).any g.wl)
    · split at ee
      · rename_i hq
        subst hq
        cases ee
        have := h2.zero
        subst this
        exact k v H w [] g.up Go.refl (h2.any g.wl)
      · cases ee
        obtain ⟨g', go'⟩ := g.give e0
        refine k v H (x51 i w) [] g'.up go' ?_
        exact Rep.freeze (fun a n => x4v n) h2 fun a m => y07 (h2.owns a m)
  · cases ee
noncomputable def x7i : D -> Option V
  | .non => some .non
  | .bl b => some (.bl b)
  | .int i => some (.int i)
  | .str x => some (.str x)
  | _ => none
theorem x8h {K : PySem.W.Frag} {H : Hp} {w : Wn} {o : Ow} {q : Nat} {d : D} {v : V} (h : x7i d = some v) : Rep K H w o q d v [] := by
  cases d <;> cases h
  · exact .non
  · exact .bl _
  · exact .int _
  · exact .str _
@[simp] noncomputable def e2 (g : D -> D -> Option D) (fa fb : Den) : Den := fun ρ => match fa ρ with
  | some (x, _, ρ1) => match fb ρ1 with
    | some (y, _, ρ2) => match g x y with
      | some d => some (d, 9, ρ2)
      | none => none
    | none => none
  | none => none
theorem z1o {g : D -> D -> Option D} {ρ ρ' : Rho} {r : D} {q : Nat} (h : e2 g fa fb ρ = some (r, q, ρ')) : ∃ x q1 ρ1 y q2, fa ρ = some (x, q1, ρ1) /\ fb ρ1 = some (y, q2, ρ') /\ g x y = some r /\ q = 9 := by
  unfold e2 at h
  split at h
  · rename_i x q1 ρ1 h1
    split at h
    · rename_i y q2 ρ2 h2
      split at h
      · rename_i d hd
        cases h
        exact ⟨x, q1, ρ1, y, q2, h1, h2, hd, rfl⟩
      · cases h
    · cases h
  · cases h
theorem x94 {K : PySem.W.Frag} {g : D -> D -> Option D} {r : R2} (hg : ∀ x y d, g x y = some d -> ∃ v, x7i d = some v /\ ∀ H w o o' q q' u u' F F', Rep K H w o q x u F -> Rep K H w o' q' y u' F' -> WL w H -> ∀ Q : VK, Q v H -> r u u' H Q) :
    ∀ σ H Q, tD K (e2 g fa fb) σ H Q -> tOp r (tD K fa) (tD K fb) σ H Q := fun σ H Q hh0 => by
  obtain ⟨ρ, w, t, r', q, ρ', gd, ee, k⟩ := hh0
  obtain ⟨x, q1, ρ1, y, q2, h1, h2, h3, rfl⟩ := z1o ee
  obtain ⟨v, hv, hr⟩ := hg x y r' h3
  exact z3t gd h1 h2 fun u u' H2 w2 F1 F2 g2 go r1 r2 => hr H2 w2 _ _ _ _ u u' F1 F2 r1 r2 g2.wl Q (z2m k gd g2 go (x8h hv))
@[simp] noncomputable def gI (f : Int -> Int -> Option D) : D -> D -> Option D
  | .int i, .int j => f i j
  | _, _ => none
theorem x5v {f : Int -> Int -> Option D} {x y d : D} (h : gI f x y = some d) : ∃ i j, x = .int i /\ y = .int j /\ f i j = some d := by
  unfold gI at h
  split at h
  · exact ⟨_, _, rfl, rfl, h⟩
  · cases h
theorem x3h {K : PySem.W.Frag} {H : Hp} {w : Wn} {o : Ow} {q : Nat} {i : Int} {v : V} {F : List Addr} (r : Rep K H w o q (.int i) v F) : v = .int i := by cases r; rfl
theorem y3q {K : PySem.W.Frag} {f : Int -> Int -> Option D} {C : Int -> Int -> Prop} {h : Int -> Int -> V} (hf : ∀ i j d, f i j = some d -> C i j /\ x7i d = some (h i j)) :
    ∀ σ H Q, tD K (e2 (gI f) fa fb) σ H Q -> tOp (rI C h) (tD K fa) (tD K fb) σ H Q :=
  x94 fun x y d e => by
    obtain ⟨i, j, rfl, rfl, e⟩ := x5v e
    obtain ⟨c, s⟩ := hf i j d e
    exact ⟨_, s, fun H w o o' q q' u u' F F' r1 r2 _ Q hq => ⟨i, j, x3h r1, x3h r2, c, hq⟩⟩
theorem y43 {K : PySem.W.Frag} {f : Int -> Int -> Option D} {h : Int -> Int -> V} (hf : ∀ i j d, f i j = some d -> x7i d = some (h i j)) :
    ∀ σ H Q, tD K (e2 (gI f) fa fb) σ H Q -> tOp (rI0 h) (tD K fa) (tD K fb) σ H Q :=
  x94 fun x y d e => by
    obtain ⟨i, j, rfl, rfl, e⟩ := x5v e
    exact ⟨_, hf i j d e, fun H w o o' q q' u u' F F' r1 r2 _ Q hq => ⟨i, j, x3h r1, x3h r2, hq⟩⟩
end
section
variable {X : Cx} {a b c e : Expr} {fa fb fc f : Den} {pos : Pos}
@[simp] noncomputable def x4x : D -> D -> Option D := gI fun i j => some (.int (i + j))
@[simp] noncomputable def y58 : D -> D -> Option D := gI fun i j => if (-(2 ^ 64) < i /\ i < 2 ^ 64) \/ (-(2 ^ 64) < j /\ j < 2 ^ 64) then some (.int (i * j)) else none
@[simp] noncomputable def z5d : D -> D -> Option D := gI fun i j => if 0 < j /\ j < 1073741824 then some (.int (i / j)) else none
@[simp] noncomputable def z0g : D -> D -> Option D := gI fun i j => if 0 < j then some (.int (i % j)) else none
theorem z46 (ha : PD X a fa) (hb : PD X b fb) : PD X (.BinOp a .Add b pos) (e2 x4x fa fb) := PE.imp (y4l z4u ha hb) (y43 fun i j d h => by cases h; rfl)
theorem z5s (ha : PD X a fa) (hb : PD X b fb) : PD X (.BinOp a .Mult b pos) (e2 y58 fa fb) := PE.imp (y4l z5h ha hb) (y3q fun i j d h => by
  split at h
  · cases h; exact ⟨by assumption, rfl⟩
  · cases h)
theorem z5g (ha : PD X a fa) (hb : PD X b fb) : PD X (.BinOp a .FloorDiv b pos) (e2 z5d fa fb) := PE.imp (y4l z3g ha hb) (y3q fun i j d h => by
  split at h
  · cases h; exact ⟨by assumption, rfl⟩
  · cases h)
theorem z4b (ha : PD X a fa) (hb : PD X b fb) : PD X (.BinOp a .Mod b pos) (e2 z0g fa fb) := PE.imp (y4l z63 ha hb) (y3q fun i j d h => by
  split at h
  · cases h; exact ⟨by assumption, rfl⟩
  · cases h)
noncomputable def atD : D -> Int -> Option D
  | .lst ds, i => atI ds i
  | .tup ds, i => atI ds i
  | _, _ => none
@[simp] noncomputable def eIx (fa fb : Den) : Den := fun ρ => match fa ρ with
  | some (x, _, ρ1) => match fb ρ1 with
    | some (.int i, _, ρ2) => match atD x i with
      | some d => some (d, x2e d, ρ2)
      | none => none
    | _ => none
  | none => none
theorem Rep.seqL {K : PySem.W.Frag} {H : Hp} {w : Wn} {o : Ow} {q : Nat} {ds : List D} {v : V} {F : List Addr} (r : Rep K H w o q (.lst ds) v F) : ∃ a vs q' G, v = .ref a /\ SqL K H a vs /\ Reps K H w o q' ds vs G := by
  cases r with
  | kl h r => exact ⟨_, _, _, _, rfl, h.sq, r⟩
  | shr h n r => exact ⟨_, _, _, _, rfl, .inl h, r⟩
  | own h n r _ => exact ⟨_, _, _, _, rfl, SqL.of h, r⟩
theorem Rep.seqL0 {K : PySem.W.Frag} {H : Hp} {w : Wn} {o : Ow} {ds : List D} {v : V} {F : List Addr} (r : Rep K H w o 0 (.lst ds) v F) : ∃ a vs, v = .ref a /\ SqL K H a vs /\ Reps K H w o 0 ds vs [] := by
  cases r with
  | kl h r => exact ⟨_, _, rfl, h.sq, r⟩
  | shr h n r => exact ⟨_, _, rfl, .inl h, r⟩
theorem Rep.seqT {K : PySem.W.Frag} {H : Hp} {w : Wn} {o : Ow} {q : Nat} {ds : List D} {v : V} {F : List Addr} (r : Rep K H w o q (.tup ds) v F) : ∃ a vs, v = .ref a /\ SqT K H a vs /\ Reps K H w o 0 ds vs [] := by
  cases r with
  | tup h r => exact ⟨_, _, rfl, SqT.of h, r⟩
theorem Rep.tupAt {K : PySem.W.Frag} {H : Hp} {w : Wn} {o : Ow} {q : Nat} {ds : List D} {v : V} {F : List Addr} (r : Rep K H w o q (.tup ds) v F) : ∃ a vs, v = .ref a /\ H a = some (.tup vs) /\ Reps K H w o 0 ds vs [] := by
  cases r with
  | tup h r => exact ⟨_, _, rfl, h, r⟩
theorem Reps.atI {K : PySem.W.Frag} {H : Hp} {w : Wn} {o : Ow} {ds : List D} {vs : List V} {i : Int} {d : D} (r : Reps K H w o 0 ds vs []) (h : L2.atI ds i = some d) : ∃ v, L2.atI vs i = some v /\ Rep K H w o 0 d v [] := by
  unfold L2.atI at h ⊢
  rw [<- r.length]
  cases e : ixN ds.length i with
  | none => rw [e] at h; cases h
  | some j =>
    rw [e] at h
    exact r.get h
theorem z7p (ha : PD X a fa) (hb : PD X b fb) (hs : x5b b := by exact fun _ _ => rfl) : PD X (.Subscript a b pos) (eIx fa fb) := PE.imp (y8w y3y ha hb hs) fun σ H Q hh0 => by
  obtain ⟨ρ, w, t, r', q, ρ', gd, ee, k⟩ := hh0
  unfold eIx at ee
  split at ee
  · rename_i x q1 ρ1 h1
    split at ee
    · rename_i i q2 ρ2 h2
      split at ee
      · rename_i d hd
        cases ee
        refine z3t gd h1 h2 fun u u' H2 w2 F1 F2 g2 go r1 r2 => ?_
        have hu' := x3h r2
        subst hu'
        have r0 := r1.drop (o := .t t) (Nat.le_refl t)
        cases x with
        | lst ds =>
          obtain ⟨p, vs, rfl, hq, rs⟩ := r0.seqL0
          obtain ⟨v, hv, rv⟩ := rs.atI hd
          exact .inl ⟨p, vs, i, v, rfl, rfl, hq, hv, z2m k gd g2 go rv.dep⟩
        | tup ds =>
          obtain ⟨p, vs, rfl, hq, rs⟩ := r0.seqT
          obtain ⟨v, hv, rv⟩ := rs.atI hd
          exact .inr (.inl ⟨p, vs, i, v, rfl, rfl, hq, hv, z2m k gd g2 go rv.dep⟩)
        | _ => cases hd
      · cases ee
    · cases ee
  · cases ee
noncomputable abbrev x1v := Rho -> Option (List D × Rho)
noncomputable def tDA (K : PySem.W.Frag) (f : x1v) : TA := fun σ H Q => ∃ ρ w t ds ρ', Good K ρ σ H w t /\ f ρ = some (ds, ρ') /\ ∀ vs H' w', Good K ρ' σ H' w' t -> Go H w H' w' -> Reps K H' w' .f 0 ds vs [] -> Q vs H'
noncomputable abbrev PDA (X : Cx) (es : List Expr) (f : x1v) : Prop := PA X es (tDA X.K f)
theorem PA.imp {X : Cx} {e : List Expr} {t t' : TA} (h : PA X e t) (i : ∀ σ H Q, t' σ H Q -> t σ H Q) : PA X e t' := fun pos pins s σ H Q I q => h pos pins s σ H Q I (i σ H Q q)
@[simp] noncomputable def x0e : x1v := fun ρ => some ([], ρ)
@[simp] noncomputable def x01 (f : Den) (g : x1v) : x1v := fun ρ => match f ρ with
  | some (d, _, ρ1) => match g ρ1 with
    | some (ds, ρ2) => some (d :: ds, ρ2)
    | none => none
  | none => none
theorem z1r : PDA X [] x0e := PA.imp x7v fun σ H Q hh0 => by
  obtain ⟨ρ, w, t, ds, ρ', gd, ee, k⟩ := hh0
  cases ee
  exact k [] H w gd Go.refl .nil
theorem y9k {es : List Expr} {g : x1v} (ha : PD X e f) (hr : PDA X es g) (hs : starEach (e :: es) X.env = (false, eval e X.env) :: starEach es X.env := by rfl) : PDA X (e :: es) (x01 f g) := PA.imp (x4c ha hr hs) fun σ H Q hh0 => by
  obtain ⟨ρ, w, t, ds, ρ', gd, ee, k⟩ := hh0
  unfold x01 at ee
  split at ee
  · rename_i d q ρ1 h1
    split at ee
    · rename_i ds' ρ2 h2
      cases ee
      refine ⟨ρ, w, t, d, q, ρ1, gd, h1, fun x H1 w1 F1 g1 go1 r1 => ⟨ρ1, x21 t w1, t, ds', _, g1.drop, h2, fun vs H2 w2 g2 go2 r2 => ?_⟩⟩
      have gl := (g1.drop (t' := t)).wl
      have r0 : Rep X.K H2 w2 .f 0 d x [] := Rep.go gl go2.stab (r1.drop (o := .f) (Nat.le_refl t)) (fun _ z => nomatch z)
      exact k (x :: vs) H2 w2 g2 ((go1.drop gd.wt).trans go2) (.cons (F := []) (G := []) r0 r2 (fun _ z => nomatch z))
    · cases ee
  · cases ee
@[simp] noncomputable def x7a (g : x1v) : Den := fun ρ => match g ρ with
  | some (ds, ρ1) => if ds.length <= 1000 then some (.lst ds, 1, ρ1) else none
  | none => none
@[simp] noncomputable def x88 (g : x1v) : Den := fun ρ => match g ρ with
  | some (ds, ρ1) => if ds.length <= 1000 then some (.tup ds, 9, ρ1) else none
  | none => none
theorem y27 {n : Nat} (h : n <= 1000) : n <= sizeLine := Nat.le_of_lt (x3i h)
theorem z6g {es : List Expr} {g : x1v} (h : PDA X es g) : PD X (.List es pos) (x7a g) := PE.imp (z48 h) fun σ H Q hh0 => by
  obtain ⟨ρ, w, t, r', q, ρ', gd, ee, k⟩ := hh0
  unfold x7a at ee
  split at ee
  · rename_i ds ρ1 h1
    split at ee
    · rename_i hl
      cases ee
      refine ⟨ρ, w, t, ds, _, gd, h1, fun vs H1 w1 g1 go1 r1 => ⟨by rw [<- r1.length]; exact y27 hl, fun p hp => ?_⟩⟩
      obtain ⟨a1, a2, a3⟩ := y6f g1 hp r1
      exact k _ _ _ _ a1 (go1.trans a2) a3
    · cases ee
  · cases ee
theorem z6d {es : List Expr} {g : x1v} {x1} (h : PDA X es g) : PD X (.Tuple es x1 pos) (x88 g) := PE.imp (z60 h) fun σ H Q hh0 => by
  obtain ⟨ρ, w, t, r', q, ρ', gd, ee, k⟩ := hh0
  unfold x88 at ee
  split at ee
  · rename_i ds ρ1 h1
    split at ee
    · rename_i hl
      cases ee
      refine ⟨ρ, w, t, ds, _, gd, h1, fun vs H1 w1 g1 go1 r1 => ⟨by rw [<- r1.length]; exact y27 hl, fun p hp => ?_⟩⟩
      obtain ⟨a1, a2, a3⟩ := y1o g1 hp r1
      exact k _ _ _ _ a1 (go1.trans a2) a3
    · cases ee
  · cases ee
noncomputable def spD (K : PySem.W.Frag) (n : Nat) (F : List D -> Option (D × Nat)) : Sp := fun vs H Q _ => vs.length = n /\ ∃ ds w r q, (∀ a o, w a = some o -> o = .f) /\ WL w H /\ Reps K H w .f 0 ds vs [] /\ F ds = some (r, q) /\
  ∀ v H' w' Fo, Go H w H' w' -> WL w' H' -> Rep K H' w' (.t 0) q r v Fo -> Q v H'
@[simp] noncomputable def x0n (F : List D -> Option (D × Nat)) (n : Nat) (g : x1v) : Den := fun ρ => match g ρ with
  | some (ds, ρ1) => if ds.length = n then match F ds with
    | some (r, q) => some (r, q, ρ1)
    | none => none
    else none
  | none => none
theorem z8w {K : PySem.W.Frag} {ρ : Rho} {σ : St} {H H' : Hp} {w w' : Wn} {t q : Nat} {d : D} {v : V} {Fo : List Addr} (g : Good K ρ σ H w t)
    (go : Go H (fun a => (w a).map fun _ => Ow.f) H' w') (wl' : WL w' H') (r : Rep K H' w' (.t 0) q d v Fo) :
    Good K ρ σ H' (fun a => if a ∈ Fo then some (.t t) else w a) (t + 1) /\ Go H w H' (fun a => if a ∈ Fo then some (.t t) else w a) /\ Rep K H' (fun a => if a ∈ Fo then some (.t t) else w a) (.t t) q d v Fo := by
  have kf : ∀ a o, w a = some o -> H' a = H a /\ w' a = some .f := fun a o e => go.keep a .f (by show (w a).map _ = _; rw [e]; rfl) (fun _ z => nomatch z)
  have nf : ∀ a x, H a = some x -> a ∉ Fo := fun a x e m => by
    have h1 := r.owns a m
    cases ew : w a with
    | none =>
      have := (go.stab a x e (by show (w a).map _ = _; rw [ew]; rfl)).2
      rw [h1] at this; cases this
    | some o => rw [(kf a o ew).2] at h1; cases h1
  have nw : ∀ a o, w a = some o -> a ∉ Fo := fun a o e => by obtain ⟨vs, q⟩ := g.wl a o e; exact nf a _ q
  have st : x76 H w H' (fun a => if a ∈ Fo then some (.t t) else w a) := fun a x e n => ⟨(go.stab a x e (by show (w a).map _ = _; rw [n]; rfl)).1, by show (if a ∈ Fo then _ else _) = _; rw [if_neg (nf a x e)]; exact n⟩
  have wv : ∀ a o, (if a ∈ Fo then some (Ow.t t) else w a) = some o -> (a ∈ Fo /\ o = .t t) \/ w a = some o := fun a o e => by
    split at e
    · cases e; exact .inl ⟨by assumption, rfl⟩
    · exact .inr e
  refine ⟨⟨fun a o e => ?_, fun a i e => ?_, fun a i e => ?_, g.len, fun i d q e => ?_⟩, ⟨st, fun a o e _ => ⟨(kf a o e).1, by show (if a ∈ Fo then _ else _) = _; rw [if_neg (nw a o e)]; exact e⟩⟩, ?_⟩
  · rcases wv a o e with ⟨m, _⟩ | z
    · exact wl' a _ (r.owns a m)
    · obtain ⟨vs, h⟩ := g.wl a o z
      exact ⟨vs, (kf a o z).1.trans h⟩
  · rcases wv a _ e with ⟨_, z⟩ | z
    · cases z
    · exact g.ws a i z
  · rcases wv a _ e with ⟨_, z⟩ | z
    · cases z; exact Nat.lt_succ_self _
    · exact Nat.lt_succ_of_lt (g.wt a i z)
  · obtain ⟨v, F, h1, h2⟩ := g.slot i d q e
    refine ⟨v, F, h1, Rep.go g.wl st h2 fun a m => ⟨(kf a _ (h2.owns a m)).1, ?_⟩⟩
    show (if a ∈ Fo then _ else _) = _
    rw [if_neg (nw a _ (h2.owns a m))]
    exact h2.owns a m
  · refine Rep.go wl' (fun a x e n => ⟨e, ?_⟩) r fun a m => ⟨rfl, if_pos m⟩
    show (if a ∈ Fo then _ else _) = _
    rw [if_neg (fun m => by have := r.owns a m; rw [n] at this; cases this)]
    cases ew : w a with
    | none => rfl
    | some o => have := (kf a o ew).2; rw [n] at this; cases this
theorem y9j {CX : CXT} {k n : Nat} {fn : Addr} {fd : FuncData} {ps : List Str} {x : Str} {p : Pos} {es : List Expr} {F : List D -> Option (D × Nat)} {g : x1v} {E : XK} (Fk : FnOk X.prog X.w X.K X.mg X.base CX k fn fd ps (spD X.K n F)) (hr : Room k X.A) (hm : X.mg x = some (.ref fn)) (hk : PySem.W.keepIn X.K (.ref fn) = true) (hb : y0f X.K fd ps [])
    (hx : y3u CX X E) (ha : PDA X (e :: es) g) (hg : Gl X x := by rfl) (hdb : (x == ("__debug__" : Str)) = false := by decide) (he : starEach (e :: es) X.env = (false, eval e X.env) :: starEach es X.env := by rfl) (hpl : (backTo pos (starEach es X.env)).any (·.1) = false := by rfl) :
    PD X (.Call (.Name x p) (e :: es) [] pos) (x0n F n g) := PE.imp (y74 Fk hr hg hm hk hb .nil hx ha hdb he hpl) fun σ H Q hh0 => by
  obtain ⟨ρ, w, t, r', q, ρ', gd, ee, k⟩ := hh0
  unfold x0n at ee
  split at ee
  · rename_i ds ρ1 h1
    split at ee
    · rename_i hn
      split at ee
      · rename_i r0 q0 h2
        cases ee
        refine ⟨ρ, w, t, ds, _, gd, h1, fun vs H1 w1 g1 go1 r1 => ?_⟩
        show spD X.K n F (vs ++ []) H1 Q E
        rw [List.append_nil]
        refine ⟨by rw [<- r1.length]; exact hn, ds, fun a => (w1 a).map fun _ => Ow.f, r', q, fun a o e => ?_, fun a o e => ?_, ?_, h2, fun v H2 w2 Fo go2 wl2 rr => ?_⟩
        · dsimp only at e
          cases ew : w1 a with
          | none => rw [ew] at e; cases e
          | some o' => rw [ew] at e; cases e; rfl
        · dsimp only at e
          cases ew : w1 a with
          | none => rw [ew] at e; cases e
          | some o' => exact g1.wl a o' ew
        · exact Reps.freeze (fun a n => by show (w1 a).map _ = _; rw [n]; rfl) r1 (fun _ z => nomatch z)
        · obtain ⟨b1, b2, b3⟩ := z8w g1 go2 wl2 rr
          exact k _ _ _ _ b1 (go1.trans b2) b3
      · cases ee
    · cases ee
  · cases ee
end
noncomputable abbrev x2k := Rho -> Option (Bool × Rho)
noncomputable def tDT (K : PySem.W.Frag) (f : x2k) : TT := fun σ H Q => ∃ ρ w t b ρ', Good K ρ σ H w t /\ f ρ = some (b, ρ') /\ ∀ H' w', Good K ρ' σ H' w' t -> Go H w H' w' -> Q b H'
theorem PT.imp {X : Cx} {e : Expr} {t t' : TT} (h : PT X e t) (i : ∀ σ H Q, t' σ H Q -> t σ H Q) : PT X e t' := fun pins s σ H Q I q => h pins s σ H Q I (i σ H Q q)
theorem PW.imp {X : Cx} {e : Expr} {t t' : TT} (h : PW X e t) (i : ∀ σ H Q, t' σ H Q -> t σ H Q) : PW X e t' := fun whole pins s σ H Q I q => h whole pins s σ H Q I (i σ H Q q)
noncomputable abbrev PDT (X : Cx) (e : Expr) (f : x2k) : Prop := PT X e (tDT X.K f)
noncomputable abbrev PDW (X : Cx) (e : Expr) (f : x2k) : Prop := PW X e (tDT X.K f)
@[simp] noncomputable def z8q : D -> Option Bool
  | .non => some false
  | .bl b => some b
  | .int i => some (i != 0)
  | .tup ds => some (!ds.isEmpty)
  | .lst ds => some (!ds.isEmpty)
  | .str _ => none
  | .dic _ _ => none
  | .exc _ => none
@[simp] noncomputable def x8q (f : Den) : x2k := fun ρ => match f ρ with
  | some (d, _, ρ1) => match z8q d with
    | some b => some (b, ρ1)
    | none => none
  | none => none
section
variable {X : Cx} {a b c e : Expr} {fa fb fc f : Den} {ga gb gc : x2k} {pos : Pos}
theorem x8c {α β : Type} {l : List α} {l' : List β} (h : l.length = l'.length) : (!l.isEmpty) = !l'.isEmpty := by
  cases l <;> cases l' <;> first | rfl | cases h
theorem z2b (ha : PD X a fa) (he : ∀ whole, isTrue a X.env whole = (do let v <- whole; standAt a.pos; holding [v] (truthy v)) := by exact fun _ => rfl) : PDT X a (x8q fa) := PT.imp (z01 ha he) fun σ H Q hh0 => by
  obtain ⟨ρ, w, t, b, ρ', gd, ee, k⟩ := hh0
  unfold x8q at ee
  split at ee
  · rename_i d q ρ1 h1
    split at ee
    · rename_i b' hb
      cases ee
      refine ⟨ρ, w, t, d, q, _, gd, h1, fun v H1 w1 F g1 go1 r1 => ⟨b, ?_, k H1 (x21 t w1) g1.drop (go1.drop gd.wt)⟩⟩
      cases r1 with
      | non => cases hb; rfl
      | bl x => cases hb; rfl
      | int i => cases hb; rfl
      | str x => cases hb
      | tup h r => cases hb; exact .inr (.inl ⟨_, SqT.of h, x8c r.length⟩)
      | dic h r => cases hb
      | exc h x n => cases hb
      | kl h r => cases hb; exact .inl ⟨_, h.sq, x8c r.length⟩
      | shr h _ r => cases hb; exact .inl ⟨_, .inl h, x8c r.length⟩
      | own h _ r _ => cases hb; exact .inl ⟨_, SqL.of h, x8c r.length⟩
    · cases ee
  · cases ee
@[simp] noncomputable def x2y (f : Den) : x2k := fun ρ => match f ρ with
  | some (.bl b, _, ρ1) => some (b, ρ1)
  | _ => none
theorem y41 {K : PySem.W.Frag} {te : TE} (h : ∀ σ H Q, tD K f σ H Q -> te σ H Q) : ∀ σ H Q, tDT K (x2y f) σ H Q -> z3e te σ H Q := fun σ H Q hh0 => by
  obtain ⟨ρ, w, t, b, ρ', gd, ee, k⟩ := hh0
  unfold x2y at ee
  split at ee
  · rename_i b' q ρ1 h1
    cases ee
    refine h σ H _ ⟨ρ, w, t, .bl b, q, _, gd, h1, fun v H1 w1 F g1 go1 r1 => ?_⟩
    cases r1
    exact ⟨b, rfl, k H1 (x21 t w1) g1.drop (go1.drop gd.wt)⟩
  · cases ee
theorem x7g {op : CmpOp} {g : D -> D -> Option D} {r : R2} (ho : OpR X (compareOp op) r) (hr : ∀ σ H Q, tD X.K (e2 g fa fb) σ H Q -> tOp r (tD X.K fa) (tD X.K fb) σ H Q) (ha : PD X a fa) (hb : PD X b fb) (hm : behindInMarks op b = false) :
    PDT X (.Compare a [op] [b] pos) (x2y (e2 g fa fb)) := PT.imp (z22 ho ha hb hm) (y41 hr)
theorem z0b {op : CmpOp} {g : D -> D -> Option D} {r : R2} (ho : OpR X (compareOp op) r) (hr : ∀ σ H Q, tD X.K (e2 g fa fb) σ H Q -> tOp r (tD X.K fa) (tD X.K fb) σ H Q) (ha : PD X a fa) (hb : PD X b fb) (hm : behindInMarks op b = false) :
    PD X (.Compare a [op] [b] pos) (e2 g fa fb) := PE.imp (z32 ho ha hb hm) hr
@[simp] noncomputable def dLt : D -> D -> Option D := gI fun i j => some (.bl (decide (i < j)))
@[simp] noncomputable def dLe : D -> D -> Option D := gI fun i j => some (.bl (decide (i <= j)))
theorem hLt {K : PySem.W.Frag} : ∀ σ H Q, tD K (e2 dLt fa fb) σ H Q -> tOp (rI0 fun i j => .bl (decide (i < j))) (tD K fa) (tD K fb) σ H Q := y43 fun i j d h => by cases h; rfl
theorem z52 (ha : PD X a fa) (hb : PD X b fb) : PDT X (.Compare a [.Lt] [b] pos) (x2y (e2 dLt fa fb)) := x7g z50 hLt ha hb (x9n _)
@[simp] noncomputable def x45 (g : x2k) : x2k := fun ρ => match g ρ with
  | some (b, ρ1) => some (!b, ρ1)
  | none => none
theorem z1v (ha : PDT X a ga) : PDT X (.UnaryOp .Not a pos) (x45 ga) := PT.imp (z66 ha) fun σ H Q hh0 => by
  obtain ⟨ρ, w, t, b, ρ', gd, ee, k⟩ := hh0
  unfold x45 at ee
  split at ee
  · rename_i b' ρ1 h1
    cases ee
    exact ⟨ρ, w, t, b', _, gd, h1, fun H1 w1 g1 go1 => k H1 w1 g1 go1⟩
  · cases ee
@[simp] noncomputable def y54 (g h : x2k) : x2k := fun ρ => match g ρ with
  | some (b, ρ1) => if b = true then some (true, ρ1) else h ρ1
  | none => none
variable {x2n : List Expr}
theorem z2v (ha : PDT X a ga) : PDW X (.BoolOp .Or [a] pos) ga := z5a ha
theorem z4f (ha : PDT X a ga) (hb : PDW X (.BoolOp .Or (b :: x2n) pos) gb) : PDW X (.BoolOp .Or (a :: b :: x2n) pos) (y54 ga gb) := PW.imp (z85 ha hb) fun σ H Q hh0 => by
  obtain ⟨ρ, w, t, b, ρ', gd, ee, k⟩ := hh0
  unfold y54 at ee
  split at ee
  · rename_i b' ρ1 h1
    refine ⟨ρ, w, t, b', ρ1, gd, h1, fun H1 w1 g1 go1 => ?_⟩
    split at ee
    · rename_i hb; rw [if_pos hb]
      cases ee
      exact k H1 w1 g1 go1
    · rename_i hb; rw [if_neg hb]
      exact ⟨ρ1, w1, t, b, ρ', g1, ee, fun H2 w2 g2 go2 => k H2 w2 g2 (go1.trans go2)⟩
  · cases ee
@[simp] noncomputable def eIf (g : x2k) (fa fb : Den) : Den := fun ρ => match g ρ with
  | some (b, ρ1) => if b = true then fa ρ1 else fb ρ1
  | none => none
theorem y95 (hc : PDT X c gc) (ha : PD X a fa) (hb : PD X b fb) : PD X (.IfExp c a b pos) (eIf gc fa fb) := PE.imp (y8d hc ha hb) fun σ H Q hh0 => by
  obtain ⟨ρ, w, t, r', q, ρ', gd, ee, k⟩ := hh0
  unfold eIf at ee
  split at ee
  · rename_i b' ρ1 h1
    refine ⟨ρ, w, t, b', ρ1, gd, h1, fun H1 w1 g1 go1 => ?_⟩
    split at ee
    · rename_i hb; rw [if_pos hb]
      exact ⟨ρ1, w1, t, r', q, ρ', g1, ee, fun v H2 w2 F g2 go2 => k v H2 w2 F g2 (go1.trans go2)⟩
    · rename_i hb; rw [if_neg hb]
      exact ⟨ρ1, w1, t, r', q, ρ', g1, ee, fun v H2 w2 F g2 go2 => k v H2 w2 F g2 (go1.trans go2)⟩
  · cases ee
end
inductive Out where
  | nx (ρ : Rho) | rt (d : D) (q : Nat) | bk (ρ : Rho) | ct (ρ : Rho)
noncomputable abbrev x22 := Rho -> Option Out
noncomputable def y2p (K : PySem.W.Frag) (Dn : Ends) (n : Nat) (H : Hp) (w : Wn) : Out -> Prop
  | .nx ρ' => ∀ σ' H' w', σ'.length = n -> Good K ρ' σ' H' w' 0 -> Go H w H' w' -> Dn.nx σ' H'
  | .bk ρ' => ∀ σ' H' w', σ'.length = n -> Good K ρ' σ' H' w' 0 -> Go H w H' w' -> Dn.bk σ' H'
  | .ct ρ' => ∀ σ' H' w', σ'.length = n -> Good K ρ' σ' H' w' 0 -> Go H w H' w' -> Dn.ct σ' H'
  | .rt d q => ∀ v H' w' F, WL w' H' -> Go H w H' w' -> Rep K H' w' (.t 0) q d v F -> Dn.rt v H'
noncomputable def tDS (K : PySem.W.Frag) (f : x22) : TS := fun Dn σ H => ∃ ρ w o, Good K ρ σ H w 0 /\ f ρ = some o /\ y2p K Dn σ.length H w o
theorem PS.imp {X : Cx} {e : Stmt} {t t' : TS} (h : PS X e t) (i : ∀ D σ H, t' D σ H -> t D σ H) : PS X e t' := fun pins s σ H D I q => h pins s σ H D I (i D σ H q)
theorem PSs.imp {X : Cx} {e : List Stmt} {t t' : TS} (h : PSs X e t) (i : ∀ D σ H, t' D σ H -> t D σ H) : PSs X e t' := fun pins s σ H D I q => h pins s σ H D I (i D σ H q)
noncomputable abbrev PDS (X : Cx) (st : Stmt) (f : x22) : Prop := PS X st (tDS X.K f)
noncomputable abbrev y66 (X : Cx) (st : List Stmt) (f : x22) : Prop := PSs X st (tDS X.K f)
@[simp] noncomputable def x4f : x22 := fun ρ => some (.nx ρ)
@[simp] noncomputable def x1i (f g : x22) : x22 := fun ρ => match f ρ with
  | some (.nx ρ1) => g ρ1
  | o => o
theorem y2p.trans {K : PySem.W.Frag} {Dn : Ends} {n : Nat} {H H1 : Hp} {w w1 : Wn} (go : Go H w H1 w1) : ∀ {o : Out}, y2p K Dn n H w o -> y2p K Dn n H1 w1 o
  | .nx _, h => fun σ' H' w' e g go' => h σ' H' w' e g (go.trans go')
  | .bk _, h => fun σ' H' w' e g go' => h σ' H' w' e g (go.trans go')
  | .ct _, h => fun σ' H' w' e g go' => h σ' H' w' e g (go.trans go')
  | .rt _ _, h => fun v H' w' F wl go' => h v H' w' F wl (go.trans go')
section
variable {X : Cx} {a b c e : Expr} {fa fb fc f : Den} {ga gb gc : x2k} {pos : Pos} {st : Stmt} {x2n sa sb : List Stmt} {s s' : x22}
theorem z2z : y66 X [] x4f := PSs.imp z23 fun D σ H hh0 => by
  obtain ⟨ρ, w, o, g, ee, k⟩ := hh0
  cases ee
  exact k σ H w rfl g Go.refl
theorem y8q (h1 : PDS X st s) (h2 : y66 X x2n s') : y66 X (st :: x2n) (x1i s s') := PSs.imp (y86 h1 h2) fun D σ H hh0 => by
  obtain ⟨ρ, w, o, g, ee, k⟩ := hh0
  unfold x1i at ee
  split at ee
  · rename_i ρ1 h1
    exact ⟨ρ, w, .nx ρ1, g, h1, fun σ' H' w' e g' go' => ⟨ρ1, w', o, g', ee, by rw [e]; exact k.trans go'⟩⟩
  · rename_i hne
    refine ⟨ρ, w, o, g, ee, ?_⟩
    cases o with
    | nx ρ1 => exact absurd ee (hne ρ1)
    | bk ρ1 => exact k
    | ct ρ1 => exact k
    | rt d q => exact k
theorem z1a (h1 : PDS X st s) : y66 X [st] s := y2r h1
@[simp] noncomputable def x29 (f : Den) : x22 := fun ρ => match f ρ with
  | some (d, q, _) => some (.rt d q)
  | none => none
theorem z24 (h : PD X e f) : PDS X (.Return (some e) pos) (x29 f) := PS.imp (z5w h) fun D σ H hh0 => by
  obtain ⟨ρ, w, o, g, ee, k⟩ := hh0
  unfold x29 at ee
  split at ee
  · rename_i d q ρ1 h1
    cases ee
    exact ⟨ρ, w, 0, d, q, ρ1, g, h1, fun v H' w' F g' go' r => k v H' w' F g'.wl go' r⟩
  · cases ee
@[simp] noncomputable def sIf (g : x2k) (s s' : x22) : x22 := fun ρ => match g ρ with
  | some (b, ρ1) => if b = true then s ρ1 else s' ρ1
  | none => none
theorem z4t (hc : PDT X c gc) (ha : y66 X sa s) (hb : y66 X sb s') : PDS X (.If c sa sb pos) (sIf gc s s') := PS.imp (z6o hc ha hb) fun D σ H hh0 => by
  obtain ⟨ρ, w, o, g, ee, k⟩ := hh0
  unfold sIf at ee
  split at ee
  · rename_i b' ρ1 h1
    refine ⟨ρ, w, 0, b', ρ1, g, h1, fun H1 w1 g1 go1 => ?_⟩
    split at ee
    · rename_i hb; rw [if_pos hb]
      exact ⟨ρ1, w1, o, g1, ee, k.trans go1⟩
    · rename_i hb; rw [if_neg hb]
      exact ⟨ρ1, w1, o, g1, ee, k.trans go1⟩
  · cases ee
noncomputable def x7k (t i : Nat) (w : Wn) : Wn := fun a => if w a = some (.t t) then some (.s i) else if w a = some (.s i) then none else w a
theorem Good.set {K : PySem.W.Frag} {ρ : Rho} {σ : St} {H : Hp} {w : Wn} {i q : Nat} {d : D} {v : V} {F : List Addr} (g : Good K ρ σ H w 1) (hi : i < σ.length) (r : Rep K H w (.t 0) q d v F) :
    Good K (ρ.set i (some (d, q))) (σ.set i (some v)) H (x7k 0 i w) 0 /\ ∀ H₀ w₀, Go H₀ w₀ H w -> (∀ a j, w₀ a = some (.t j) -> j < 0) -> Go H₀ w₀ H (x7k 0 i w) := by
  have mN : ∀ a, w a = none -> x7k 0 i w a = none := fun a e => by unfold x7k; rw [e]; rfl
  have mT : ∀ a, w a = some (.t 0) -> x7k 0 i w a = some (.s i) := fun a e => by unfold x7k; rw [if_pos e]
  have mS : ∀ a j, w a = some (.s j) -> j ≠ i -> x7k 0 i w a = some (.s j) := fun a j e n => by
    unfold x7k
    rw [if_neg (by rw [e]; exact fun z => nomatch z), if_neg (by rw [e]; intro z; cases z; exact n rfl)]
    exact e
  have mF : ∀ a, w a = some .f -> x7k 0 i w a = some .f := fun a e => by
    unfold x7k
    rw [if_neg (by rw [e]; exact fun z => nomatch z), if_neg (by rw [e]; exact fun z => nomatch z)]
    exact e
  have mI : ∀ a o, x7k 0 i w a = some o -> (w a = some (.t 0) /\ o = .s i) \/ (w a = some o /\ o ≠ .s i /\ o ≠ .t 0) := fun a o e => by
    unfold x7k at e
    split at e
    · cases e; exact .inl ⟨by assumption, rfl⟩
    · rename_i n1
      split at e
      · cases e
      · rename_i n2; exact .inr ⟨e, fun z => n2 (by rw [e, z]), fun z => n1 (by rw [e, z])⟩
  have st : x76 H w H (x7k 0 i w) := fun a x h n => ⟨h, mN a n⟩
  refine ⟨⟨fun a o e => ?_, fun a j e => ?_, fun a j e => ?_, by rw [List.length_set, List.length_set]; exact g.len, fun j d' q' e' => ?_⟩, fun H₀ w₀ go hw => ⟨fun a x h n => ⟨(go.stab a x h n).1, mN a (go.stab a x h n).2⟩, fun a o e n => ?_⟩⟩
  · rcases mI a o e with ⟨z, _⟩ | ⟨z, _⟩
    · exact g.wl a _ z
    · exact g.wl a _ z
  · rw [List.length_set]
    rcases mI a _ e with ⟨_, z⟩ | ⟨z, _⟩
    · cases z; exact hi
    · exact g.ws a j z
  · rcases mI a _ e with ⟨_, z⟩ | ⟨z, _, n⟩
    · cases z
    · have := g.wt a j z
      have : j = 0 := by omega
      subst this
      exact absurd rfl n
  · by_cases hj : i = j
    · subst hj
      rw [List.getElem?_set_self (by rw [g.len]; exact hi)] at e'
      cases e'
      exact ⟨v, F, List.getElem?_set_self hi, Rep.go g.wl st r fun a m => ⟨rfl, mT a (r.owns a m)⟩⟩
    · rw [List.getElem?_set_ne hj] at e'
      obtain ⟨v', F', h1, h2⟩ := g.slot j d' q' e'
      exact ⟨v', F', by rw [List.getElem?_set_ne hj]; exact h1, Rep.go g.wl st h2 fun a m => ⟨rfl, mS a j (h2.owns a m) (fun z => hj z.symm)⟩⟩
  · obtain ⟨h1, h2⟩ := go.keep a o e n
    refine ⟨h1, ?_⟩
    cases o with
    | s j => exact absurd rfl (n j)
    | f => exact mF a h2
    | t j => exact absurd (hw a j e) (Nat.not_lt_zero _)
@[simp] noncomputable def x30 (i : Nat) (f : Den) : x22 := fun ρ => match f ρ with
  | some (d, q, ρ1) => some (.nx (ρ1.set i (some (d, q))))
  | none => none
theorem y6d {K : PySem.W.Frag} {i : Nat} {D : Ends} {σ : St} {H : Hp} {te : TE} (hi : i < σ.length) (he : ∀ Q, tD K f σ H Q -> te σ H Q) (h : tDS K (x30 i f) D σ H) : te σ H fun x H1 => D.nx (σ.set i (some x)) H1 := by
  obtain ⟨ρ, w, o, g, ee, k⟩ := h
  unfold x30 at ee
  split at ee
  · rename_i d q ρ1 h1
    cases ee
    refine he _ ⟨ρ, w, 0, d, q, ρ1, g, h1, fun v H' w' F g' go' r => ?_⟩
    obtain ⟨a1, a2⟩ := g'.set hi r
    exact k _ _ _ (by rw [List.length_set]) a1 (a2 _ _ go' g.wt)
  · cases ee
theorem z1u {i : Nat} {x : Str} {pos' : Pos} (hN : X.N.Nodup) (hi : X.N[i]? = some x) (hx : Loc X.env.scope x) (he : PD X e f) (hs : swapsWith e (some (.Name x pos')) pos.line X.env = pure false := by rfl) (hf : X.fn x = true \/ X.env.scope.names.lookup x = some .local := by first | exact .inl rfl | exact .inr rfl) :
    PDS X (.Assign [.Name x pos'] e pos) (x30 i f) := by
  intro pins s σ H D I h
  have hl : i < σ.length := by rw [I.len]; exact (List.getElem?_eq_some_iff.mp hi).1
  exact z09 (te := tD X.K f) hN hi hx he hs hf pins s σ H D I (y6d hl (fun _ z => z) h)
@[simp] noncomputable def y0x (f : Den) : x22 := fun ρ => match f ρ with
  | some (_, _, ρ1) => some (.nx ρ1)
  | none => none
theorem y96 (he : PD X e f) (hs : swapsWith e none pos.line X.env = pure false := by rfl) : PDS X (.Expr e pos) (y0x f) := PS.imp (y5u he hs) fun D σ H hh0 => by
  obtain ⟨ρ, w, o, g, ee, k⟩ := hh0
  unfold y0x at ee
  split at ee
  · rename_i d q ρ1 h1
    cases ee
    exact ⟨ρ, w, 0, d, q, ρ1, g, h1, fun v H' w' F g' go' r => k σ H' (x21 0 w') rfl g'.drop (go'.drop g.wt)⟩
  · cases ee
end
structure ItOk (K : PySem.W.Frag) (J : It) (ds : List D) (P : Hp -> Wn -> Prop) : Prop where
  go : ∀ i H w, P H w -> i < ds.length -> J.go i H
  yld : ∀ i H w x H' d, P H w -> WL w H -> ds[i]? = some d -> J.yld i H x H' -> (∀ a o, H a = some o -> H' a = some o) /\ Rep K H' w .f 0 d x [] /\ P H' w
  stop : ∀ H w, P H w -> J.stop ds.length H
  st : ∀ H w H' w', P H w -> WL w H -> x76 H w H' w' -> P H' w'
noncomputable abbrev y09 := Rho -> Option (List D × Rho)
noncomputable def tDI (K : PySem.W.Frag) (f : y09) : TI := fun σ H R => ∃ ρ w t ds ρ', Good K ρ σ H w t /\ f ρ = some (ds, ρ') /\
  ∀ J P H' w', Good K ρ' σ H' w' t -> Go H w H' w' -> ItOk K J ds P -> P H' w' -> ds.length < sizeLine -> R J H'
theorem PI.imp {X : Cx} {tg e : Expr} {t t' : TI} (h : PI X tg e t) (i : ∀ σ H R, t' σ H R -> t σ H R) : PI X tg e t' := fun pins s σ H R I q => h pins s σ H R I (i σ H R q)
noncomputable abbrev PDI (X : Cx) (tg e : Expr) (f : y09) : Prop := PI X tg e (tDI X.K f)
theorem It.list {K : PySem.W.Frag} {a : Addr} {vs : List V} {ds : List D} (hl : ds.length = vs.length) : ItOk K (Itl K a) ds fun H w => (KL K a vs \/ (Rd H a (.lst vs) /\ w a = none)) /\ Reps K H w .f 0 ds vs [] := by
  have sq : ∀ {H : Hp} {w : Wn}, KL K a vs \/ (Rd H a (.lst vs) /\ w a = none) -> SqL K H a vs := fun h => h.elim (fun z => z.sq) fun z => .inl z.1
  refine ⟨fun i H w p hi => ⟨vs, vs[i], sq p.1, by simp [hl ▸ hi]⟩, fun i H w x H' d p wl hd y => ?_, fun H w p => ⟨vs, sq p.1, by omega⟩, fun H w H' w' p wl st => ?_⟩
  · obtain ⟨rfl, hx⟩ := y
    obtain ⟨v, hv, rv⟩ := p.2.get hd
    have := hx vs (sq p.1)
    rw [hv] at this
    cases this
    exact ⟨fun _ _ e => e, rv, p⟩
  · refine ⟨?_, Reps.go wl st p.2 (fun _ z => nomatch z)⟩
    rcases p.1 with p | ⟨p, n⟩
    · exact .inl p
    · exact .inr (RdL.go st n p)
theorem It.tup {K : PySem.W.Frag} {a : Addr} {vs : List V} {ds : List D} (hl : ds.length = vs.length) : ItOk K (Itt K a) ds fun H w => SqT K H a vs /\ Reps K H w .f 0 ds vs [] :=
  ⟨fun i H w p hi => ⟨vs, vs[i], p.1, by simp [hl ▸ hi]⟩, fun i H w x H' d p wl hd y => by
    obtain ⟨rfl, hx⟩ := y
    obtain ⟨v, hv, rv⟩ := p.2.get hd
    have := hx vs p.1
    rw [hv] at this
    cases this
    exact ⟨fun _ _ e => e, rv, p⟩, fun H w p => ⟨vs, p.1, by omega⟩, fun H w H' w' p wl st => ⟨SqT.go wl st p.1, Reps.go wl st p.2 (fun _ z => nomatch z)⟩⟩
noncomputable def x7p (n : Nat) : List V := (List.range n).map fun i => .int (Int.ofNat i)
noncomputable def x0v (n : Nat) : List D := (List.range n).map fun i => .int (Int.ofNat i)
theorem x0d (n : Nat) : (x0v n).length = n := by simp [x0v]
theorem x9z (n : Nat) : (x7p n).length = n := by simp [x7p]
theorem It.range {K : PySem.W.Frag} {n : Nat} : ItOk K (Itr 0 n) (x0v n) fun _ _ => True := by
  refine ⟨fun i H w _ hi => by rw [x0d] at hi; exact hi, fun i H w x H' d _ _ hd y => ?_, fun H w _ => by rw [x0d]; exact Nat.le_refl _, fun _ _ _ _ _ _ _ => trivial⟩
  have hi : i < n := by have := (List.getElem?_eq_some_iff.mp hd).1; rw [x0d] at this; exact this
  have e : x = .int (0 + (i : Int)) := y.2
  have ed : d = .int (Int.ofNat i) := by
    have : (x0v n)[i]? = some (.int (Int.ofNat i)) := by simp [x0v, hi]
    rw [hd] at this
    exact Option.some.inj this
  obtain ⟨rfl, _⟩ := y
  subst ed
  rw [e, Int.zero_add]
  exact ⟨fun _ _ e => e, .int _, trivial⟩
theorem x6w {K : PySem.W.Frag} {H : Hp} {w : Wn} {o : Ow} : ∀ (ns : List Int), Reps K H w o 0 (ns.map D.int) (ns.map V.int) []
  | [] => .nil
  | n :: r => .cons (F := []) (G := []) (.int n) (x6w r) (fun _ z => nomatch z)
theorem y4m {K : PySem.W.Frag} {H : Hp} {w : Wn} {o : Ow} (n : Nat) : Reps K H w o 0 (x0v n) (x7p n) [] := by
  have := x6w (K := K) (H := H) (w := w) (o := o) ((List.range n).map Int.ofNat)
  rw [List.map_map, List.map_map] at this
  exact this
section
variable {X : Cx} {tg a b c e : Expr} {fa fb fc f : Den} {ga gb gc : x2k} {pos p : Pos}
@[simp] noncomputable def x0q (g : x1v) : y09 := fun ρ => match g ρ with
  | some ([.int n], ρ1) => if -1000 <= n /\ n <= 1000 then some (x0v n.toNat, ρ1) else none
  | _ => none
theorem y5c {g : x1v} (hm : X.mg "range" = none) (ha : PDA X [a] g) (hg : Gl X "range" := by rfl) (hs : starEach [a] X.env = [(false, eval a X.env)] := by rfl) : PDI X tg (.Call (.Name "range" p) [a] [] pos) (x0q g) := PI.imp (y7i hg hm ha hs) fun σ H R hh0 => by
  obtain ⟨ρ, w, t, ds, ρ', gd, ee, k⟩ := hh0
  unfold x0q at ee
  split at ee
  · rename_i n ρ1 h1
    split at ee
    · rename_i hn
      cases ee
      refine ⟨ρ, w, t, [.int n], _, gd, h1, fun vs H1 w1 g1 go1 r1 => ?_⟩
      have hv : vs = [.int n] := by
        have l := r1.length
        match vs, l with
        | [v], _ =>
          obtain ⟨v', h1, h2⟩ := r1.get (i := 0) rfl
          cases h1
          rw [x3h h2]
      subst hv
      refine ⟨n, rfl, by omega, by omega, k _ _ H1 w1 g1 go1 It.range trivial ?_⟩
      rw [x0d]
      exact x3i (by omega)
    · cases ee
  · cases ee
noncomputable def z9j (K : PySem.W.Frag) (tl : TE) : TI := fun σ H R => tl σ H fun x H1 => ∃ a, x = .ref a /\ (((∃ xs, SqL K H1 a xs) /\ R (Itl K a) H1) \/ ((∃ xs, SqT K H1 a xs) /\ R (Itt K a) H1))
theorem z61 {l : Expr} {tl : TE} (hl : PE X l tl) : PI X tg l (z9j X.K tl) := by
  intro pins s σ H R I h
  refine thn (hl pins s σ H _ I h) fun v s1 ⟨x, H1, I1, r1, q1⟩ => ?_
  obtain ⟨a, e, q⟩ := q1
  subst e
  cases r1
  rcases q with ⟨⟨xs, hq⟩, q⟩ | ⟨⟨xs, hq⟩, q⟩
  · obtain ⟨its, rv, p, hz⟩ := I1.list hq
    refine wpAny_pyIter_list p.isList ?_
    refine ⟨s1.heap.objs.size, [s1.heap.objs.size], _, _, H1, rfl, I1.kept (t' := s1.toks) fun b o e => Heap.get?_push_of_some _ e, y6x a _, ⟨_, Heap.get?_push_size _ rfl, rfl, rfl⟩, fun b hb => ?_, q⟩
    have e : b = s1.heap.objs.size := by simpa using hb
    subst e
    exact I1.fpOk (Nat.le_refl _) (I1.hok.fresh (Nat.le_refl _))
  · obtain ⟨its, rv, p, hz⟩ := I1.tuple hq
    refine wpAny_pyIter_tuple (show s1.heap.IsTuple a its.toArray from p) ?_
    refine ⟨s1.heap.objs.size, [s1.heap.objs.size], _, _, H1, rfl, I1.kept (t' := s1.toks) fun b o e => Heap.get?_push_of_some _ e, y51 a _, ⟨_, Heap.get?_push_size _ rfl, rfl, rfl⟩, fun b hb => ?_, q⟩
    have e : b = s1.heap.objs.size := by simpa using hb
    subst e
    exact I1.fpOk (Nat.le_refl _) (I1.hok.fresh (Nat.le_refl _))
@[simp] noncomputable def x7b (f : Den) : y09 := fun ρ => match f ρ with
  | some (.lst ds, _, ρ1) => if ds.length <= 1000 then some (ds, ρ1) else none
  | some (.tup ds, _, ρ1) => if ds.length <= 1000 then some (ds, ρ1) else none
  | _ => none
theorem z1f (ha : PD X a fa) : PDI X tg a (x7b fa) := PI.imp (z61 ha) fun σ H R hh0 => by
  obtain ⟨ρ, w, t, ds, ρ', gd, ee, k⟩ := hh0
  unfold x7b at ee
  split at ee
  · rename_i ds' q ρ1 h1
    split at ee
    · rename_i hl
      cases ee
      refine ⟨ρ, w, t, .lst ds, q, ρ', gd, h1, fun v H1 w1 F g1 go1 r1 => ?_⟩
      have r0 := r1.drop (o := .f) (Nat.le_refl t)
      cases r0 with
      | kl h r => exact ⟨_, rfl, .inl ⟨⟨_, h.sq⟩, k _ _ H1 (x21 t w1) g1.drop (go1.drop gd.wt) (It.list r.length) ⟨.inl h, r⟩ (x3i hl)⟩⟩
      | shr h n r => exact ⟨_, rfl, .inl ⟨⟨_, .inl h⟩, k _ _ H1 (x21 t w1) g1.drop (go1.drop gd.wt) (It.list r.length) ⟨.inr ⟨h, n⟩, r⟩ (x3i hl)⟩⟩
    · cases ee
  · rename_i ds' q ρ1 h1
    split at ee
    · rename_i hl
      cases ee
      refine ⟨ρ, w, t, .tup ds, q, ρ', gd, h1, fun v H1 w1 F g1 go1 r1 => ?_⟩
      have r0 := r1.drop (o := .f) (Nat.le_refl t)
      cases r0 with
      | tup h r => exact ⟨_, rfl, .inr ⟨⟨_, SqT.of h⟩, k _ _ H1 (x21 t w1) g1.drop (go1.drop gd.wt) (It.tup r.length) ⟨SqT.of h, r⟩ (x3i hl)⟩⟩
    · cases ee
  · cases ee
end
noncomputable abbrev x6b := D -> Rho -> Option Rho
noncomputable def tDG (K : PySem.W.Frag) (b : Nat) (pt : x6b) : TG := fun v σ H Q => ∃ d ρ w t ρ', Good K ρ σ H w t /\ Rep K H w .f 0 d v [] /\ pt d ρ = some ρ' /\ ∀ σ' H' w', σ'.length = σ.length -> (∀ i, i < b -> σ'[i]? = σ[i]?) -> Good K ρ' σ' H' w' t -> Go H w H' w' -> Q σ' H'
theorem PG.imp {X : Cx} {tg : Expr} {t t' : TG} (h : PG X tg t) (i : ∀ v σ H Q, t' v σ H Q -> t v σ H Q) : PG X tg t' := fun pins s σ H v u Q I r q => h pins s σ H v u Q I r (i v σ H Q q)
noncomputable abbrev PDG (X : Cx) (b : Nat) (tg : Expr) (pt : x6b) : Prop := PG X tg (tDG X.K b pt)
@[simp] noncomputable def x0h (i : Nat) : x6b := fun d ρ => if i < ρ.length then some (ρ.set i (some (d, x2e d))) else none
theorem Good.setV {K : PySem.W.Frag} {ρ : Rho} {σ : St} {H : Hp} {w : Wn} {t i : Nat} {d : D} {v : V} (g : Good K ρ σ H w t) (hi : i < σ.length) (r : Rep K H w .f 0 d v []) :
    Good K (ρ.set i (some (d, x2e d))) (σ.set i (some v)) H (x51 i w) t /\ Go H w H (x51 i w) := by
  have st : x76 H w H (x51 i w) := fun a x h n => ⟨h, x4v n⟩
  refine ⟨⟨fun a o h => g.wl a o (x2w h).1, fun a j h => by rw [List.length_set]; exact g.ws a j (x2w h).1, fun a j h => g.wt a j (x2w h).1, by rw [List.length_set, List.length_set]; exact g.len, fun j d' q' e' => ?_⟩, ⟨st, fun a o h n => ⟨rfl, x61 h (n i)⟩⟩⟩
  by_cases hj : i = j
  · subst hj
    rw [List.getElem?_set_self (by rw [g.len]; exact hi)] at e'
    cases e'
    exact ⟨v, [], List.getElem?_set_self hi, (Rep.go g.wl st r (fun _ z => nomatch z) : Rep K H (x51 i w) (.s i) 0 d v []).dep⟩
  · rw [List.getElem?_set_ne hj] at e'
    obtain ⟨v', F, h1, h2⟩ := g.slot j d' q' e'
    exact ⟨v', F, by rw [List.getElem?_set_ne hj]; exact h1, Rep.go g.wl st h2 fun a m => ⟨rfl, x61 (h2.owns a m) (fun z => hj (by cases z; rfl))⟩⟩
theorem y84 {X : Cx} {b i : Nat} {x : Str} {pos : Pos} (hb : b <= i) (hN : X.N.Nodup) (hi : X.N[i]? = some x) (hx : Loc X.env.scope x) (hf : X.fn x = true \/ X.env.scope.names.lookup x = some .local := by first | exact .inl rfl | exact .inr rfl) : PDG X b (.Name x pos) (x0h i) := PG.imp (z16 hN hi hx hf) fun v σ H Q hh0 => by
  obtain ⟨d, ρ, w, t, ρ', g, r, e, k⟩ := hh0
  unfold x0h at e
  split at e
  · rename_i hl
    cases e
    obtain ⟨a1, a2⟩ := g.setV (by rw [<- g.len]; exact hl) r
    exact k _ _ _ (by rw [List.length_set]) (fun j hj => List.getElem?_set_ne (by omega)) a1 a2
  · cases e
noncomputable def x8t (pt : x6b) (body : x22) : List D -> Rho -> Option Out
  | [], ρ => some (.nx ρ)
  | d :: ds, ρ => match pt d ρ with
    | none => none
    | some ρ1 => match body ρ1 with
      | some (.nx ρ2) => x8t pt body ds ρ2
      | some (.ct ρ2) => x8t pt body ds ρ2
      | some (.bk ρ2) => some (.nx ρ2)
      | o => o
@[simp] noncomputable def x5g (it : y09) (pt : x6b) (body : x22) : x22 := fun ρ => match it ρ with
  | some (ds, ρ1) => x8t pt body ds ρ1
  | none => none
theorem Reps.go0 {K : PySem.W.Frag} {H H' : Hp} {w w' : Wn} {ds : List D} {vs : List V} (r : Reps K H w .f 0 ds vs []) (wl : WL w H) (st : x76 H w H' w') : Reps K H' w' .f 0 ds vs [] := Reps.go wl st r (fun _ z => nomatch z)
theorem Rep.go0 {K : PySem.W.Frag} {H H' : Hp} {w w' : Wn} {ds : D} {vs : V} (r : Rep K H w .f 0 ds vs []) (wl : WL w H) (st : x76 H w H' w') : Rep K H' w' .f 0 ds vs [] := Rep.go wl st r (fun _ z => nomatch z)
theorem Reps.drop0 {K : PySem.W.Frag} {H : Hp} {w : Wn} : ∀ {ds : List D} {vs : List V} (i : Nat), Reps K H w .f 0 ds vs [] -> Reps K H w .f 0 (ds.drop i) (vs.drop i) []
  | _, _, 0, r => r
  | ds, vs, i + 1, r => by
    generalize hF : ([] : List Addr) = F at r
    cases r with
    | nil => exact .nil
    | cons r s _ =>
      have h2 := s.zero
      have h1 := r.zero
      subst h2
      subst h1
      exact Reps.drop0 i s
theorem Good.more {K : PySem.W.Frag} {ρ : Rho} {σ : St} {H H' : Hp} {w : Wn} {t : Nat} (g : Good K ρ σ H w t) (h : ∀ a o, H a = some o -> H' a = some o) : Good K ρ σ H' w t /\ Go H w H' w := by
  have st : x76 H w H' w := fun a x e n => ⟨h a x e, n⟩
  have kp : ∀ a o, w a = some o -> H' a = H a := fun a o e => by
    obtain ⟨vs, q⟩ := g.wl a o e
    rw [q, h a _ q]
  refine ⟨⟨fun a o e => ?_, g.ws, g.wt, g.len, fun i d q e => ?_⟩, st, fun a o e _ => ⟨kp a o e, e⟩⟩
  · obtain ⟨vs, q⟩ := g.wl a o e
    exact ⟨vs, h a _ q⟩
  · obtain ⟨v, F, h1, h2⟩ := g.slot i d q e
    exact ⟨v, F, h1, Rep.go g.wl st h2 fun a m => ⟨kp a _ (h2.owns a m), h2.owns a m⟩⟩
theorem z1g {X : Cx} {tg iter : Expr} {body : List Stmt} {it : y09} {pt : x6b} {s : x22} {pos : Pos} (hp : PassesOwn (model X.prog X.w) X.A X.env X.xe) (hc : X.calm = true) (hi : PDI X tg iter it) (hg : PDG X 0 tg pt) (hb : y66 X body s)
    (hs : ∀ x, foldedSetIterable iter X.env x = pure x := by intro _; rfl) : PDS X (.For tg iter body [] pos) (x5g it pt s) := PS.imp (z4z hp hc hi hg hb hs) fun D σ H hh0 => by
  obtain ⟨ρ, w, o, g, ee, k⟩ := hh0
  unfold x5g at ee
  split at ee
  · rename_i ds ρ1 h1
    refine ⟨ρ, w, 0, ds, ρ1, g, h1, fun J P H1 w1 g1 go1 ok p1 hl => ?_⟩
    refine ⟨fun i m σ' H' => m = ds.length - i /\ i <= ds.length /\ σ'.length = σ.length /\ ∃ ρ' w', Good X.K ρ' σ' H' w' 0 /\ P H' w' /\ x8t pt s (ds.drop i) ρ' = some o /\ y2p X.K D σ.length H' w' o,
      ⟨ds.length, by simp, Nat.zero_le _, rfl, ρ1, w1, g1, p1, ee, k.trans go1⟩, ?_⟩
    rintro i m σ' H' ⟨rfl, hile, hσ, ρ', w', g', p', e', k'⟩
    by_cases hlt : i < ds.length
    · refine .inr ⟨ok.go i H' w' p' hlt, fun σ2 H2 => ds.length - (i + 1) = ds.length - (i + 1) /\ i + 1 <= ds.length /\ σ2.length = σ.length /\ ∃ ρ2 w2, Good X.K ρ2 σ2 H2 w2 0 /\ P H2 w2 /\ x8t pt s (ds.drop (i + 1)) ρ2 = some o /\ y2p X.K D σ.length H2 w2 o,
        fun σ2 H2 n2 => ⟨ds.length - (i + 1), by omega, n2⟩, fun x H2 hy => ?_⟩
      obtain ⟨mo, rx, p2⟩ := ok.yld i H' w' x H2 ds[i] p' g'.wl (List.getElem?_eq_getElem hlt) hy
      obtain ⟨g2, go2⟩ := g'.more mo
      have ed : ds.drop i = ds[i] :: ds.drop (i + 1) := List.drop_eq_getElem_cons hlt
      rw [ed] at e'
      unfold x8t at e'
      split at e'
      · cases e'
      · rename_i ρ3 h3
        refine ⟨ds[i], ρ', w', 0, ρ3, g2, rx, h3, fun σ4 H4 w4 l4 _ g4 go4 => ?_⟩
        have p4 := ok.st _ _ _ _ p2 g2.wl go4.stab
        have nx : ∀ {ρ5 : Rho}, x8t pt s (ds.drop (i + 1)) ρ5 = some o -> ∀ σ5 H5 w5, σ5.length = σ4.length -> Good X.K ρ5 σ5 H5 w5 0 -> Go H4 w4 H5 w5 -> ds.length - (i + 1) = ds.length - (i + 1) /\ i + 1 <= ds.length /\ σ5.length = σ.length /\ ∃ ρ2 w2, Good X.K ρ2 σ5 H5 w2 0 /\ P H5 w2 /\ x8t pt s (ds.drop (i + 1)) ρ2 = some o /\ y2p X.K D σ.length H5 w2 o := fun {ρ5} e5 σ5 H5 w5 l5 g5 go5 =>
          ⟨rfl, hlt, by rw [l5, l4, hσ], ρ5, w5, g5, ok.st _ _ _ _ p4 g4.wl go5.stab, e5, k'.trans ((go2.trans go4).trans go5)⟩
        cases h6 : s ρ3 with
        | none => rw [h6] at e'; cases e'
        | some o6 =>
          rw [h6] at e'
          refine ⟨ρ3, w4, o6, g4, h6, ?_⟩
          cases o6 with
          | nx ρ5 => exact nx e'
          | ct ρ5 => exact nx e'
          | bk ρ5 =>
            cases e'
            exact fun σ5 H5 w5 l5 g5 go5 => k' σ5 H5 w5 (by rw [l5, l4, hσ]) g5 ((go2.trans go4).trans go5)
          | rt d q =>
            cases e'
            exact fun v H5 w5 F wl5 go5 r5 => k' v H5 w5 F wl5 ((go2.trans go4).trans go5) r5
    · have hi' : i = ds.length := Nat.le_antisymm hile (Nat.not_lt.mp hlt)
      subst hi'
      refine .inl ⟨ok.stop H' w' p', ?_⟩
      have ed : ds.drop ds.length = [] := by simp
      rw [ed] at e'
      cases e'
      exact k' σ' H' w' hσ g' Go.refl
  · cases ee
@[simp] noncomputable def x5t (n : Nat) (ds : List D) : Rho := ds.map (fun d => some (d, x2e d)) ++ List.replicate (n - ds.length) none
@[simp] noncomputable def fnD (n : Nat) (body : x22) : List D -> Option (D × Nat) := fun ds => match body (x5t n ds) with
  | some (.rt d q) => some (d, q)
  | some (.nx _) => some (.non, 9)
  | _ => none
theorem x7e {K : PySem.W.Frag} {H : Hp} {w : Wn} {N : List Str} {ds : List D} {vs : List V} (hw : ∀ a o, w a = some o -> o = .f) (wl : WL w H) (r : Reps K H w .f 0 ds vs []) : Good K (x5t N.length ds) (x9j N vs) H w 0 := by
  refine ⟨wl, (fun a i e => by cases (hw a _ e)), (fun a i e => by cases (hw a _ e)), ?_, fun i d q e => ?_⟩
  · unfold x5t L2.x9j
    rw [List.length_append, List.length_append, List.length_map, List.length_map, List.length_replicate, List.length_replicate, r.length]
  · unfold x5t at e
    by_cases hi : i < ds.length
    · rw [List.getElem?_append_left (by simpa using hi), List.getElem?_map] at e
      cases h : ds[i]? with
      | none => rw [h] at e; cases e
      | some d' =>
        rw [h] at e
        cases e
        obtain ⟨v, hv, rv⟩ := r.get h
        refine ⟨v, [], ?_, (rv.any wl : Rep K H w (.s i) 0 d v []).dep⟩
        unfold L2.x9j
        rw [List.getElem?_append_left (by rw [List.length_map, <- r.length]; exact hi), List.getElem?_map, hv]
        rfl
    · rw [List.getElem?_append_right (by simpa using hi), List.getElem?_replicate] at e
      split at e <;> cases e
theorem y80 {K : PySem.W.Frag} {N : List Str} {n : Nat} {body : x22} {vs : List V} {H : Hp} {Q : VK} {E : XK} (h : spD K n (fnD N.length body) vs H Q E) : tDS K body { nx := fun _ H' => Q .non H', rt := Q } (x9j N vs) H := by
  obtain ⟨hn, ds, w, r, q, hw, wl, rs, e, k⟩ := h
  unfold fnD at e
  split at e
  · rename_i d q' h1
    cases e
    exact ⟨_, w, _, x7e hw wl rs, h1, fun v H' w' F wl' go' r' => k v H' w' F go' wl' r'⟩
  · rename_i ρ' h1
    cases e
    exact ⟨_, w, _, x7e hw wl rs, h1, fun σ' H' w' _ g' go' => k .non H' w' [] go' g'.wl .non⟩
  · cases e
theorem z6j {P : Program} {wd : World} {K : PySem.W.Frag} {mg : Str -> Option Value} {base : Heap} {x qual : Str} {st : Stmt} {f : Addr} {fd : FuncData} {N ps : List Str} {k : Nat} {body : x22} (F : Fun K x qual st f fd) (S : FnScope N ps (x08 st))
    (h : ∀ (cdv : Value) (A : Around) (outer : List Env) (s : Shared) (H : Hp) (E : XK), Room k (A.deeper (envOfC qual (x08 st) s.heap.objs.size f cdv)) -> y66 (y5f CX0 P wd K mg base N qual (x08 st) f cdv A outer s H E).nox (x0s st) body) :
    FnOk P wd K mg base CX0 (k + 1) f fd ps (spD K ps.length (fnD N.length body)) :=
  F.ok S (fun vs H Q E h => h.1) fun cdv A outer s H vs Q E hr hsp => ⟨_, h cdv A outer s H E hr, y80 hsp⟩
noncomputable def x67 (k : Nat) (pt : x6b) (tt : x2k) (te : Den) (deep : Bool) : List D -> Rho -> Option (List D × Rho)
  | [], ρ => some ([], ρ)
  | d :: ds, ρ => match pt d (ρ ++ List.replicate k none) with
    | none => none
    | some ρ1 => match tt ρ1 with
      | none => none
      | some (b, ρ2) => if b = true then (match te ρ2 with
          | none => none
          | some (v, q, ρ3) => if deep = true /\ v.isL = true /\ q ≠ 1 then none else match x67 k pt tt te deep ds (ρ3.take ρ.length) with
            | none => none
            | some (vs, ρ4) => some (v :: vs, ρ4))
        else x67 k pt tt te deep ds (ρ2.take ρ.length)
@[simp] noncomputable def x25 (k : Nat) (it : y09) (pt : x6b) (tt : x2k) (te : Den) (deep : Bool) : Den := fun ρ => match it ρ with
  | some (ds, ρ1) => match x67 k pt tt te deep ds ρ1 with
    | some (vs, ρ2) => some (.lst vs, if deep = true then 2 else 1, ρ2)
    | none => none
  | none => none
@[simp] noncomputable def x1f : x2k := fun ρ => some (true, ρ)
theorem Good.ext {K : PySem.W.Frag} {ρ : Rho} {σ : St} {H : Hp} {w : Wn} {t : Nat} (g : Good K ρ σ H w t) (k : Nat) : Good K (ρ ++ List.replicate k none) (σ ++ List.replicate k none) H w t := by
  refine ⟨g.wl, fun a i e => by rw [List.length_append]; exact Nat.lt_of_lt_of_le (g.ws a i e) (Nat.le_add_right _ _), g.wt, by rw [List.length_append, List.length_append, List.length_replicate, List.length_replicate, g.len], fun i d q e => ?_⟩
  by_cases hi : i < ρ.length
  · rw [List.getElem?_append_left hi] at e
    obtain ⟨v, F, h1, h2⟩ := g.slot i d q e
    exact ⟨v, F, by rw [List.getElem?_append_left (by rw [<- g.len]; exact hi)]; exact h1, h2⟩
  · rw [List.getElem?_append_right (by omega), List.getElem?_replicate] at e
    split at e <;> cases e
noncomputable def x3g (n : Nat) (w : Wn) : Wn := fun a => match w a with
  | some (.s i) => if n <= i then none else some (.s i)
  | x => x
theorem y0d {n : Nat} {w : Wn} {a : Addr} (h : w a = none) : x3g n w a = none := by unfold x3g; rw [h]
theorem y32 {n : Nat} {w : Wn} {a : Addr} {i : Nat} (h : w a = some (.s i)) (hi : i < n) : x3g n w a = some (.s i) := by unfold x3g; rw [h]; exact if_neg (by omega)
theorem y39 {n : Nat} {w : Wn} {a : Addr} {o : Ow} (h : w a = some o) (hn : ∀ i, o ≠ .s i) : x3g n w a = some o := by
  unfold x3g; rw [h]
  cases o with
  | s i => exact absurd rfl (hn i)
  | t i => rfl
  | f => rfl
theorem x59 {n : Nat} {w : Wn} {a : Addr} {o : Ow} (h : x3g n w a = some o) : w a = some o /\ ∀ i, o = .s i -> i < n := by
  unfold x3g at h
  cases e : w a with
  | none => rw [e] at h; cases h
  | some o' =>
    rw [e] at h
    cases o' with
    | t i => cases h; exact ⟨rfl, fun i z => nomatch z⟩
    | f => cases h; exact ⟨rfl, fun i z => nomatch z⟩
    | s i =>
      dsimp only at h
      split at h
      · cases h
      · cases h; exact ⟨rfl, fun j z => by cases z; omega⟩
theorem Good.cut {K : PySem.W.Frag} {ρ : Rho} {σ τ : St} {H : Hp} {w : Wn} {t : Nat} (g : Good K ρ (σ ++ τ) H w t) : Good K (ρ.take σ.length) σ H (x3g σ.length w) t /\ Go H w H (x3g σ.length w) := by
  have st : x76 H w H (x3g σ.length w) := fun a x h n => ⟨h, y0d n⟩
  refine ⟨⟨fun a o e => g.wl a o (x59 e).1, fun a i e => (x59 e).2 i rfl, fun a i e => g.wt a i (x59 e).1, ?_, fun i d q e => ?_⟩, ⟨st, fun a o e n => ⟨rfl, y39 e n⟩⟩⟩
  · rw [List.length_take, g.len, List.length_append]
    omega
  · by_cases hi : i < σ.length
    · rw [List.getElem?_take_of_lt hi] at e
      obtain ⟨v, F, h1, h2⟩ := g.slot i d q e
      rw [List.getElem?_append_left hi] at h1
      exact ⟨v, F, h1, Rep.go g.wl st h2 fun a m => ⟨rfl, y32 (h2.owns a m) hi⟩⟩
    · rw [List.getElem?_take_eq_none (by omega)] at e
      cases e
theorem z7l {σ σ' τ : St} (l : σ'.length = (σ ++ τ).length) (h : ∀ i, i < σ.length -> σ'[i]? = (σ ++ τ)[i]?) : ∃ τ', σ' = σ ++ τ' /\ τ'.length = τ.length := by
  refine ⟨σ'.drop σ.length, ?_, by rw [List.length_drop, l, List.length_append]; omega⟩
  have e : σ'.take σ.length = σ := by
    apply List.ext_getElem?
    intro i
    by_cases hi : i < σ.length
    · rw [List.getElem?_take_of_lt hi, h i hi, List.getElem?_append_left hi]
    · rw [List.getElem?_take_eq_none (by omega), List.getElem?_eq_none (by omega)]
  conv => lhs; rw [<- List.take_append_drop σ.length σ', e]
noncomputable def dq (deep : Bool) : Nat := if deep = true then 1 else 0
noncomputable def x68 (deep : Bool) (t : Nat) (w : Wn) : Wn := fun a => if w a = some (.t (t + 1)) then (if deep = true then some (.t t) else none) else w a
theorem z9e {K : PySem.W.Frag} {ρ : Rho} {σ : St} {H : Hp} {w : Wn} {t q : Nat} {d : D} {v : V} {F : List Addr} {deep : Bool} (g : Good K ρ σ H w (t + 2)) (r : Rep K H w (.t (t + 1)) q d v F) (hq : ¬ (deep = true /\ d.isL = true /\ q ≠ 1)) :
    Good K ρ σ H (x68 deep t w) (t + 1) /\ (∃ F', Rep K H (x68 deep t w) (.t t) (dq deep) d v F' /\ ∀ a ∈ F', w a = some (.t (t + 1))) /\ x76 H w H (x68 deep t w) /\ (∀ a o, w a = some o -> o ≠ .t (t + 1) -> x68 deep t w a = some o) := by
  have hN : ∀ a, w a = none -> x68 deep t w a = none := fun a e => by unfold x68; rw [e]; rfl
  have hO : ∀ a o, w a = some o -> o ≠ .t (t + 1) -> x68 deep t w a = some o := fun a o e n => by
    unfold x68
    rw [if_neg (by rw [e]; exact fun z => n (Option.some.inj z))]
    exact e
  have hI : ∀ a o, x68 deep t w a = some o -> (w a = some (.t (t + 1)) /\ o = .t t) \/ (w a = some o /\ o ≠ .t (t + 1)) := fun a o e => by
    unfold x68 at e
    split at e
    · split at e
      · cases e; exact .inl ⟨by assumption, rfl⟩
      · cases e
    · rename_i n; exact .inr ⟨e, fun z => n (by rw [e, z])⟩
  have st : x76 H w H (x68 deep t w) := fun a x h n => ⟨h, hN a n⟩
  refine ⟨⟨fun a o e => ?_, fun a i e => ?_, fun a i e => ?_, g.len, fun i d' q' e' => ?_⟩, ?_, st, hO⟩
  · rcases hI a o e with ⟨z, _⟩ | ⟨z, _⟩ <;> exact g.wl a _ z
  · rcases hI a _ e with ⟨_, z⟩ | ⟨z, _⟩
    · cases z
    · exact g.ws a i z
  · rcases hI a _ e with ⟨_, z⟩ | ⟨z, n⟩
    · cases z; exact Nat.lt_succ_self _
    · have := g.wt a i z
      have : i ≠ t + 1 := fun z => n (by rw [z])
      omega
  · obtain ⟨v', F', h1, h2⟩ := g.slot i d' q' e'
    exact ⟨v', F', h1, Rep.go g.wl st h2 fun a m => ⟨rfl, hO a _ (h2.owns a m) (fun z => nomatch z)⟩⟩
  · cases deep with
    | false =>
      refine ⟨[], Rep.freeze hN r fun a m => ?_, fun _ z => nomatch z⟩
      unfold x68
      rw [if_pos (r.owns a m)]
      rfl
    | true =>
      have hT : ∀ a, w a = some (.t (t + 1)) -> x68 true t w a = some (.t t) := fun a e => by unfold x68; rw [if_pos e]; rfl
      cases hl : d.isL with
      | false =>
        obtain ⟨_, hr⟩ := r.nolist hl
        exact ⟨[], Rep.go g.wl st (hr 1) (fun _ z => nomatch z), fun _ z => nomatch z⟩
      | true =>
        have : q = 1 := by
          by_cases h : q = 1
          · exact h
          · exact absurd ⟨rfl, hl, h⟩ hq
        subst this
        exact ⟨F, Rep.go g.wl st r fun a m => ⟨rfl, hT a (r.owns a m)⟩, r.owns⟩
theorem z4e {K : PySem.W.Frag} {ρ : Rho} {σ : St} {H1 : Hp} {w1 : Wn} {t q : Nat} {p : Addr} {vs : List V} {ds : List D} {F : List Addr} (g : Good K ρ σ H1 w1 (t + 1)) (hp : H1 p = none) (r : Reps K H1 w1 (.t t) q ds vs F) :
    Good K ρ σ (upd H1 p (.lst vs)) (y7s p (.t t) w1) (t + 1) /\ Go H1 w1 (upd H1 p (.lst vs)) (y7s p (.t t) w1) /\ Rep K (upd H1 p (.lst vs)) (y7s p (.t t) w1) (.t t) (q + 1) (.lst ds) (.ref p) (p :: F) := by
  have ne : ∀ a x, H1 a = some x -> a ≠ p := fun a x e => x1t e hp
  have nw : ∀ a o, w1 a = some o -> a ≠ p := fun a o e => by obtain ⟨vs, q⟩ := g.wl a o e; exact ne a _ q
  have st : x76 H1 w1 (upd H1 p (.lst vs)) (y7s p (.t t) w1) := fun a x e n => ⟨by rw [x0w (ne a x e)]; exact e, by rw [x3q (ne a x e)]; exact n⟩
  refine ⟨⟨fun a o e => ?_, fun a i e => ?_, fun a i e => ?_, g.len, fun i d q e => ?_⟩, ⟨st, fun a o e _ => ⟨x0w (nw a o e), (x3q (nw a o e)).trans e⟩⟩, ?_⟩
  · by_cases h : a = p
    · subst h; exact ⟨vs, x2h⟩
    · rw [x3q h] at e
      obtain ⟨us, q⟩ := g.wl a o e
      exact ⟨us, by rw [x0w h]; exact q⟩
  · by_cases h : a = p
    · subst h; rw [x4w] at e; cases e
    · rw [x3q h] at e; exact g.ws a i e
  · by_cases h : a = p
    · subst h; rw [x4w] at e; cases e; exact Nat.lt_succ_self _
    · rw [x3q h] at e; exact g.wt a i e
  · obtain ⟨v, F, h1, h2⟩ := g.slot i d q e
    exact ⟨v, F, h1, Rep.go g.wl st h2 fun a m => ⟨x0w (nw a _ (h2.owns a m)), (x3q (nw a _ (h2.owns a m))).trans (h2.owns a m)⟩⟩
  · exact .own x2h x4w (Reps.go g.wl st r fun a m => ⟨x0w (nw a _ (r.owns a m)), (x3q (nw a _ (r.owns a m))).trans (r.owns a m)⟩) fun m => absurd rfl (nw p _ (r.owns p m))
theorem x9s {K : PySem.W.Frag} {k : Nat} {it : y09} {pt : x6b} {tt : x2k} {te : Den} {deep : Bool} : ∀ σ H Q, tD K (x25 k it pt tt te deep) σ H Q -> y8s k (tDI K it) (tDG K σ.length pt) (tDT K tt) (tD K te) σ H Q := fun σ H Q hh0 => by
  obtain ⟨ρ, w, t, r', q, ρ', g, ee, kk⟩ := hh0
  unfold x25 at ee
  split at ee
  · rename_i ds ρ1 h1
    split at ee
    · rename_i all ρ2 h2
      cases ee
      refine ⟨ρ, w, t, ds, ρ1, g, h1, fun J P H1 w1 g1 go1 ok p1 hl => ?_⟩
      refine ⟨fun i m ys H' => m = ds.length - i /\ i <= ds.length /\ ys.length <= i /\ ∃ ρ3 w3 zs F x2n, Good K ρ3 σ H' w3 (t + 1) /\ Go H w H' w3 /\ P H' w3 /\ Reps K H' w3 (.t t) (dq deep) zs ys F /\
          x67 k pt tt te deep (ds.drop i) ρ3 = some (x2n, ρ') /\ zs ++ x2n = all,
        ⟨ds.length, by simp, Nat.zero_le _, Nat.le_refl _, ρ1, w1, [], [], all, g1.up, go1, p1, .nil, h2, rfl⟩, ?_⟩
      rintro i m ys H' ⟨rfl, hile, hys, ρ3, w3, zs, F, x2n, g0, go0, p0, rz0, e3, ez⟩
      have hsz : ys.length < sizeLine := by omega
      refine ⟨Nat.le_of_lt hsz, ?_⟩
      by_cases hlt : i < ds.length
      · refine .inr ⟨ok.go i H' w3 p0 hlt, hsz, fun x H2 hy => ?_⟩
        obtain ⟨mo, rx, p3⟩ := ok.yld i H' w3 x H2 ds[i] p0 g0.wl (List.getElem?_eq_getElem hlt) hy
        obtain ⟨g3, go2⟩ := g0.more mo
        have go3 := go0.trans go2
        have rz := rz0.gone g0.wl go2
        have ed : ds.drop i = ds[i] :: ds.drop (i + 1) := List.drop_eq_getElem_cons hlt
        rw [ed] at e3
        unfold x67 at e3
        split at e3
        · cases e3
        · rename_i ρ4 h4
          split at e3
          · cases e3
          · rename_i b ρ5 h5
            have gx := g3.ext k
            have lρ : ρ3.length = σ.length := g3.len
            refine ⟨ds[i], _, w3, t + 1, ρ4, gx, rx, h4, fun σ4 H4 w4 l4 s4 g4 go4 => ?_⟩
            obtain ⟨τ, rfl, lτ⟩ := z7l l4 s4
            refine ⟨⟨τ, rfl, by rw [lτ, List.length_replicate]⟩, ρ4, w4, t + 1, b, ρ5, g4, h5, fun H5 w5 g5 go5 => ?_⟩
            have p5 := ok.st _ _ _ _ (ok.st _ _ _ _ p3 g3.wl go4.stab) g4.wl go5.stab
            have z5 : Reps K H5 w5 (.t t) (dq deep) zs ys F := (rz.gone g3.wl go4).gone g4.wl go5
            cases b with
            | false =>
              rw [if_neg (by decide)] at e3
              dsimp only
              rw [if_neg (by decide)]
              obtain ⟨gc, goc⟩ := g5.cut
              rw [lρ] at e3
              refine ⟨ds.length - (i + 1), by omega, rfl, hlt, by omega, _, _, zs, F, x2n, gc, (go3.trans go4).trans (go5.trans goc), ok.st _ _ _ _ p5 g5.wl goc.stab, z5.gone g5.wl goc, e3, ez⟩
            | true =>
              rw [if_pos rfl] at e3
              dsimp only
              rw [if_pos rfl]
              split at e3
              · cases e3
              · rename_i d6 q6 ρ6 h6
                split at e3
                · cases e3
                · rename_i hq6
                  split at e3
                  · cases e3
                  · rename_i vs7 ρ7 h7
                    cases e3
                    refine ⟨ρ5, w5, t + 1, d6, q6, ρ6, g5, h6, fun v H6 w6 F6 g6 go6 r6 => ?_⟩
                    obtain ⟨gs, ⟨F', rs, hF'⟩, sts, hOs⟩ := z9e g6 r6 hq6
                    obtain ⟨gc, goc⟩ := gs.cut
                    rw [lρ] at h7
                    have zs6 := z5.gone g5.wl go6
                    have zF : ∀ a ∈ F, w6 a = some (.t t) := zs6.owns
                    have zs7 : Reps K H6 (x68 deep t w6) (.t t) (dq deep) zs ys F := Reps.go g6.wl sts zs6 fun a m => ⟨rfl, hOs a _ (zF a m) (by intro z; cases z)⟩
                    have gos : Go H w H6 (x68 deep t w6) := by
                      have go : Go H w H6 w6 := (go3.trans go4).trans (go5.trans go6)
                      refine ⟨fun a x h n => ⟨(go.stab a x h n).1, (sts a x (go.stab a x h n).1 (go.stab a x h n).2).2⟩, fun a o h n => ⟨(go.keep a o h n).1, hOs a o (go.keep a o h n).2 fun z => ?_⟩⟩
                      subst z
                      have := g.wt a _ h
                      omega
                    refine ⟨ds.length - (i + 1), by omega, rfl, hlt, by rw [List.length_append]; simp; omega, _, _, zs ++ [d6], F ++ F', vs7, gc, gos.trans goc, ok.st _ _ _ _ (ok.st _ _ _ _ p5 g5.wl go6.stab |> fun q => ok.st _ _ _ _ q g6.wl sts) gs.wl goc.stab,
                      ?_, h7, by rw [List.append_assoc]; exact ez⟩
                    refine (Reps.snoc rs zs7 fun a m m' => ?_).gone gs.wl goc
                    have h1 := zF a m
                    rw [hF' a m'] at h1
                    cases h1
      · have hi' : i = ds.length := Nat.le_antisymm hile (Nat.not_lt.mp hlt)
        subst hi'
        refine .inl ⟨ok.stop H' w3 p0, fun p hp => ?_⟩
        have ed : ds.drop ds.length = [] := by simp
        rw [ed] at e3
        cases e3
        rw [List.append_nil] at ez
        subst ez
        obtain ⟨a1, a2, a3⟩ := z4e g0 hp rz0
        refine kk _ _ _ (p :: F) a1 (go0.trans a2) ?_
        cases deep <;> exact a3
    · cases ee
  · cases ee
section
variable {X : Cx} {k : Nat} {N' : List Str} {scope : Scope} {elt tg iter : Expr} {ifs : List Expr} {pos : Pos} {it : y09} {pt : x6b} {tt : x2k} {te : Den}
noncomputable abbrev z4k (X : Cx) (ifs : List Expr) (f : x2k) : Prop := PTs X ifs (tDT X.K f)
theorem y8m : z4k X [] x1f := fun pins s σ H Q I hh0 => by
  obtain ⟨ρ, w, t, b, ρ', gd, ee, k⟩ := hh0
  cases ee
  exact z19 pins s σ H Q I (k H w gd Go.refl)
theorem y9f {c : Expr} {g : x2k} (h : PDT X c g) : z4k X [c] g := z3k h
theorem z2y (deep : Bool) (hc : X.calm = true) (S : CompOk X k N' scope) (hi : PDI X tg iter it) (hg : ∀ C s H fp, PDG (x23 X N' scope C s H fp) X.N.length tg pt) (ht : ∀ C s H fp, z4k (x23 X N' scope C s H fp) ifs tt) (he : ∀ C s H fp, PD (x23 X N' scope C s H fp) elt te)
    (hs : ∀ x, foldedSetIterable iter X.env x = pure x := by intro _; rfl) : PD X (.ListComp elt [⟨tg, iter, ifs, 0⟩] scope pos) (x25 k it pt tt te deep) := by
  intro pins s σ H Q I h
  have := x9s σ H Q h
  rw [I.len] at this
  exact z2q (N' := N') hc S hi hg ht he hs pins s σ H Q I this
theorem y9g {i : Nat} {y : Str} {py spos : Pos} (deep : Bool) (hN : X.N.Nodup) (hy : X.N[i]? = some y) (hx : Loc X.env.scope y) (hsw : swapsWith (.ListComp elt [⟨tg, iter, ifs, 0⟩] scope pos) (some (.Name y py)) spos.line X.env = pure true)
    (hc : X.calm = true) (S : CompOk X k N' scope) (hi : PDI X tg iter it) (hg : ∀ C s H fp, PDG (x23 X N' scope C s H fp) X.N.length tg pt) (ht : ∀ C s H fp, z4k (x23 X N' scope C s H fp) ifs tt) (he : ∀ C s H fp, PD (x23 X N' scope C s H fp) elt te)
    (hs : ∀ x, foldedSetIterable iter X.env x = pure x := by intro _; rfl) (hf : X.fn y = true \/ X.env.scope.names.lookup y = some .local := by first | exact .inl rfl | exact .inr rfl | assumption) :
    PDS X (.Assign [.Name y py] (.ListComp elt [⟨tg, iter, ifs, 0⟩] scope pos) spos) (x30 i (x25 k it pt tt te deep)) := by
  intro pins s σ H D I h
  have hl : i < σ.length := by rw [I.len]; exact (List.getElem?_eq_some_iff.mp hy).1
  refine z15 (N' := N') (te := tD X.K te) (tt := tDT X.K tt) (g := tDG X.K X.N.length pt) (wi := tDI X.K it) hN hy hx hsw hc S hi hg ht he hs hf pins s σ H D I ?_
  have z := y6d (te := y8s k (tDI X.K it) (tDG X.K σ.length pt) (tDT X.K tt) (tD X.K te)) hl (fun Q q => x9s σ H Q q) h
  rw [I.len] at z
  exact z
end
mutual
noncomputable def toP : D -> PyData
  | .non => .none
  | .bl b => .bool b
  | .int i => .int i
  | .str x => .str x
  | .tup ds => .tuple (x5x ds)
  | .lst ds => .list (x5x ds)
  | .dic _ _ => .none
  | .exc _ => .none
noncomputable def x5x : List D -> List PyData
  | [] => []
  | d :: ds => toP d :: x5x ds
end
mutual
noncomputable def x71 : D -> Bool
  | .dic _ _ => false
  | .exc _ => false
  | .tup ds => x8s ds
  | .lst ds => x8s ds
  | _ => true
noncomputable def x8s : List D -> Bool
  | [] => true
  | d :: ds => x71 d && x8s ds
end
noncomputable def okD (d : D) : Bool := x71 d && SeqAt.shaped (toP d)
theorem x82 {d : D} (h : okD d = true) : x71 d = true := (Bool.and_eq_true_iff.mp h).1
theorem x85 {d : D} (h : okD d = true) : SeqAt.shaped (toP d) = true := (Bool.and_eq_true_iff.mp h).2
noncomputable def eqD (d e : D) : Bool := PyData.eqv (toP d) (toP e)
section
variable {X : Cx} {pins : List (Addr × Obj)} {σ : St} {H : Hp} {s : Shared}
theorem Rep.reads (I : Inv X pins σ H s) {w : Wn} {o : Ow} : ∀ {q : Nat} {d : D} {v : V} {F : List Addr} {u : Value}, Rep X.K H w o q d v F -> x4b v u -> x71 d = true -> ∃ as, Reads s.heap u (toP d) as := by
  intro q d v F u r
  refine (Rep.rec (motive_1 := fun q d v F _ => ∀ u, x4b v u -> x71 d = true -> ∃ as, Reads s.heap u (toP d) as) (motive_2 := fun q ds vs F _ => ∀ us, x2m vs us -> x8s ds = true -> ∃ as, ReadsAll s.heap us (x5x ds) as) ?_ ?_ ?_ ?_ ?_ ?_ ?_ ?_ ?_ ?_ ?_ ?_ r : ∀ u, x4b v u -> x71 d = true -> ∃ as, Reads s.heap u (toP d) as) u
  · intro q u ru hn; cases ru; exact ⟨_, by unfold toP; exact .none⟩
  · intro q b u ru hn; cases ru; exact ⟨_, by unfold toP; exact .bool b⟩
  · intro q i u ru hn; obtain ⟨t, rfl⟩ := ru; exact ⟨_, by unfold toP; exact .int i t⟩
  · intro q x u ru hn; obtain ⟨t, rfl⟩ := ru; exact ⟨_, by unfold toP; exact .str x t⟩
  · intro q a vs ds h r ih u ru hn
    cases ru
    obtain ⟨its, rv, p, hz⟩ := I.tuple (SqT.of h)
    obtain ⟨as, ra⟩ := ih its rv (by unfold x71 at hn; exact hn)
    obtain ⟨ob, ho, hc, n, hd⟩ := p
    exact ⟨_, by unfold toP; exact .tuple ho hc hd ra⟩
  · intro q a ks vs ds h r ih u ru hn; cases hn
  · intro q a nm ob v h x n u ru hn; cases hn
  · intro a vs ds h r ih u ru hn
    cases ru
    obtain ⟨its, rv, p, hz⟩ := I.list h.sq
    obtain ⟨as, ra⟩ := ih its rv (by unfold x71 at hn; exact hn)
    obtain ⟨ob, ho, hc, n, hd⟩ := p.isList
    exact ⟨_, by unfold toP; exact .list ho hc hd ra⟩
  · intro a vs ds h n0 r ih u ru hn
    cases ru
    obtain ⟨its, rv, p, hz⟩ := I.list (.inl h)
    obtain ⟨as, ra⟩ := ih its rv (by unfold x71 at hn; exact hn)
    obtain ⟨ob, ho, hc, n, hd⟩ := p.isList
    exact ⟨_, by unfold toP; exact .list ho hc hd ra⟩
  · intro q a vs ds F h e r ne ih u ru hn
    cases ru
    obtain ⟨its, rv, p, hz⟩ := I.list (SqL.of h)
    obtain ⟨as, ra⟩ := ih its rv (by unfold x71 at hn; exact hn)
    obtain ⟨ob, ho, hc, n, hd⟩ := p.isList
    exact ⟨_, by unfold toP; exact .list ho hc hd ra⟩
  · intro q us ru hn; cases ru; exact ⟨_, by unfold x5x; exact .nil⟩
  · intro q d v ds vs F G r s' ne ih1 ih2 us ru hn
    cases ru with
    | cons rv rvs =>
      unfold x8s at hn
      obtain ⟨as, ra⟩ := ih1 _ rv (Bool.and_eq_true_iff.mp hn).1
      obtain ⟨bs, rb⟩ := ih2 _ rvs (Bool.and_eq_true_iff.mp hn).2
      exact ⟨_, by unfold x5x; exact .cons ra rb⟩
end
noncomputable def Is (K : PySem.W.Frag) (H : Hp) (d : D) (v : V) : Prop := ∃ w o q F, Rep K H w o q d v F
noncomputable def z8d (K : PySem.W.Frag) : R2 := fun x y H Q => ∃ d e, Is K H d x /\ Is K H e y /\ okD d = true /\ okD e = true /\ Q (.bl (eqD d e)) H
noncomputable def z8k (K : PySem.W.Frag) : R2 := fun x y H Q => ∃ d e, Is K H d x /\ Is K H e y /\ okD d = true /\ okD e = true /\ Q (.bl (!eqD d e)) H
noncomputable def inD (d : D) : D -> Option Bool
  | .lst ds => some ((x5x ds).any fun y => PyData.eqv y (toP d))
  | .tup ds => some ((x5x ds).any fun y => PyData.eqv y (toP d))
  | _ => none
noncomputable def z8j (K : PySem.W.Frag) (neg : Bool) : R2 := fun x y H Q => ∃ d e b, Is K H d x /\ Is K H e y /\ okD d = true /\ okD e = true /\ inD d e = some b /\ Q (.bl (if neg then !b else b)) H
section
variable {X : Cx} {a b c e : Expr} {fa fb fc f : Den} {pos : Pos}
theorem z0k (hu : X.A.units + 64 < cLine) : OpR X (compareOp .Eq) (z8d X.K) := by
  intro pins s σ H x y v u Q I rx ry ⟨d, e, ⟨w, o, q, F, h1⟩, ⟨w', o', q', F', h2⟩, k1, k2, hq⟩
  obtain ⟨as, ra⟩ := h1.reads I rx (x82 k1)
  obtain ⟨bs, rb⟩ := h2.reads I ry (x82 k2)
  exact eq_dataH ra rb (x85 k1) (x85 k2) hu ⟨.bl _, H, I, rfl, hq⟩
theorem z6s (hu : X.A.units + 64 < cLine) : OpR X (compareOp .NotEq) (z8k X.K) := by
  intro pins s σ H x y v u Q I rx ry ⟨d, e, ⟨w, o, q, F, h1⟩, ⟨w', o', q', F', h2⟩, k1, k2, hq⟩
  obtain ⟨as, ra⟩ := h1.reads I rx (x82 k1)
  obtain ⟨bs, rb⟩ := h2.reads I ry (x82 k2)
  exact ne_dataH ra rb (x85 k1) (x85 k2) hu ⟨.bl _, H, I, rfl, hq⟩
theorem z0i (hu : X.A.units + 65 < cLine) : OpR X (compareOp .In) (z8j X.K false) := by
  intro pins s σ H x y v u Q I rx ry ⟨d, e, b, ⟨w, o, q, F, h1⟩, ⟨w', o', q', F', h2⟩, k1, k2, hb, hq⟩
  obtain ⟨as, ra⟩ := h1.reads I rx (x82 k1)
  obtain ⟨bs, rb⟩ := h2.reads I ry (x82 k2)
  replace k1 := x85 k1
  replace k2 := x85 k2
  cases e with
  | lst ds =>
    cases hb
    unfold toP at rb k2
    exact SeqAt.in_list_reads rb ra (SeqAt.canLay_of_shaped k2) (SeqAt.canLay_of_shaped k1) (room_in_shaped k1 hu) ⟨.bl _, H, I, rfl, hq⟩
  | tup ds =>
    cases hb
    unfold toP at rb k2
    exact SeqAt.in_tuple_reads rb ra (SeqAt.canLay_of_shaped k2) (SeqAt.canLay_of_shaped k1) (room_in_shaped k1 hu) ⟨.bl _, H, I, rfl, hq⟩
  | _ => cases hb
noncomputable def dEq (x y : D) : Option D := if okD x = true /\ okD y = true then some (.bl (eqD x y)) else none
noncomputable def dNe (x y : D) : Option D := if okD x = true /\ okD y = true then some (.bl (!eqD x y)) else none
noncomputable def dIn (x y : D) : Option D := if okD x = true /\ okD y = true then (inD x y).map fun b => .bl b else none
theorem hEq {K : PySem.W.Frag} : ∀ σ H Q, tD K (e2 dEq fa fb) σ H Q -> tOp (z8d K) (tD K fa) (tD K fb) σ H Q := x94 fun x y d h => by
  unfold dEq at h
  split at h
  · rename_i hk
    cases h
    exact ⟨_, rfl, fun H w o o' q q' u u' F F' r1 r2 _ Q hq => ⟨x, y, ⟨_, _, _, _, r1⟩, ⟨_, _, _, _, r2⟩, hk.1, hk.2, hq⟩⟩
  · cases h
theorem hNe {K : PySem.W.Frag} : ∀ σ H Q, tD K (e2 dNe fa fb) σ H Q -> tOp (z8k K) (tD K fa) (tD K fb) σ H Q := x94 fun x y d h => by
  unfold dNe at h
  split at h
  · rename_i hk
    cases h
    exact ⟨_, rfl, fun H w o o' q q' u u' F F' r1 r2 _ Q hq => ⟨x, y, ⟨_, _, _, _, r1⟩, ⟨_, _, _, _, r2⟩, hk.1, hk.2, hq⟩⟩
  · cases h
theorem hIn {K : PySem.W.Frag} : ∀ σ H Q, tD K (e2 dIn fa fb) σ H Q -> tOp (z8j K false) (tD K fa) (tD K fb) σ H Q := x94 fun x y d h => by
  unfold dIn at h
  split at h
  · rename_i hk
    cases hi : inD x y with
    | none => rw [hi] at h; cases h
    | some b =>
      rw [hi] at h
      cases h
      exact ⟨_, rfl, fun H w o o' q q' u u' F F' r1 r2 _ Q hq => ⟨x, y, b, ⟨_, _, _, _, r1⟩, ⟨_, _, _, _, r2⟩, hk.1, hk.2, hi, hq⟩⟩
  · cases h
theorem z7a {k : Nat} (hr : Room k X.A) (ha : PD X a fa) (hb : PD X b fb) : PD X (.Compare a [.Eq] [b] pos) (e2 dEq fa fb) := z0b (z0k hr.units) hEq ha hb (x9n _)
theorem z44 {k : Nat} (hr : Room k X.A) (ha : PD X a fa) (hb : PD X b fb) : PDT X (.Compare a [.Eq] [b] pos) (x2y (e2 dEq fa fb)) := x7g (z0k hr.units) hEq ha hb (x9n _)
theorem z3y {k : Nat} (hr : Room k X.A) (ha : PD X a fa) (hb : PD X b fb) : PDT X (.Compare a [.NotEq] [b] pos) (x2y (e2 dNe fa fb)) := x7g (z6s hr.units) hNe ha hb (x9n _)
theorem u65 {k : Nat} {A : Around} (r : Room k A) : A.units + 65 < cLine := by have := r.un; omega
theorem z6a {k : Nat} (hr : Room k X.A) (ha : PD X a fa) (hb : PD X b fb) (hm : behindInMarks .In b = false := by with_unfolding_all rfl) : PDT X (.Compare a [.In] [b] pos) (x2y (e2 dIn fa fb)) := x7g (z0i (u65 hr)) hIn ha hb hm
theorem z7c {k : Nat} (hr : Room k X.A) (ha : PD X a fa) (hb : PD X b fb) (hm : behindInMarks .In b = false := by with_unfolding_all rfl) : PD X (.Compare a [.In] [b] pos) (e2 dIn fa fb) := z0b (z0i (u65 hr)) hIn ha hb hm
end
@[simp] noncomputable def eB (h : List D -> Option D) (g : x1v) : Den := fun ρ => match g ρ with
  | some (ds, ρ1) => match h ds with
    | some d => some (d, 9, ρ1)
    | none => none
  | none => none
section
variable {X : Cx} {a b c e : Expr} {es : List Expr} {fa fb fc f : Den} {g : x1v} {pos p p1 p2 : Pos}
theorem z0q {K : PySem.W.Frag} {h : List D -> Option D} {r : List V -> Hp -> VK -> Prop} (hh : ∀ ds d, h ds = some d -> ∃ v, x7i d = some v /\ ∀ H w vs, WL w H -> Reps K H w .f 0 ds vs [] -> ∀ Q : VK, Q v H -> r vs H Q) :
    ∀ σ H Q, tD K (eB h g) σ H Q -> tCB r (tDA K g) σ H Q := fun σ H Q hh0 => by
  obtain ⟨ρ, w, t, r', q, ρ', gd, ee, k⟩ := hh0
  unfold eB at ee
  split at ee
  · rename_i ds ρ1 h1
    split at ee
    · rename_i d hd
      cases ee
      obtain ⟨v, hv, hr⟩ := hh ds _ hd
      exact ⟨ρ, w, t, ds, _, gd, h1, fun vs H1 w1 g1 go1 r1 => hr H1 w1 vs g1.wl r1 Q (k v H1 w1 [] g1.up go1 (x8h hv))⟩
    · cases ee
  · cases ee
theorem one {K : PySem.W.Frag} {H : Hp} {w : Wn} {o : Ow} {d : D} {vs : List V} (r : Reps K H w o 0 [d] vs []) : ∃ v, vs = [v] /\ Rep K H w o 0 d v [] := by
  have l := r.length
  match vs, l with
  | [v], _ =>
    obtain ⟨v', h1, h2⟩ := r.get (i := 0) rfl
    cases h1
    exact ⟨v, rfl, h2⟩
theorem two {K : PySem.W.Frag} {H : Hp} {w : Wn} {o : Ow} {d d' : D} {vs : List V} (r : Reps K H w o 0 [d, d'] vs []) : ∃ v v', vs = [v, v'] /\ Rep K H w o 0 d v [] /\ Rep K H w o 0 d' v' [] := by
  have l := r.length
  match vs, l with
  | [v, v'], _ =>
    obtain ⟨u, h1, h2⟩ := r.get (i := 0) rfl
    obtain ⟨u', h3, h4⟩ := r.get (i := 1) rfl
    cases h1
    cases h3
    exact ⟨v, v', rfl, h2, h4⟩
noncomputable def x8g : D -> Option Nat
  | .lst ds => some ds.length
  | .tup ds => some ds.length
  | _ => none
@[simp] noncomputable def z9m : List D -> Option D
  | [d] => (x8g d).map fun n => .int (Int.ofNat n)
  | _ => none
theorem Rep.len {K : PySem.W.Frag} {H : Hp} {w : Wn} {o : Ow} {q : Nat} {d : D} {v : V} {F : List Addr} {n : Nat} (r : Rep K H w o q d v F) (h : x8g d = some n) : ∃ p ys, v = .ref p /\ (SqL K H p ys \/ SqT K H p ys) /\ ys.length = n := by
  cases d with
  | lst ds =>
    cases h
    obtain ⟨p, vs, q', G, rfl, hq, rs⟩ := r.seqL
    exact ⟨p, vs, rfl, .inl hq, rs.length.symm⟩
  | tup ds =>
    cases h
    obtain ⟨p, vs, rfl, hq, rs⟩ := r.seqT
    exact ⟨p, vs, rfl, .inr hq, rs.length.symm⟩
  | _ => cases h
@[simp] noncomputable def x0z (i : Nat) : Den := fun ρ => match ρ[i]? with
  | some (some (d, _)) => match x8g d with
    | some n => some (.int (Int.ofNat n), 9, ρ)
    | none => none
  | _ => none
theorem z2p {i : Nat} {x : Str} (hm : X.mg "len" = none) (h : PE X (.Name x p1) (x9i i)) (hg : Gl X "len" := by rfl) (he : starEach [.Name x p1] X.env = (false, eval (.Name x p1) X.env) :: starEach [] X.env := by rfl) (hpl : (backTo pos (starEach [] X.env)).any (·.1) = false := by rfl) : PD X (.Call (.Name "len" p) [.Name x p1] [] pos) (x0z i) :=
  PE.imp (x64 y1b hg hm PySem.boot_len (x4c h x7v he) (by decide) (by decide) he hpl) fun σ H Q hh0 => by
  obtain ⟨ρ, w, t, r', q, ρ', gd, ee, k⟩ := hh0
  unfold x0z at ee
  split at ee
  · rename_i d q0 e0
    split at ee
    · rename_i n hn
      cases ee
      obtain ⟨v, F, h1, h2⟩ := gd.slot i d q0 e0
      obtain ⟨p, ys, rfl, hs, hl⟩ := h2.len hn
      exact ⟨_, h1, p, ys, rfl, hs, by rw [hl]; exact k _ H w [] gd.up Go.refl (.int _)⟩
    · cases ee
  · cases ee
@[simp] noncomputable def z4a : List D -> Option D
  | [.int i, .int j] => some (.int (if j > i then j else i))
  | _ => none
theorem z2w (hc : X.calm = true) (hm : X.mg "max" = none) (hb : bootBuiltins "max" = some (.builtin "max")) (ha : PDA X (a :: es) g) (hg : Gl X "max" := by rfl) (he : starEach (a :: es) X.env = (false, eval a X.env) :: starEach es X.env := by rfl) (hpl : (backTo pos (starEach es X.env)).any (·.1) = false := by rfl) : PD X (.Call (.Name "max" p) (a :: es) [] pos) (eB z4a g) :=
  PE.imp (x64 (y7n hc) hg hm hb ha (by decide) (by decide) he hpl) (z0q fun ds d h => by
    unfold z4a at h
    split at h
    · rename_i i j
      cases h
      refine ⟨_, rfl, fun H w vs wl r Q hq => ?_⟩
      obtain ⟨v, v', rfl, r1, r2⟩ := two r
      exact ⟨i, j, by rw [x3h r1, x3h r2], hq⟩
    · cases h)
@[simp] noncomputable def x5p (g : x1v) : Den := fun ρ => match g ρ with
  | some ([.lst ds], ρ1) => some (.lst ds, 1, ρ1)
  | some ([.tup ds], ρ1) => some (.lst ds, 1, ρ1)
  | _ => none
theorem y6z (hm : X.mg "list" = none) (hb : bootBuiltins "list" = some (.type "list")) (ha : PDA X [a] g) (hg : Gl X "list" := by rfl) (he : starEach [a] X.env = (false, eval a X.env) :: starEach [] X.env := by rfl) (hpl : (backTo pos (starEach [] X.env)).any (·.1) = false := by rfl) : PD X (.Call (.Name "list" p) [a] [] pos) (x5p g) :=
  PE.imp (x70 y1w hg hm hb ha (by decide) (by decide) he hpl) fun σ H Q hh0 => by
  obtain ⟨ρ, w, t, r', q, ρ', gd, ee, k⟩ := hh0
  unfold x5p at ee
  split at ee
  · rename_i ds ρ1 h1
    cases ee
    refine ⟨ρ, w, t, _, _, gd, h1, fun vs H1 w1 g1 go1 r1 => ?_⟩
    obtain ⟨v, rfl, rv⟩ := one r1
    obtain ⟨p, ys, rfl, hs, rs⟩ := rv.seqL0
    refine ⟨p, ys, rfl, .inl hs, fun l hl => ?_⟩
    obtain ⟨a1, a2, a3⟩ := y6f g1 hl rs
    exact k _ _ _ _ a1 (go1.trans a2) a3
  · rename_i ds ρ1 h1
    cases ee
    refine ⟨ρ, w, t, _, _, gd, h1, fun vs H1 w1 g1 go1 r1 => ?_⟩
    obtain ⟨v, rfl, rv⟩ := one r1
    obtain ⟨p, ys, rfl, hs, rs⟩ := rv.seqT
    refine ⟨p, ys, rfl, .inr hs, fun l hl => ?_⟩
    obtain ⟨a1, a2, a3⟩ := y6f g1 hl rs
    exact k _ _ _ _ a1 (go1.trans a2) a3
  · cases ee
@[simp] noncomputable def x1x (g : x1v) : Den := fun ρ => match g ρ with
  | some ([.lst ds], ρ1) => some (.tup ds, 9, ρ1)
  | some ([.tup ds], ρ1) => some (.tup ds, 9, ρ1)
  | _ => none
theorem y8j (hm : X.mg "tuple" = none) (hb : bootBuiltins "tuple" = some (.type "tuple")) (ha : PDA X [a] g) (hg : Gl X "tuple" := by rfl) (he : starEach [a] X.env = (false, eval a X.env) :: starEach [] X.env := by rfl) (hpl : (backTo pos (starEach [] X.env)).any (·.1) = false := by rfl) : PD X (.Call (.Name "tuple" p) [a] [] pos) (x1x g) :=
  PE.imp (x70 y15 hg hm hb ha (by decide) (by decide) he hpl) fun σ H Q hh0 => by
  obtain ⟨ρ, w, t, r', q, ρ', gd, ee, k⟩ := hh0
  unfold x1x at ee
  split at ee
  · rename_i ds ρ1 h1
    cases ee
    refine ⟨ρ, w, t, _, _, gd, h1, fun vs H1 w1 g1 go1 r1 => ?_⟩
    obtain ⟨v, rfl, rv⟩ := one r1
    obtain ⟨p, ys, rfl, hs, rs⟩ := rv.seqL0
    refine ⟨p, ys, rfl, .inl ⟨hs, fun l hl => ?_⟩⟩
    obtain ⟨a1, a2, a3⟩ := y1o g1 hl rs
    exact k _ _ _ _ a1 (go1.trans a2) a3
  · rename_i ds ρ1 h1
    cases ee
    refine ⟨ρ, w, t, _, _, gd, h1, fun vs H1 w1 g1 go1 r1 => ?_⟩
    obtain ⟨v, rfl, rv⟩ := one r1
    have rr := rv
    obtain ⟨p, ys, rfl, hs, rs⟩ := rv.seqT
    refine ⟨p, ys, rfl, .inr ⟨hs, ?_⟩⟩
    exact k _ H1 w1 [] g1.up go1 (((rr.nolist rfl).2 9).any g1.wl)
  · cases ee
noncomputable def z0r (ta : TA) : TE := fun σ H Q => ta σ H fun vs H1 => ∃ j : Int, vs = [.int j] /\ -(2 ^ 62) <= j /\ j < 2 ^ 62 /\ ∀ p, H1 p = none -> Q (.ref p) (upd H1 p (.rng 0 j))
theorem y3t {ta : TA} (hg : Gl X "range") (hm : X.mg "range" = none) (ha : PA X [a] ta) (hs : starEach [a] X.env = [(false, eval a X.env)] := by rfl) : PE X (.Call (.Name "range" p) [a] [] pos) (z0r ta) := by
  intro pins s σ H Q I h
  refine Call_ (x93 I hg hm boot_range (PyProof.Rows.callWith_type1 (thn (ha pos pins s σ H _ I h) fun us s1 ⟨vs, H1, I1, r1, q1⟩ => ?_) hs rfl))
  obtain ⟨j, e, q1, q2, q⟩ := q1
  subst e
  cases r1 with
  | cons r rr =>
    cases rr
    obtain ⟨t, rfl⟩ := r
    refine call_range_1 ?_
    exact ⟨.ref s1.heap.objs.size, upd H1 s1.heap.objs.size (.rng 0 j), I1.laid (fun b u e => Heap.get?_push_of_some _ e) (Nat.le_refl _) ⟨_, _, _, Heap.get?_push_size _ rfl⟩, rfl, q _ (I1.hok.fresh (Nat.le_refl _))⟩
end
end L3
namespace L3
open PySem PySem.Spec PyProof.Rows L2
theorem x95 {j : Int} (h1 : -(2 ^ 62) <= j) (h2 : j < 2 ^ 62) : Builtin.Range.small 0 j 1 = true := by
  have hs : Builtin.Range.rangeSize 0 j 1 = ((j.toNat : Nat) : Int) := by
    simp [Builtin.Range.rangeSize] <;> split <;> omega
  simp only [Builtin.Range.small, hs, Builtin.Range.rangeFitsLong]
  simp
  omega
theorem x9w (j : Int) : Builtin.Range.rangeSize 0 j 1 = ((j.toNat : Nat) : Int) := by
  simp [Builtin.Range.rangeSize] <;> split <;> omega
theorem x9x {n : Nat} {acc : Array Value} (h : ItemsOf (fun i v => ∃ t, v = Value.int (0 + (i : Nat) * 1) t) acc n) : x2m (x7p n) acc.toList := by
  have key : ∀ (us : List Value) (k : Nat), (∀ j v, us[j]? = some v -> ∃ t, v = Value.int (((k + j : Nat)) : Int) t) -> x2m ((List.range' k us.length).map fun i => V.int (Int.ofNat i)) us := by
    intro us
    induction us with
    | nil => intro k _; exact .nil
    | cons u r ih =>
      intro k hk
      obtain ⟨t, e⟩ := hk 0 u rfl
      refine .cons ⟨t, by rw [e]; rfl⟩ (ih (k + 1) fun j v hv => ?_)
      obtain ⟨t', e'⟩ := hk (j + 1) v (by simpa using hv)
      exact ⟨t', by rw [e']; congr 2; omega⟩
  have := key acc.toList 0 fun j v hv => by
    obtain ⟨t, e⟩ := h.2 j v (by simpa using hv)
    exact ⟨t, by rw [e]; congr 1; omega⟩
  have hl : acc.toList.length = n := by simpa using h.1
  rw [hl] at this
  unfold x7p
  rw [List.range_eq_range']
  exact this
section
variable {prog : Program} {w : World} {A : Around} {E : Value -> Shared -> Prop} {s : Shared}
open AutoSeq1 (wpAny_loadPart')
theorem y0q {Q : List Value -> Shared -> Prop} {r : Addr} {a b c : Int} {t u v : Tok} {n : Nat} (hh : A.handled = none) (hr : IsRange s.heap r a b c t u v) (hsmall : Builtin.Range.small a b c = true) (hn : Builtin.Range.rangeSize a b c = n) (hlen : n <= 2 ^ 24)
    (hQ : ∀ h' tk acc', (∀ b o', s.heap.get? b = some o' -> h'.get? b = some o') -> ItemsOf (fun i v => ∃ t, v = .int (a + i * c) t) acc' n -> Q acc'.toList { s with heap := h', toks := tk }) :
    wpAny (model prog w) A (collect (.ref r)) Q E s := by
  unfold collect
  refine wpAny_bind (wpAny_runValue (codeAny_builtin F.entry_proto_collect ?_))
  rw [Around.under_plainId F.plain_proto_collect _]
  show wpAny _ A.in1 (newList [] >>= fun l => again (.builtin "list.__iadd__" ⟨[l, .ref r], []⟩)) _ _ s
  refine wpAny_bind (wpAny_newObj_type ?_)
  refine wpAny_pure ⟨plainId_quiet F.plain_list_iadd _, codeAny_builtin F.entry_list_iadd ?_⟩
  rw [Around.under_plainId F.plain_list_iadd _]
  show wpAny _ A.in1 (Builtin.List.listExtendWith (.ref s.heap.objs.size) (.ref r) (.ref s.heap.objs.size)) _ _ _
  have hS : (s.heap.push { cls := .type "list", data := .seq ([] : List Value).toArray }).get? s.heap.objs.size = some { cls := .type "list", data := .seq #[] 0 } := Heap.get?_push_size _ rfl
  have fin' : ∀ (h' : Heap) (tk : Nat) (acc' : Array Value) (c' : Nat), (∀ b o, b ≠ s.heap.objs.size -> (s.heap.push { cls := .type "list", data := .seq ([] : List Value).toArray }).get? b = some o -> h'.get? b = some o) ->
      h'.get? s.heap.objs.size = some { cls := .type "list", dict := none, data := .seq acc' c', slots := #[] } -> ItemsOf (fun i v => ∃ t, v = .int (a + i * c) t) acc' n -> wpAny (model prog w) A (match Value.ref s.heap.objs.size with
      | Value.ref a => do
        match (<- load a).data with
          | Data.seq xs _ => pure xs.toList
          | _ => unsupported "internal:collect"
      | _ => unsupported "internal:collect") Q E { s with heap := h', toks := tk } := fun h' tk acc' c' hk hS' hacc => by
    show wpAny _ A (load s.heap.objs.size >>= _) _ _ _
    refine wpAny_bind (wpAny_load hS' ?_)
    refine wpAny_pure (hQ h' tk acc' (fun b o' hb => ?_) hacc)
    exact hk b o' (Nat.ne_of_lt (Heap.lt_size hb)) (Heap.get?_push_of_some _ hb)
  refine wpAny_mono (wpAny_extend_range (A := A) (R := fun rs s' => rs = .ok (.ret (.ref s.heap.objs.size)) /\ ∃ h' tk acc' c', s' = { s with heap := h', toks := tk } /\ (∀ b o, b ≠ s.heap.objs.size -> (s.heap.push { cls := .type "list", data := .seq ([] : List Value).toArray }).get? b = some o -> h'.get? b = some o) /\
      h'.get? s.heap.objs.size = some { cls := .type "list", dict := none, data := .seq acc' c', slots := #[] } /\ ItemsOf (fun i v => ∃ t, v = .int (a + i * c) t) acc' n)
    (s := { s with heap := s.heap.push { cls := .type "list", data := .seq ([] : List Value).toArray } }) hh (Heap.get?_push_of_some _ hr) hsmall hn hlen s.heap.objs.size (.ref s.heap.objs.size) 0 hS (fun h' tk acc' c' hk hS' hacc => ⟨rfl, h', tk, acc', c', rfl, hk, hS', hacc⟩)) (fun fin s' h => ?_) (fun e s' h => ?_)
  · cases fin with
    | done f =>
      obtain ⟨e, h', tk, acc', c', rfl, hk, hS', hacc⟩ := h
      cases e
      exact fin' h' tk acc' c' hk hS' hacc
    | again c' => exact ⟨h.1, codeAny_mono h.2 fun r s'' hr => by
        obtain ⟨rfl, h', tk, acc', c', rfl, hk, hS', hacc⟩ := hr
        exact fin' h' tk acc' c' hk hS' hacc⟩
  · exact absurd h.1 (by simp)
end
theorem x5m (r : Addr) (a b c : Int) (t u v : Tok) (n : Nat) (hsmall : Builtin.Range.small a b c = true) (hn : Builtin.Range.rangeSize a b c = n) (hlen : n <= 2 ^ 24) :
    Meets (Builtin.«tuple.__new__» ⟨[.type "tuple", .ref r], []⟩)
      (fun A R s => A.handled = none /\ IsRange s.heap r a b c t u v /\ ∀ (h' : Heap) tk acc', (∀ b o', s.heap.get? b = some o' -> h'.get? b = some o') -> ItemsOf (fun i v => ∃ t, v = .int (a + i * c) t) acc' n -> R (.ok (.ret (.ref h'.objs.size))) { s with heap := h'.push { cls := .type "tuple", data := .seq acc' }, toks := tk }) :=
  .of_wp fun prog w A R s h => by
    obtain ⟨hp, g, d, tk, os⟩ := s; obtain ⟨hh, hr, h⟩ := h
    have hsub := sub_tuple_self
    have hinit := init_tuple_lookup
    have hmh := madeHere_tuple
    have hT : Shared.TypeIs ⟨hp, g, d, tk, os⟩ (.ref r) "range" := ⟨_, hr, rfl⟩
    have hh1 : A.in1.handled = none := hh
    wp_walk using AutoSeq1.wpAny_loadPart' hr, wpAny_typeOf hT, y0q hh1 hr hsmall hn hlen
    intro h' tk' acc' hk hacc
    show wpAny _ _ (Builtin.Tuple.tupleExact acc'.toList.toArray >>= fun v => ret v) _ _ _
    unfold Builtin.Tuple.tupleExact
    have hsz : acc'.size <= sizeLine := by rw [hacc.1]; exact hlen
    refine wpAny_bind (wpAny_newObj_type ?_ (by show acc'.toList.toArray.size <= sizeLine; simpa using hsz))
    refine wpAny_pure ⟨_, rfl, ?_⟩
    have e : acc'.toList.toArray = acc' := by simp
    rw [e]
    exact h h' tk' acc' hk hacc
theorem x87 {prog : Program} {w : World} {A : Around} {E : Value -> Shared -> Prop} {s : Shared} {r : Addr} {a b c : Int} {t u v : Tok} {n : Nat} {Q : Value -> Shared -> Prop} (hh : A.handled = none) (hr : IsRange s.heap r a b c t u v) (hsmall : Builtin.Range.small a b c = true) (hn : Builtin.Range.rangeSize a b c = n) (hlen : n <= 2 ^ 24)
    (h : ∀ (h' : Heap) tk acc', (∀ b o', s.heap.get? b = some o' -> h'.get? b = some o') -> ItemsOf (fun i v => ∃ t, v = .int (a + i * c) t) acc' n -> Q (.ref h'.objs.size) { s with heap := h'.push { cls := .type "tuple", data := .seq acc' }, toks := tk }) :
    wpAny (model prog w) A (call (.type "tuple") [.ref r]) Q E s :=
  callType_new F.called_tuple (by decide) (F.typeCall_tuple_1 _) (F.newCall_tuple_1 _) (fun obj => F.args_object_init_2 obj _) F.entry_tuple_new
    (x5m r a b c t u v n hsmall hn hlen) ⟨hh, hr, fun h' tk acc' hk hacc => ⟨⟨_, Heap.get?_push_size _ rfl, rfl⟩, h h' tk acc' hk hacc⟩⟩
section
variable {X : Cx}
noncomputable def z7k (mk : List V -> HO) : List V -> Hp -> VK -> Prop := fun xs H Q => ∃ a j, xs = [.ref a] /\ H a = some (.rng 0 j) /\ -1000 <= j /\ j <= 1000 /\ ∀ p, H p = none -> Q (.ref p) (upd H p (mk (x7p j.toNat)))
theorem y08 (hc : X.calm = true) : x84 X (.type "list") (z7k .lst) := by
  intro pins s σ H xs us Q I r h
  obtain ⟨a, j, rfl, hr, j1, j2, q⟩ := h
  obtain ⟨u, rfl, rx⟩ := y11 r
  cases rx
  obtain ⟨t, u, v, ho⟩ := (show x35 X.prog X.w H s.heap a (.rng 0 j) from I.hok a _ hr)
  refine call_list_range (I.ok.hd hc) ho (x95 (by omega) (by omega)) (x9w j) (by omega) fun h' tk acc' c' hk hS' hacc => ?_
  refine ⟨.ref s.heap.objs.size, _, I.laid (t' := tk) (o := .lst (x7p j.toNat)) hk (Nat.le_refl _) ⟨by rw [x9z]; exact Nat.le_trans (by omega : j.toNat <= 1000) (by decide), acc'.toList, c', x9x hacc, by simpa using hS'⟩, rfl, q _ (I.hok.fresh (Nat.le_refl _))⟩
theorem x9h (hc : X.calm = true) : x84 X (.type "tuple") (z7k .tup) := by
  intro pins s σ H xs us Q I r h
  obtain ⟨a, j, rfl, hr, j1, j2, q⟩ := h
  obtain ⟨u, rfl, rx⟩ := y11 r
  cases rx
  obtain ⟨t, u, v, ho⟩ := (show x35 X.prog X.w H s.heap a (.rng 0 j) from I.hok a _ hr)
  refine x87 (I.ok.hd hc) ho (x95 (by omega) (by omega)) (x9w j) (by omega) fun h' tk acc' hk hacc => ?_
  have I1 : Inv X pins σ H { s with heap := h', toks := tk } := I.kept hk
  have I2 : Inv X pins σ (upd H h'.objs.size (.tup (x7p j.toNat))) { s with heap := h'.push { cls := .type "tuple", data := .seq acc' }, toks := tk } :=
    I1.laid (t' := tk) (fun b o e => Heap.get?_push_of_some _ e) (Nat.le_refl _) (show x35 X.prog X.w _ _ _ (.tup _) from ⟨by rw [x9z]; exact Nat.le_trans (by omega : j.toNat <= 1000) (by decide), acc'.toList, x9x hacc, by simpa using x4u.new h' acc'⟩)
  exact ⟨.ref h'.objs.size, _, I2, rfl, q _ (I1.hok.fresh (Nat.le_refl _))⟩
variable {a : Expr} {g : x1v} {pos p p1 pos1 : Pos}
@[simp] noncomputable def x69 (g : x1v) : Den := fun ρ => match x0q g ρ with
  | some (ds, ρ1) => some (.lst ds, 1, ρ1)
  | none => none
@[simp] noncomputable def z18 (g : x1v) : Den := fun ρ => match x0q g ρ with
  | some (ds, ρ1) => some (.tup ds, 9, ρ1)
  | none => none
theorem y28 {K : PySem.W.Frag} {mk : List V -> HO} {q0 : Nat} {md : List D -> D} (al : ∀ {ρ : Rho} {σ : St} {H1 : Hp} {w1 : Wn} {t : Nat} {p : Addr} {vs : List V} {ds : List D}, Good K ρ σ H1 w1 t -> H1 p = none -> Reps K H1 w1 .f 0 ds vs [] -> ∃ w' F, Good K ρ σ (upd H1 p (mk vs)) w' (t + 1) /\ Go H1 w1 (upd H1 p (mk vs)) w' /\ Rep K (upd H1 p (mk vs)) w' (.t t) q0 (md ds) (.ref p) F) :
    ∀ σ H Q, tD K (fun ρ => match x0q g ρ with
      | some (ds, ρ1) => some (md ds, q0, ρ1)
      | none => none) σ H Q -> tCB (z7k mk) (z4l (z0r (tDA K g)) z8m) σ H Q := fun σ H Q hh0 => by
  obtain ⟨ρ, w, t, r', q, ρ', gd, ee, k⟩ := hh0
  dsimp only at ee
  split at ee
  · rename_i ds ρ1 h1
    cases ee
    unfold x0q at h1
    split at h1
    · rename_i n ρ2 h2
      split at h1
      · rename_i hn
        cases h1
        refine ⟨ρ, w, t, _, _, gd, h2, fun vs H1 w1 g1 go1 r1 => ?_⟩
        obtain ⟨v, rfl, rv⟩ := one r1
        have hv := x3h rv
        subst hv
        refine ⟨n, rfl, by omega, by omega, fun p hp => ⟨p, n, rfl, x2h, hn.1, hn.2, fun l hl => ?_⟩⟩
        have ne : ∀ a x, H1 a = some x -> a ≠ p := fun a x e => x1t e hp
        have st : x76 H1 w1 (upd H1 p (.rng 0 n)) w1 := fun a x e nn => ⟨by rw [x0w (ne a x e)]; exact e, nn⟩
        have nw : ∀ a o, w1 a = some o -> a ≠ p := fun a o e => by obtain ⟨vs, q⟩ := g1.wl a o e; exact ne a _ q
        have g2 : Good K ρ' σ (upd H1 p (.rng 0 n)) w1 t := ⟨fun a o e => by
          obtain ⟨us, q⟩ := g1.wl a o e
          exact ⟨us, by rw [x0w (nw a o e)]; exact q⟩, g1.ws, g1.wt, g1.len, fun i d q e => by
          obtain ⟨v, F, h1, h2⟩ := g1.slot i d q e
          exact ⟨v, F, h1, Rep.go g1.wl st h2 fun a m => ⟨x0w (nw a _ (h2.owns a m)), h2.owns a m⟩⟩⟩
        have go2 : Go H1 w1 (upd H1 p (.rng 0 n)) w1 := ⟨st, fun a o e _ => ⟨x0w (nw a o e), e⟩⟩
        obtain ⟨w', F, a1, a2, a3⟩ := al g2 hl (y4m n.toNat)
        exact k _ _ _ _ a1 ((go1.trans go2).trans a2) a3
      · cases h1
    · cases h1
  · cases ee
theorem y9u (hc : X.calm = true) (hm : X.mg "list" = none) (hb : bootBuiltins "list" = some (.type "list")) (hmr : X.mg "range" = none) (ha : PDA X [a] g) (hg : Gl X "list" := by rfl) (hgr : Gl X "range" := by rfl) (hs : starEach [a] X.env = [(false, eval a X.env)] := by rfl)
    (he : starEach [.Call (.Name "range" p1) [a] [] pos1] X.env = (false, eval (.Call (.Name "range" p1) [a] [] pos1) X.env) :: starEach [] X.env := by rfl) (hpl : (backTo pos (starEach [] X.env)).any (·.1) = false := by rfl) : PD X (.Call (.Name "list" p) [.Call (.Name "range" p1) [a] [] pos1] [] pos) (x69 g) :=
  PE.imp (x70 (y08 hc) hg hm hb (x4c (y3t hgr hmr ha hs) x7v he) (by decide) (by decide) he hpl) (y28 fun g hp r => by
    obtain ⟨a1, a2, a3⟩ := y6f g hp r
    exact ⟨_, _, a1, a2, a3⟩)
theorem z1m (hc : X.calm = true) (hm : X.mg "tuple" = none) (hb : bootBuiltins "tuple" = some (.type "tuple")) (hmr : X.mg "range" = none) (ha : PDA X [a] g) (hg : Gl X "tuple" := by rfl) (hgr : Gl X "range" := by rfl) (hs : starEach [a] X.env = [(false, eval a X.env)] := by rfl)
    (he : starEach [.Call (.Name "range" p1) [a] [] pos1] X.env = (false, eval (.Call (.Name "range" p1) [a] [] pos1) X.env) :: starEach [] X.env := by rfl) (hpl : (backTo pos (starEach [] X.env)).any (·.1) = false := by rfl) : PD X (.Call (.Name "tuple" p) [.Call (.Name "range" p1) [a] [] pos1] [] pos) (z18 g) :=
  PE.imp (x70 (x9h hc) hg hm hb (x4c (y3t hgr hmr ha hs) x7v he) (by decide) (by decide) he hpl) (y28 fun g hp r => by
    obtain ⟨a1, a2, a3⟩ := y1o g hp r
    exact ⟨_, _, a1, a2, a3⟩)
end
end L3
namespace L3
open PySem PySem.Spec PyProof.Rows L2
theorem x89 {M : Model} {A : Around} {E : Value -> Shared -> Prop} {s : Shared} {β : Type} {n : Nat} (f : Nat -> β -> Sem (ForInStep β)) (I : List Nat -> β -> Shared -> Prop) (Q : β -> Shared -> Prop) (b : β)
    (turn : ∀ x x2n b s, I (x :: x2n) b s -> wpAny M A (f x b) (fun r s' => match r with | .yield b' => I x2n b' s' | .done b' => Q b' s') E s)
    (fin : ∀ b s, I [] b s -> Q b s) (h : I (List.range' 0 n 1) b s) : wpAny M A (forIn [0:n] b f) Q E s := by
  rw [Std.Legacy.Range.forIn_eq_forIn_range']
  refine wpAny_forIn_list f I Q turn fin _ b ?_
  have e : (Std.Legacy.Range.size [0:n]) = n := by simp [Std.Legacy.Range.size]
  show I (List.range' 0 (Std.Legacy.Range.size [0:n]) 1) b s
  rw [e]
  exact h
open AutoSeq1 (wpAny_loadPart') in
theorem y0p (l : Addr) (items : Array Value) (n : Nat) (dd : Option Addr) (sl : Array (Option Value)) (x : Value) (e : Value -> Bool) (j : Nat) (hj : j < items.size) (hit : e items[j] = true) (hno : ∀ m (hm : m < items.size), m < j -> e items[m] = false) :
    Meets (Builtin.«tuple.index» ⟨[.ref l, x], []⟩)
      (fun A R s => s.heap.get? l = some { cls := .type "tuple", dict := dd, data := .seq items n, slots := sl } /\ (∀ y, y ∈ items -> SeqAt.EqAt A.in1 s y x (e y)) /\ R (.ok (.ret (.int j s.toks))) { s with toks := s.toks + 1 }) :=
  .of_wp fun prog w A R s h => by
    obtain ⟨hp, g, d, tk, os⟩ := s; obtain ⟨hl, he, h⟩ := h
    wp_walk using wpAny_loadPart' hl, x89 _ (fun x2n b s' => b.1 = none /\ s' = ⟨hp, g, d, tk, os⟩ /\ ∃ i k, x2n = List.range' i k 1 /\ i + k = items.size /\ i <= j) _
    case turn =>
      rintro y x2n b s' ⟨hb, rfl, i, k, hr, hik, hij⟩
      cases k with
      | zero => simp at hr
      | succ k =>
        rw [List.range'_succ] at hr
        obtain ⟨rfl, rfl⟩ := List.cons.inj hr
        have hlt : y < items.size := by omega
        have hget : items[y]? = some items[y] := by simp [hlt]
        rw [hget]
        refine wpAny_bind (he _ (Array.getElem_mem hlt) prog w _ _ ?_)
        by_cases hyj : y = j
        · subst hyj
          rw [hit]
          wp_walk
          exact ⟨_, rfl, h⟩
        · rw [hno y hlt (by omega)]
          wp_walk
          exact ⟨rfl, rfl, y + 1, k, rfl, by omega, by omega⟩
    case fin =>
      rintro ⟨b1, b2⟩ s' ⟨hb, rfl, i, k, hr, hik, hij⟩
      cases k with
      | zero => omega
      | succ k => simp [List.range'_succ] at hr
    case h =>
      exact ⟨rfl, rfl, 0, items.size, by simp, by omega, by omega⟩
end L3
namespace L3
open PySem PySem.Spec PyProof.Rows L2
noncomputable def z3o (d : D) (ds : List D) : Option Nat := (x5x ds).findIdx? fun y => PyData.eqv y (toP d)
noncomputable def z1h (K : PySem.W.Frag) : V -> List V -> Hp -> VK -> Prop := fun x xs H Q => ∃ ds d y j, xs = [y] /\ Is K H (.tup ds) x /\ Is K H d y /\ okD (.tup ds) = true /\ okD d = true /\ z3o d ds = some j /\ Q (.int (Int.ofNat j)) H
section
variable {X : Cx} {a b c e : Expr} {es : List Expr} {fa fb fc f : Den} {g : x1v} {pos p p1 p2 cpos apos : Pos}
theorem y6q (hu : X.A.units + 65 < cLine) : MtR X "tuple.index" (z1h X.K) := by
  intro pins s σ H x xs v us Q I rx rs ⟨ds, d, y, j, e, ⟨w, o, q, F, h1⟩, ⟨w', o', q', F', h2⟩, k1, k2, hj, hq⟩
  subst e
  obtain ⟨u, rfl, ru⟩ := y11 rs
  obtain ⟨as, ra⟩ := h1.reads I rx (x82 k1)
  obtain ⟨bs, rb⟩ := h2.reads I ru (x82 k2)
  replace k1 := x85 k1
  replace k2 := x85 k2
  unfold toP at ra k1
  have hc1 : PyData.canLayAll0 (x5x ds) = true := SeqAt.canLay_of_shaped k1
  have hc2 := SeqAt.canLay_of_shaped k2
  cases ra with
  | @tuple a ob vs n _ _ ho hcl hd hrs =>
    obtain ⟨cls, dd, data, sl⟩ := ob
    simp only at hcl hd
    subst hcl hd
    have hmap := SeqAt.readsAll_map _ _ _ hc1 hrs
    have hfi := List.findIdx?_eq_some_iff_getElem.mp hj
    obtain ⟨hjl, hjt, hjf⟩ := hfi
    have hlen : vs.size = (x5x ds).length := by rw [<- hmap]; simp
    have hat : ∀ m (hm : m < vs.size) (hm' : m < (x5x ds).length), SeqAt.readOf s.heap vs[m] = (x5x ds)[m] := fun m hm hm' => by
      have : (vs.toList.map (SeqAt.readOf s.heap))[m]? = (x5x ds)[m]? := by rw [hmap]
      simpa [hm, hm'] using this
    refine call_meets PySem.F.slot_tuple_index ⟨_, ho, rfl⟩ PySem.F.entry_tuple_index (PySem.F.args_tuple_index_2 _ _)
      (y0p a vs n dd sl u (fun y => PyData.eqv (SeqAt.readOf s.heap y) (toP d)) j (by omega) (by rw [hat j (by omega) hjl]; simpa using hjt) (fun m hm hmj => by rw [hat m hm (by omega)]; simpa using hjf m hmj)) ⟨ho, SeqAt.items_eqAt hrs rb hc1 hc2 (room_in_shaped k2 hu), ?_⟩
    exact ⟨.int (Int.ofNat j), H, I.tok _, ⟨_, rfl⟩, hq⟩
@[simp] noncomputable def y3z (fo : Den) (g : x1v) : Den := fun ρ => match fo ρ with
  | some (.tup ds, _, ρ1) => match g ρ1 with
    | some ([d], ρ2) => if okD (.tup ds) = true /\ okD d = true then match z3o d ds with
      | some j => some (.int (Int.ofNat j), 9, ρ2)
      | none => none
      else none
    | _ => none
  | _ => none
theorem z07 {k : Nat} (hr : Room k X.A) (ho : PD X a fa) (ha : PDA X [e] g)
    (hbase : attributeBase a "index" X.env (eval a X.env) = eval a X.env := by rfl)
    (hfew : ((backTo cpos (starEach [e] X.env)).all (fun x => !x.1) && (backToKw cpos (keywordEach [] X.env)).all (fun x => x.1.isSome)
      && decide ([e].length + ([] : List Keyword).length + (if ([] : List Keyword).isEmpty then 0 else 1) < 30)) = true := by rfl)
    (hline : (apos.endLine == cpos.line) = true := by rfl) (hs : starEach [e] X.env = (false, eval e X.env) :: starEach [] X.env := by rfl) (hplain : (backTo cpos (starEach [] X.env)).any (·.1) = false := by rfl) :
    PD X (.Call (.Attribute a "index" apos) [e] [] cpos) (y3z fa g) :=
  PE.imp (y4y PySem.F.plainAttrs_tuple PySem.F.slot_tuple_index PySem.F.type_tuple_index (y6q (u65 hr)) ho ha hbase hfew hline hs hplain) fun σ H Q hh0 => by
  obtain ⟨ρ, w, t, r', q, ρ', gd, ee, k⟩ := hh0
  unfold y3z at ee
  split at ee
  · rename_i ds q1 ρ1 h1
    split at ee
    · rename_i d ρ2 h2
      split at ee
      · rename_i hok
        split at ee
        · rename_i j hj
          cases ee
          refine ⟨ρ, w, t, _, _, _, gd, h1, fun v H1 w1 F1 g1 go1 r1 => ?_⟩
          have r0 := r1.drop (o := .f) (Nat.le_refl t)
          have gg := g1.drop (t' := t)
          obtain ⟨p0, vs, rfl, hq, rs⟩ := r0.tupAt
          refine ⟨?_, ρ1, x21 t w1, t, _, _, gg, h2, fun vs2 H2 w2 g2 go2 r2 => ?_⟩
          · exact .inr (.inl ⟨rfl, .inr ⟨_, hq⟩⟩)
          · obtain ⟨v2, rfl, rv2⟩ := one r2
            have r3 : Rep X.K H2 w2 .f 0 (.tup ds) (.ref p0) [] := r0.go0 gg.wl go2.stab
            exact ⟨ds, d, v2, j, rfl, ⟨_, _, _, _, r3⟩, ⟨_, _, _, _, rv2⟩, hok.1, hok.2, hj, k _ H2 w2 [] g2.up ((go1.drop gd.wt).trans go2) (.int _)⟩
        · cases ee
      · cases ee
    · cases ee
  · cases ee
theorem Good.mut {K : PySem.W.Frag} {ρ : Rho} {σ : St} {H : Hp} {w : Wn} {t i : Nat} {ds : List D} (g : Good K ρ σ H w t) (e : ρ[i]? = some (some (.lst ds, 1))) :
    ∃ l vs, σ[i]? = some (some (.ref l)) /\ H l = some (.lst vs) /\ Reps K H w .f 0 ds vs [] /\ ∀ ds' vs', Reps K H w .f 0 ds' vs' [] ->
      Good K (ρ.set i (some (.lst ds', 1))) σ (upd H l (.lst vs')) w t /\ Go H w (upd H l (.lst vs')) w := by
  obtain ⟨v, F, h1, h2⟩ := g.slot i _ _ e
  cases h2 with
  | @own _ l vs _ F' hl hw rs ne =>
    have hF := rs.zero
    subst hF
    refine ⟨l, vs, h1, hl, rs.any g.wl, fun ds' vs' r' => ?_⟩
    have nl : ∀ a o, w a = some o -> o ≠ .s i -> a ≠ l := fun a o e n z => by subst z; rw [hw] at e; exact n (Option.some.inj e).symm
    have nn : ∀ a, w a = none -> a ≠ l := fun a e z => by subst z; rw [hw] at e; cases e
    have st : x76 H w (upd H l (.lst vs')) w := fun a x h n => ⟨by rw [x0w (nn a n)]; exact h, n⟩
    refine ⟨⟨fun a o h => ?_, g.ws, g.wt, by rw [List.length_set]; exact g.len, fun j d' q' e' => ?_⟩, ⟨st, fun a o h n => ⟨x0w (nl a o h (n i)), h⟩⟩⟩
    · by_cases z : a = l
      · subst z; exact ⟨_, x2h⟩
      · obtain ⟨us, q⟩ := g.wl a o h
        exact ⟨us, by rw [x0w z]; exact q⟩
    · by_cases hj : i = j
      · subst hj
        rw [List.getElem?_set_self (List.getElem?_eq_some_iff.mp e).1] at e'
        cases e'
        exact ⟨_, _, h1, .own x2h hw (Reps.go g.wl st r' (fun _ z => nomatch z)) (fun z => nomatch z)⟩
      · rw [List.getElem?_set_ne hj] at e'
        obtain ⟨v', F', h1', h2'⟩ := g.slot j d' q' e'
        exact ⟨v', F', h1', Rep.go g.wl st h2' fun a m => ⟨x0w (nl a _ (h2'.owns a m) (fun z => hj (by cases z; rfl))), h2'.owns a m⟩⟩
@[simp] noncomputable def y73 : Option (Option (D × Nat)) -> Bool
  | some (some (.lst _, _)) => true
  | _ => false
theorem Good.isL {K : PySem.W.Frag} {ρ : Rho} {σ : St} {H : Hp} {w : Wn} {t i : Nat} (g : Good K ρ σ H w t) (h : y73 ρ[i]? = true) : ∃ l, σ[i]? = some (some (.ref l)) /\ ∃ vs, SqL K H l vs := by
  unfold y73 at h
  split at h
  · rename_i ds q e
    obtain ⟨v, F, h1, h2⟩ := g.slot i _ _ e
    obtain ⟨p, vs, _, _, rfl, hq, _⟩ := h2.seqL
    exact ⟨p, h1, vs, hq⟩
  · cases h
@[simp] noncomputable def z1j (i : Nat) (g : x1v) : Den := fun ρ => if y73 ρ[i]? = true then match g ρ with
  | some ([d], ρ1) => match ρ1[i]? with
    | some (some (.lst ds, 1)) => if ds.length <= 1000 then some (.non, 9, ρ1.set i (some (.lst (ds ++ [d]), 1))) else none
    | _ => none
  | _ => none
  else none
theorem y5h {i : Nat} {x : Str} (h : PE X (.Name x p1) (x9i i)) (ha : PDA X [e] g)
    (hbase : attributeBase (.Name x p1) "append" X.env (eval (.Name x p1) X.env) = eval (.Name x p1) X.env := by rfl)
    (hfew : ((backTo cpos (starEach [e] X.env)).all (fun x => !x.1) && (backToKw cpos (keywordEach [] X.env)).all (fun x => x.1.isSome)
      && decide ([e].length + ([] : List Keyword).length + (if ([] : List Keyword).isEmpty then 0 else 1) < 30)) = true := by rfl)
    (hline : (apos.endLine == cpos.line) = true := by rfl) (hs : starEach [e] X.env = (false, eval e X.env) :: starEach [] X.env := by rfl) (hplain : (backTo cpos (starEach [] X.env)).any (·.1) = false := by rfl) :
    PD X (.Call (.Attribute (.Name x p1) "append" apos) [e] [] cpos) (z1j i g) :=
  PE.imp (y4y PySem.F.plainAttrs_list PySem.F.slot_list_append PySem.F.type_list_append y72 h ha hbase hfew hline hs hplain) fun σ H Q hh0 => by
  obtain ⟨ρ, w, t, r', q, ρ', gd, ee, k⟩ := hh0
  unfold z1j at ee
  split at ee
  · rename_i hl
    obtain ⟨l, hσ, us, hq⟩ := gd.isL hl
    split at ee
    · rename_i d ρ1 h1
      split at ee
      · rename_i ds e1
        split at ee
        · rename_i hlen
          cases ee
          refine ⟨_, hσ, .inl ⟨rfl, us, hq⟩, ρ, w, t, _, _, gd, h1, fun vs H1 w1 g1 go1 r1 => ?_⟩
          obtain ⟨v, rfl, rv⟩ := one r1
          obtain ⟨l', ws, hσ', hH, rs, mk⟩ := g1.mut e1
          rw [hσ] at hσ'
          cases hσ'
          have r2 : Reps X.K H1 w1 .f 0 (ds ++ [d]) (ws ++ [v]) [] := Reps.snoc (F := []) (G := []) rv rs (fun _ z => nomatch z)
          obtain ⟨m1, m2⟩ := mk _ _ r2
          refine ⟨l, ws, v, rfl, rfl, hH, by rw [<- rs.length]; exact x3i hlen, ?_⟩
          exact k .non _ w1 [] m1.up (go1.trans m2) .non
        · cases ee
      · cases ee
    · cases ee
  · cases ee
theorem Reps.eraseIdx {K : PySem.W.Frag} {H : Hp} {w : Wn} : ∀ {ds : List D} {vs : List V} (i : Nat), Reps K H w .f 0 ds vs [] -> Reps K H w .f 0 (ds.eraseIdx i) (vs.eraseIdx i) []
  | ds, vs, i, r => by
    generalize hF : ([] : List Addr) = F at r
    cases r with
    | nil => exact .nil
    | @cons _ d v ds vs F G r s _ =>
      have h1 : F = [] := r.zero
      have h2 : G = [] := s.zero
      subst h1 h2
      cases i with
      | zero => exact s
      | succ j => exact .cons (F := []) (G := []) r (Reps.eraseIdx j s) (fun _ z => nomatch z)
@[simp] noncomputable def y7t (i : Nat) (g : x1v) : Den := fun ρ => if y73 ρ[i]? = true then match g ρ with
  | some ([.int n], ρ1) => match ρ1[i]? with
    | some (some (.lst ds, 1)) => if -1000 <= n /\ n <= 1000 then match seqIndex? n ds.length with
      | some j => match ds[j]? with
        | some d => some (d, x2e d, ρ1.set i (some (.lst (ds.eraseIdx j), 1)))
        | none => none
      | none => none
      else none
    | _ => none
  | _ => none
  else none
theorem z6e {i : Nat} {x : Str} (h : PE X (.Name x p1) (x9i i)) (ha : PDA X [e] g)
    (hbase : attributeBase (.Name x p1) "pop" X.env (eval (.Name x p1) X.env) = eval (.Name x p1) X.env := by rfl)
    (hfew : ((backTo cpos (starEach [e] X.env)).all (fun x => !x.1) && (backToKw cpos (keywordEach [] X.env)).all (fun x => x.1.isSome)
      && decide ([e].length + ([] : List Keyword).length + (if ([] : List Keyword).isEmpty then 0 else 1) < 30)) = true := by rfl)
    (hline : (apos.endLine == cpos.line) = true := by rfl) (hs : starEach [e] X.env = (false, eval e X.env) :: starEach [] X.env := by rfl) (hplain : (backTo cpos (starEach [] X.env)).any (·.1) = false := by rfl) :
    PD X (.Call (.Attribute (.Name x p1) "pop" apos) [e] [] cpos) (y7t i g) :=
  PE.imp (y4y PySem.F.plainAttrs_list PySem.F.slot_list_pop PySem.F.type_list_pop y83 h ha hbase hfew hline hs hplain) fun σ H Q hh0 => by
  obtain ⟨ρ, w, t, r', q, ρ', gd, ee, k⟩ := hh0
  unfold y7t at ee
  split at ee
  · rename_i hl
    obtain ⟨l, hσ, us, hq⟩ := gd.isL hl
    split at ee
    · rename_i n ρ1 h1
      split at ee
      · rename_i ds e1
        split at ee
        · rename_i hn
          split at ee
          · rename_i j hj
            split at ee
            · rename_i d hd
              cases ee
              refine ⟨_, hσ, .inl ⟨rfl, us, hq⟩, ρ, w, t, _, _, gd, h1, fun vs H1 w1 g1 go1 r1 => ?_⟩
              obtain ⟨v, rfl, rv⟩ := one r1
              have hv := x3h rv
              subst hv
              obtain ⟨l', ws, hσ', hH, rs, mk⟩ := g1.mut e1
              rw [hσ] at hσ'
              cases hσ'
              obtain ⟨y, hy, ry⟩ := rs.get hd
              obtain ⟨m1, m2⟩ := mk _ _ (rs.eraseIdx j)
              refine ⟨l, ws, n, j, y, rfl, rfl, hH, by omega, by omega, by rw [<- rs.length]; exact hj, hy, ?_⟩
              have ry' : Rep X.K _ w1 (.t t) 0 r' y [] := Rep.go g1.wl m2.stab ry (fun _ z => nomatch z)
              exact k y _ w1 [] m1.up (go1.trans m2) ry'.dep
            · cases ee
          · cases ee
        · cases ee
      · cases ee
    · cases ee
  · cases ee
end
theorem Reps.getQ {K : PySem.W.Frag} {H : Hp} {w : Wn} {o : Ow} {q : Nat} : ∀ {ds : List D} {vs : List V} {F : List Addr} {i : Nat} {d : D}, Reps K H w o q ds vs F -> ds[i]? = some d -> ∃ v G, vs[i]? = some v /\ Rep K H w o q d v G /\ ∀ a ∈ G, a ∈ F
  | _, _, _, _, _, .nil, e => by simp at e
  | _, _, _, 0, _, .cons r _ _, e => by
    simp at e; subst e; exact ⟨_, _, rfl, r, fun a m => List.mem_append_left _ m⟩
  | _, _, _, i + 1, d, .cons _ s _, e => by
    obtain ⟨v, G, h1, h2, h3⟩ := Reps.getQ (i := i) (d := d) s (by simpa using e)
    exact ⟨v, G, by simpa using h1, h2, fun a m => List.mem_append_right _ (h3 a m)⟩
theorem Reps.atQ {K : PySem.W.Frag} {H : Hp} {w : Wn} {o : Ow} {q : Nat} {ds : List D} {vs : List V} {F : List Addr} {i : Int} {d : D} (r : Reps K H w o q ds vs F) (h : L2.atI ds i = some d) : ∃ v G, L2.atI vs i = some v /\ Rep K H w o q d v G /\ ∀ a ∈ G, a ∈ F := by
  unfold L2.atI at h ⊢
  rw [<- r.length]
  cases e : ixN ds.length i with
  | none => rw [e] at h; cases h
  | some j =>
    rw [e] at h
    exact r.getQ h
@[simp] noncomputable def x1l (n : Nat) (fb : Den) : Den := fun ρ => match ρ[n]? with
  | some (some _) => match fb ρ with
    | some (.int i, _, ρ2) => match ρ2[n]? with
      | some (some (x, q)) => match atD x i with
        | some d => if d.isL = true /\ 1 < q /\ x.isL = true then none else some (d, x2e d, ρ2)
        | none => none
      | _ => none
    | _ => none
  | _ => none
section
variable {X : Cx} {a b c e : Expr} {es : List Expr} {fa fb fc f : Den} {g : x1v} {pos p p1 p2 cpos apos : Pos}
theorem z5k {n : Nat} {x : Str} (h : PE X (.Name x p1) (x9i n)) (hb : PD X b fb) (hs : x5b b := by exact fun _ _ => rfl) : PD X (.Subscript (.Name x p1) b pos) (x1l n fb) := PE.imp (y8w y3y h hb hs) fun σ H Q hh0 => by
  obtain ⟨ρ, w, t, r', q, ρ', gd, ee, k⟩ := hh0
  unfold x1l at ee
  split at ee
  · rename_i z0 e0
    obtain ⟨d0, q0⟩ := z0
    obtain ⟨v, F, hσ, _⟩ := gd.slot n d0 q0 e0
    split at ee
    · rename_i i q2 ρ2 h2
      split at ee
      · rename_i x q e2
        split at ee
        · rename_i d hd
          split at ee
          · cases ee
          · rename_i hn
            cases ee
            refine ⟨v, hσ, ρ, w, t, _, _, _, gd, h2, fun y H2 w2 F2 g2 go r2 => ?_⟩
            have hy := x3h r2
            subst hy
            have gg := g2.drop (t' := t)
            obtain ⟨v', F', hσ', rr⟩ := gg.slot n x q e2
            rw [hσ] at hσ'
            cases hσ'
            have fin : ∀ u, Rep X.K H2 (x21 t w2) (.t t) 0 r' u [] -> Q u H2 := fun u ru => k u H2 (x21 t w2) [] gg.up (go.drop gd.wt) ru.dep
            cases x with
            | lst ds =>
              by_cases hq0 : q = 0
              · subst hq0
                obtain ⟨p0, vs, rfl, hq, rs⟩ := rr.seqL0
                obtain ⟨u, hu, ru⟩ := rs.atI hd
                exact .inl ⟨p0, vs, i, u, rfl, rfl, hq, hu, fin u (ru.any gg.wl)⟩
              · by_cases hq1 : q = 1
                · subst hq1
                  cases rr with
                  | own h0 _ rs _ =>
                    have z0 := rs.zero
                    subst z0
                    obtain ⟨u, hu, ru⟩ := rs.atI hd
                    exact .inl ⟨_, _, i, u, rfl, rfl, SqL.of h0, hu, fin u (ru.any gg.wl)⟩
                · obtain ⟨p0, vs, q', G, rfl, hq, rs⟩ := rr.seqL
                  obtain ⟨u, G', hu, ru, _⟩ := rs.atQ hd
                  refine .inl ⟨p0, vs, i, u, rfl, rfl, hq, hu, fin u ?_⟩
                  cases hL : r'.isL with
                  | false => exact ((ru.nolist hL).2 0).any gg.wl
                  | true => exact absurd ⟨hL, by omega, rfl⟩ hn
            | tup ds =>
              obtain ⟨p0, vs, rfl, hq, rs⟩ := rr.seqT
              obtain ⟨u, hu, ru⟩ := rs.atI hd
              exact .inr (.inl ⟨p0, vs, i, u, rfl, rfl, hq, hu, fin u (ru.any gg.wl)⟩)
            | _ => cases hd
        · cases ee
      · cases ee
    · cases ee
  · cases ee
@[simp] noncomputable def x9d (fa fb : Den) : Den := fun ρ => match fa ρ with
  | some (.lst ds, 1, ρ1) => match fb ρ1 with
    | some (.int n, _, ρ2) => if -1000 <= n /\ n <= 1000 /\ ds.length * n.toNat <= 1000 then some (.lst (List.replicate n.toNat ds).flatten, 1, ρ2) else none
    | _ => none
  | _ => none
theorem Reps.app {K : PySem.W.Frag} {H : Hp} {w : Wn} {es : List D} {us : List V} (s : Reps K H w .f 0 es us []) : ∀ {ds : List D} {vs : List V}, Reps K H w .f 0 ds vs [] -> Reps K H w .f 0 (ds ++ es) (vs ++ us) []
  | ds, vs, r => by
    generalize hF : ([] : List Addr) = F at r
    cases r with
    | nil => rw [<- hF]; exact s
    | @cons _ d v ds vs F G r t _ =>
      have h1 : F = [] := r.zero
      have h2 : G = [] := t.zero
      subst h1 h2
      exact .cons (F := []) (G := []) r (Reps.app s t) (fun _ z => nomatch z)
theorem Reps.times {K : PySem.W.Frag} {H : Hp} {w : Wn} {ds : List D} {vs : List V} (r : Reps K H w .f 0 ds vs []) : ∀ n : Nat, Reps K H w .f 0 (List.replicate n ds).flatten (List.replicate n vs).flatten []
  | 0 => .nil
  | n + 1 => by
    rw [List.replicate_succ, List.replicate_succ, List.flatten_cons, List.flatten_cons]
    exact Reps.app (Reps.times r n) r
theorem z26 (ha : PD X a fa) (hb : PD X b fb) : PD X (.BinOp a .Mult b pos) (x9d fa fb) := PE.imp (y4l z5c ha hb) fun σ H Q hh0 => by
  obtain ⟨ρ, w, t, r', q, ρ', gd, ee, k⟩ := hh0
  unfold x9d at ee
  split at ee
  · rename_i ds ρ1 h1
    split at ee
    · rename_i n q2 ρ2 h2
      split at ee
      · rename_i hn
        cases ee
        refine z3t gd h1 h2 fun u u' H2 w2 F1 F2 g2 go r1 r2 => ?_
        have hu' := x3h r2
        subst hu'
        cases r1 with
        | @own _ l vs _ F hl hw rs ne =>
          have hF := rs.zero
          subst hF
          have gg := g2.drop (t' := t)
          have rs' : Reps X.K H2 (x21 t w2) .f 0 ds vs [] := Reps.go g2.wl (fun a x h n => ⟨h, x65 n⟩) rs (fun _ z => nomatch z)
          refine ⟨l, n, vs, rfl, rfl, hl, by omega, by omega, ?_, fun p hp => ?_⟩
          · rw [<- rs.length]; exact y27 hn.2.2
          · obtain ⟨a1, a2, a3⟩ := y6f gg hp (rs'.times n.toNat)
            exact k _ _ _ _ a1 ((go.drop gd.wt).trans a2) a3
      · cases ee
    · cases ee
  · cases ee
end
theorem Reps.row {K : PySem.W.Frag} {H : Hp} {w : Wn} {o : Ow} (wl : WL w H) : ∀ {rows : List D} {vs : List V} {F : List Addr} {i : Nat} {row : List D}, Reps K H w o 1 rows vs F -> rows[i]? = some (.lst row) ->
    ∃ b ws, vs[i]? = some (.ref b) /\ H b = some (.lst ws) /\ w b = some o /\ b ∈ F /\ Reps K H w .f 0 row ws [] /\
      ∀ row' ws', Reps K H w .f 0 row' ws' [] -> Reps K (upd H b (.lst ws')) w o 1 (rows.set i (.lst row')) vs F
  | _, _, _, _, _, .nil, e => by simp at e
  | _, _, _, 0, row, .cons r s ne, e => by
    simp at e
    subst e
    cases r with
    | @own _ b ws _ F' hb hw rs nb =>
      have hF := rs.zero
      subst hF
      refine ⟨b, ws, rfl, hb, hw, by simp, rs.any wl, fun row' ws' r' => ?_⟩
      have nn : ∀ a, w a = none -> a ≠ b := fun a e z => by subst z; rw [hw] at e; cases e
      have st : x76 H w (upd H b (.lst ws')) w := fun a x h n => ⟨by rw [x0w (nn a n)]; exact h, n⟩
      refine .cons (.own x2h hw (Reps.go wl st r' (fun _ z => nomatch z)) (fun z => nomatch z)) (Reps.go wl st s fun a m => ⟨x0w fun z => ?_, s.owns a m⟩) ne
      subst z
      exact ne a (by simp) m
  | _, _, _, i + 1, row, .cons (d := d) (v := v) (F := F) (G := G) r s ne, e => by
    obtain ⟨b, ws, h1, h2, h3, h4, h5, mk⟩ := Reps.row wl (i := i) (row := row) s (by simpa using e)
    refine ⟨b, ws, by simpa using h1, h2, h3, List.mem_append_right _ h4, h5, fun row' ws' r' => ?_⟩
    have nn : ∀ a, w a = none -> a ≠ b := fun a e z => by subst z; rw [h3] at e; cases e
    have st : x76 H w (upd H b (.lst ws')) w := fun a x h n => ⟨by rw [x0w (nn a n)]; exact h, n⟩
    refine .cons (Rep.go wl st r fun a m => ⟨x0w fun z => ?_, r.owns a m⟩) (mk row' ws' r') ne
    subst z
    exact ne a m h4
theorem Good.mut2 {K : PySem.W.Frag} {ρ : Rho} {σ : St} {H : Hp} {w : Wn} {t i m : Nat} {rows row : List D} (g : Good K ρ σ H w t) (e : ρ[i]? = some (some (.lst rows, 2))) (em : rows[m]? = some (.lst row)) :
    ∃ l vs b ws, σ[i]? = some (some (.ref l)) /\ SqL K H l vs /\ vs.length = rows.length /\ vs[m]? = some (.ref b) /\ H b = some (.lst ws) /\ Reps K H w .f 0 row ws [] /\ ∀ row' ws', Reps K H w .f 0 row' ws' [] ->
      Good K (ρ.set i (some (.lst (rows.set m (.lst row')), 2))) σ (upd H b (.lst ws')) w t /\ Go H w (upd H b (.lst ws')) w := by
  obtain ⟨v, F, h1, h2⟩ := g.slot i _ _ e
  cases h2 with
  | @own _ l vs _ F' hl hw rs nl =>
    obtain ⟨b, ws, b1, b2, b3, b4, b5, mk⟩ := Reps.row g.wl rs em
    have hbl : l ≠ b := fun z => by subst z; exact nl b4
    refine ⟨l, vs, b, ws, h1, SqL.of hl, rs.length.symm, b1, b2, b5, fun row' ws' r' => ?_⟩
    have nl' : ∀ a o, w a = some o -> o ≠ .s i -> a ≠ b := fun a o e n z => by subst z; rw [b3] at e; exact n (Option.some.inj e).symm
    have nn : ∀ a, w a = none -> a ≠ b := fun a e z => by subst z; rw [b3] at e; cases e
    have st : x76 H w (upd H b (.lst ws')) w := fun a x h n => ⟨by rw [x0w (nn a n)]; exact h, n⟩
    refine ⟨⟨fun a o h => ?_, g.ws, g.wt, by rw [List.length_set]; exact g.len, fun j d' q' e' => ?_⟩, ⟨st, fun a o h n => ⟨x0w (nl' a o h (n i)), h⟩⟩⟩
    · by_cases z : a = b
      · subst z; exact ⟨_, x2h⟩
      · obtain ⟨us, q⟩ := g.wl a o h
        exact ⟨us, by rw [x0w z]; exact q⟩
    · by_cases hj : i = j
      · subst hj
        rw [List.getElem?_set_self (List.getElem?_eq_some_iff.mp e).1] at e'
        cases e'
        exact ⟨_, _, h1, .own (by rw [x0w hbl]; exact hl) hw (mk row' ws' r') nl⟩
      · rw [List.getElem?_set_ne hj] at e'
        obtain ⟨v', F', h1', h2'⟩ := g.slot j d' q' e'
        exact ⟨v', F', h1', Rep.go g.wl st h2' fun a m => ⟨x0w (nl' a _ (h2'.owns a m) (fun z => hj (by cases z; rfl))), h2'.owns a m⟩⟩
theorem Reps.set0 {K : PySem.W.Frag} {H : Hp} {w : Wn} {d : D} {v : V} (rv : Rep K H w .f 0 d v []) : ∀ {ds : List D} {vs : List V} (i : Nat), Reps K H w .f 0 ds vs [] -> Reps K H w .f 0 (ds.set i d) (vs.set i v) []
  | ds, vs, i, r => by
    generalize hF : ([] : List Addr) = F at r
    cases r with
    | nil => rw [<- hF]; exact .nil
    | @cons _ d' v' ds vs F G r s _ =>
      have h1 : F = [] := r.zero
      have h2 : G = [] := s.zero
      subst h1 h2
      cases i with
      | zero => exact .cons (F := []) (G := []) rv s (fun _ z => nomatch z)
      | succ j => exact .cons (F := []) (G := []) r (Reps.set0 rv j s) (fun _ z => nomatch z)
noncomputable abbrev y4h := Rho -> Option Int
noncomputable def tQ (K : PySem.W.Frag) (f : y4h) : TE := fun σ H Q => ∃ ρ w t i, Good K ρ σ H w t /\ f ρ = some i /\ Q (.int i) H
noncomputable abbrev PQ (X : Cx) (e : Expr) (f : y4h) : Prop := PE X e (tQ X.K f)
@[simp] noncomputable def y3a (n : Nat) : y4h := fun ρ => match ρ[n]? with
  | some (some (.int i, _)) => some i
  | _ => none
@[simp] noncomputable def qIx (n : Nat) (f : y4h) : y4h := fun ρ => match f ρ with
  | some i => match ρ[n]? with
    | some (some (x, _)) => match atD x i with
      | some (.int j) => some j
      | _ => none
    | _ => none
  | none => none
section
variable {X : Cx} {a b c e : Expr} {es : List Expr} {fa fb fc f : Den} {qa qb : y4h} {g : x1v} {pos p p1 p2 cpos apos : Pos}
theorem z4s {n : Nat} {x : Str} (h : PE X (.Name x p1) (x9i n)) : PQ X (.Name x p1) (y3a n) := PE.imp h fun σ H Q hh0 => by
  obtain ⟨ρ, w, t, i, gd, ee, k⟩ := hh0
  unfold y3a at ee
  split at ee
  · rename_i j q e0
    cases ee
    obtain ⟨v, F, h1, h2⟩ := gd.slot n _ _ e0
    rw [x3h h2] at h1
    exact ⟨_, h1, k⟩
  · cases ee
theorem z83 {n : Nat} {x : Str} (h : PE X (.Name x p1) (x9i n)) (hb : PQ X b qb) (hs : x5b b := by exact fun _ _ => rfl) : PQ X (.Subscript (.Name x p1) b pos) (qIx n qb) := PE.imp (y8w y3y h hb hs) fun σ H Q hh0 => by
  obtain ⟨ρ, w, t, i, gd, ee, k⟩ := hh0
  unfold qIx at ee
  split at ee
  · rename_i i0 h0
    split at ee
    · rename_i x q e0
      split at ee
      · rename_i j hj
        cases ee
        obtain ⟨v, F, h1, h2⟩ := gd.slot n _ _ e0
        refine ⟨v, h1, ρ, w, t, i0, gd, h0, ?_⟩
        cases x with
        | lst ds =>
          obtain ⟨p0, vs, q', G, rfl, hq, rs⟩ := h2.seqL
          obtain ⟨u, G', hu, ru, _⟩ := rs.atQ hj
          rw [x3h ru] at hu
          exact .inl ⟨p0, vs, i0, _, rfl, rfl, hq, hu, k⟩
        | tup ds =>
          obtain ⟨p0, vs, rfl, hq, rs⟩ := h2.seqT
          obtain ⟨u, hu, ru⟩ := rs.atI hj
          rw [x3h ru] at hu
          exact .inr (.inl ⟨p0, vs, i0, _, rfl, rfl, hq, hu, k⟩)
        | _ => cases hj
      · cases ee
    · cases ee
  · cases ee
@[simp] noncomputable def x9l (n : Nat) (qi qj : y4h) (fe : Den) : x22 := fun ρ => match fe ρ with
  | some (d, _, ρ1) => match qi ρ1, qj ρ1, ρ1[n]? with
    | some i, some j, some (some (.lst rows, 2)) => match ixN rows.length i with
      | some m => match rows[m]? with
        | some (.lst row) => match ixN row.length j with
          | some k => some (.nx (ρ1.set n (some (.lst (rows.set m (.lst (row.set k d))), 2))))
          | none => none
        | _ => none
      | none => none
    | _, _, _ => none
  | none => none
theorem y9a {n : Nat} {x : Str} (h : PE X (.Name x p1) (x9i n)) (ha : PQ X a qa) (hb : PQ X b qb) (he : PD X e f) (hi : x5b a := by exact fun _ _ => rfl)
    (hasg : ∀ v, assign (.Subscript (.Subscript (.Name x p1) a p2) b p) X.env v = (do
      let ov <- holding [v] (eval (.Subscript (.Name x p1) a p2) X.env)
      let iv <- holding [v, ov] (eval b X.env)
      standAt p
      holding [v, ov, iv] (setItem ov iv v)
      release [v, ov, iv] []) := by exact fun _ => rfl)
    (hs : swapsWithSole [.Subscript (.Subscript (.Name x p1) a p2) b p] e pos.line X.env = pure false := by rfl) :
    PDS X (.Assign [.Subscript (.Subscript (.Name x p1) a p2) b p] e pos) (x9l n qa qb f) := by
  refine PS.imp (z0x he (z57 (y8w y3y h ha hi) hb y9i hasg) hs) fun D σ H ⟨ρ, w, o, gd, ee, k⟩ => ?_
  unfold x9l at ee
  split at ee
  · rename_i d q0 ρ1 h1
    split at ee
    · rename_i i j rows hi hj er
      split at ee
      · rename_i m hm
        split at ee
        · rename_i row erow
          split at ee
          · rename_i kk hk
            cases ee
            refine ⟨ρ, w, 0, d, q0, ρ1, gd, h1, fun v H1 w1 F1 g1 go1 r1 => ?_⟩
            have rv := r1.drop (o := .f) (Nat.le_refl 0)
            have gg := g1.drop (t' := 0)
            obtain ⟨l, vs, b0, ws, m1, m2, m3, m4, m5, m6, mk⟩ := gg.mut2 er erow
            refine ⟨_, m1, ρ1, x21 0 w1, 0, i, gg, hi, .inl ⟨l, vs, i, .ref b0, rfl, rfl, m2, ?_, ρ1, x21 0 w1, 0, j, gg, hj, b0, ws, j, kk, rfl, rfl, m5, ?_, ?_⟩⟩
            · unfold atI; rw [m3, hm]; exact m4
            · rw [<- m6.length]; exact hk
            · obtain ⟨n1, n2⟩ := mk _ _ (m6.set0 rv kk)
              exact k _ _ _ rfl n1 ((go1.drop gd.wt).trans n2)
          · cases ee
        · cases ee
      · cases ee
    · cases ee
  · cases ee
end
@[simp] noncomputable def y7r (fa fb : Den) : Den := fun ρ => match fa ρ with
  | some (.bl b, _, ρ1) => if b = true then fb ρ1 else some (.bl false, 9, ρ1)
  | _ => none
@[simp] noncomputable def z70 (fa : Den) : Den := fun ρ => match fa ρ with
  | some (.bl b, _, ρ1) => some (.bl (!b), 9, ρ1)
  | _ => none
section
variable {X : Cx} {a b c e : Expr} {es x2n : List Expr} {fa fb fc f : Den} {g : x1v} {pos p p1 p2 cpos apos : Pos}
theorem z42 {op} (h : PD X a fa) : PD X (.BoolOp op [a] pos) fa := z6l h
theorem z4c (ha : PD X a fa) (hb : PD X (.BoolOp .And (b :: x2n) pos) fb) : PD X (.BoolOp .And (a :: b :: x2n) pos) (y7r fa fb) := PE.imp (z4i ha hb) fun σ H Q hh0 => by
  obtain ⟨ρ, w, t, r', q, ρ', gd, ee, k⟩ := hh0
  unfold y7r at ee
  split at ee
  · rename_i b' q1 ρ1 h1
    refine ⟨ρ, w, t, _, _, _, gd, h1, fun v H1 w1 F1 g1 go1 r1 => ?_⟩
    cases r1
    refine ⟨b', rfl, ?_⟩
    split at ee
    · rename_i hb; rw [if_pos hb]
      exact ⟨ρ1, x21 t w1, t, r', q, ρ', g1.drop, ee, fun v H2 w2 F g2 go2 => k v H2 w2 F g2 ((go1.drop gd.wt).trans go2)⟩
    · rename_i hb; rw [if_neg hb]
      cases ee
      exact k _ H1 w1 [] g1 go1 (.bl false)
  · cases ee
theorem z53 (ha : PD X a fa) : PD X (.UnaryOp .Not a pos) (z70 fa) := PE.imp (z49 ha) fun σ H Q hh0 => by
  obtain ⟨ρ, w, t, r', q, ρ', gd, ee, k⟩ := hh0
  unfold z70 at ee
  split at ee
  · rename_i b' q1 ρ1 h1
    cases ee
    refine ⟨ρ, w, t, _, _, _, gd, h1, fun v H1 w1 F1 g1 go1 r1 => ?_⟩
    cases r1
    exact ⟨b', rfl, k _ H1 w1 [] g1 go1 (.bl _)⟩
  · cases ee
end
section
variable {es x2n : List Expr} {a b c e : Expr} {pos : Pos} {env : Env}
theorem x28 {op} : starEach (.BinOp a op b pos :: x2n) env = (false, eval (.BinOp a op b pos) env) :: starEach x2n env := by simp only [starEach]
theorem y9p : starEach (.IfExp a b c pos :: x2n) env = (false, eval (.IfExp a b c pos) env) :: starEach x2n env := by simp only [starEach]
theorem x1u {g sc} : starEach (.ListComp a g sc pos :: x2n) env = (false, eval (.ListComp a g sc pos) env) :: starEach x2n env := by simp only [starEach]
theorem x0l {k} : starEach (.Call a es k pos :: x2n) env = (false, eval (.Call a es k pos) env) :: starEach x2n env := by simp only [starEach]
theorem x07 {v k} : starEach (.Constant v k pos :: x2n) env = (false, eval (.Constant v k pos) env) :: starEach x2n env := by simp only [starEach]
theorem x5s : starEach (.Subscript a b pos :: x2n) env = (false, eval (.Subscript a b pos) env) :: starEach x2n env := by simp only [starEach]
theorem x05 {x} : starEach (.Name x pos :: x2n) env = (false, eval (.Name x pos) env) :: starEach x2n env := by simp only [starEach]
theorem x91 : starEach (.List es pos :: x2n) env = (false, eval (.List es pos) env) :: starEach x2n env := by simp only [starEach]
theorem y3v {k} : starEach (.Tuple es k pos :: x2n) env = (false, eval (.Tuple es k pos) env) :: starEach x2n env := by simp only [starEach]
end
noncomputable def At (K : PySem.W.Frag) (mg : Str -> Option Value) (x : Str) (st : Stmt) (ps : List Str) : Prop :=
  ∃ f fd, Fun K x x st f fd /\ mg x = some (.ref f) /\ y0f K fd ps []
noncomputable def Cal (P : Program) (w : World) (K : PySem.W.Frag) (mg : Str -> Option Value) (base : Heap) (k : Nat) (x : Str) (n : Nat) (F : List D -> Option (D × Nat)) : Prop :=
  ∃ f fd ps, FnOk P w K mg base CX0 k f fd ps (spD K n F) /\ mg x = some (.ref f) /\ PySem.W.keepIn K (.ref f) = true /\ y0f K fd ps []
theorem Cal.mk {P : Program} {w : World} {K : PySem.W.Frag} {mg : Str -> Option Value} {base : Heap} {k : Nat} {x : Str} {st : Stmt} {N ps : List Str} {body : x22} (a : At K mg x st ps) (S : FnScope N ps (x08 st))
    (h : ∀ (f : Addr) (cdv : Value) (A : Around) (outer : List Env) (s : Shared) (H : Hp) (E : XK), Room k (A.deeper (envOfC x (x08 st) s.heap.objs.size f cdv)) -> y66 (y5f CX0 P w K mg base N x (x08 st) f cdv A outer s H E).nox (x0s st) body) :
    Cal P w K mg base (k + 1) x ps.length (fnD N.length body) := by
  obtain ⟨f, fd, F, m, b⟩ := a
  exact ⟨f, fd, ps, z6j F S (h f), m, F.kp, b⟩
section
variable {X : Cx} {a b c e : Expr} {es x2n : List Expr} {fa fb fc f : Den} {g : x1v} {pos p p1 p2 cpos apos : Pos}
theorem y9e {j k n : Nat} {x : Str} {F : List D -> Option (D × Nat)} (C : Cal X.prog X.w X.K X.mg X.base k x n F) (hr : Room j X.A) (hk : k <= j) (ha : PDA X (e :: es) g)
    (hg : Gl X x := by rfl) (hdb : (x == ("__debug__" : Str)) = false := by decide) (he : starEach (e :: es) X.env = (false, eval e X.env) :: starEach es X.env := by rfl) (hpl : (backTo pos (starEach es X.env)).any (·.1) = false := by rfl) :
    PD X (.Call (.Name x p) (e :: es) [] pos) (x0n F n g) := by
  obtain ⟨f, fd, ps, G, hm, hkp, hb⟩ := C
  exact y9j G (hr.mono hk) hm hkp hb z7r ha hg hdb he hpl
end
theorem z5o {K : PySem.W.Frag} {F : List D -> Option (D × Nat)} (h : ∀ ns : List Int, ns.length <= 63 -> ∃ q, F [.lst (ns.map D.int)] = some (.bl true, q)) {H : Hp} {a : Addr} {ns : List Int} (hl : ns.length <= 63) (hS : SqL K H a (ns.map V.int)) {E : XK} :
    spD K 1 F [.ref a] H (fun v _ => v = .bl true) E := by
  obtain ⟨q, e⟩ := h ns hl
  have r : Rep K H (fun _ => none) .f 0 (.lst (ns.map D.int)) (.ref a) [] := by
    rcases SqL.cases hS with z | z
    · exact .shr z rfl (x6w ns)
    · exact .kl z (x6w ns)
  exact ⟨rfl, [.lst (ns.map D.int)], fun _ => none, .bl true, q, (fun a o z => nomatch z), (fun a o z => nomatch z), .cons (F := []) (G := []) r .nil (fun _ z => nomatch z), e, fun v H' w' Fo _ _ rr => by cases rr; rfl⟩
theorem z54 {P : Program} {w : World} {K : PySem.W.Frag} {mg : Str -> Option Value} {base : Heap} {k : Nat} {x : Str} {st : Stmt} {N ps : List Str} {body : x22} {f : Addr} {fd : FuncData} (F : Fun K x x st f fd) (S : FnScope N ps (x08 st))
    (h : ∀ (f : Addr) (cdv : Value) (A : Around) (outer : List Env) (s : Shared) (H : Hp) (E : XK), Room k (A.deeper (envOfC x (x08 st) s.heap.objs.size f cdv)) -> y66 (y5f CX0 P w K mg base N x (x08 st) f cdv A outer s H E).nox (x0s st) body) :
    FnOk P w K mg base CX0 (k + 1) f fd ps (spD K ps.length (fnD N.length body)) := z6j F S (h f)
section
variable {prog : Program} {w : World} {A : Around} {E : Value -> Shared -> Prop} {s : Shared}
theorem x60 {j p : Addr} {n : Nat} {vs : Array Value} {v : Value} {Q : Value -> Shared -> Prop} (a : s.heap.IsTupleIter j p n) (b : s.heap.IsTuple p vs) (c : vs[n]? = some v)
    (k : ∀ g : Heap, g.IsTupleIter j p (n + 1) -> Heap.SameBut j s.heap g -> Q v { s with heap := g }) : wpAny (model prog w) A (Builtin.SmallTypes.nextOf (.ref j)) Q E s := by
  obtain ⟨oj, ej, kj, dj⟩ := id a
  obtain ⟨op, ep, _, mp, dp⟩ := b
  unfold Builtin.SmallTypes.nextOf
  refine wpAny_bind (wpAny_callSpecial?_slot (name := Str.ofString "__next__") a.typeIs F.slot_tuple_iterator_next (wpAny_call_entry F.slot_tuple_iterator_next a.typeIs F.entry_tuple_iterator_next ?_ (F.args_tuple_iterator_next_1 _)))
  show wpAny _ _ (field (.ref j) 0 >>= _) _ _ s
  refine wpAny_bind (wpAny_field ej dj (x := .ref p) rfl ?_)
  show wpAny _ _ (if (Value.ref p == Value.none) = true then _ else _) _ _ s
  rw [if_neg (show ¬ ((Value.ref p == Value.none) = true) from Bool.false_ne_true)]
  show wpAny _ _ (field (.ref j) 1 >>= _) _ _ s
  refine wpAny_bind (wpAny_field ej dj (x := .int n 0) rfl ?_)
  show wpAny _ _ (seqItems? (.ref p) >>= _) _ _ s
  refine wpAny_bind (wpAny_seqItems ep dp ?_)
  simp only [Int.toNat_natCast, c]
  refine wpAny_bind (wpAny_setField ej dj (by simp) (wpAny_pure ⟨v, rfl, wpAny_pure (k _ ⟨_, Heap.get?_update_self _ ej (Obj.isFreed_of_fields (Obj.data_mapFields dj _)), (Obj.cls_mapFields ..).trans kj, ?_⟩ (Heap.SameBut.update ..))⟩))
  rw [Obj.data_mapFields dj]
  simp [rawInt]
theorem x8o {j p : Addr} {n : Nat} {vs : Array Value} {Q : Value -> Shared -> Prop} (hh : A.handled = none) (a : s.heap.IsTupleIter j p n) (b : s.heap.IsTuple p vs) (c : vs[n]? = none)
    (k : ∀ (g : Heap) x, Heap.ExtBut j s.heap g -> (∃ o, g.get? x = some o /\ o.cls = .type "StopIteration") -> E (.ref x) { s with heap := g }) : wpAny (model prog w) A (Builtin.SmallTypes.nextOf (.ref j)) Q E s := by
  obtain ⟨oj, ej, kj, dj⟩ := id a
  obtain ⟨op, ep, _, mp, dp⟩ := b
  unfold Builtin.SmallTypes.nextOf
  refine wpAny_bind (wpAny_callSpecial?_slot (name := Str.ofString "__next__") a.typeIs F.slot_tuple_iterator_next (wpAny_call_entry F.slot_tuple_iterator_next a.typeIs F.entry_tuple_iterator_next ?_ (F.args_tuple_iterator_next_1 _)))
  show wpAny _ _ (field (.ref j) 0 >>= _) _ _ s
  refine wpAny_bind (wpAny_field ej dj (x := .ref p) rfl ?_)
  show wpAny _ _ (if (Value.ref p == Value.none) = true then _ else _) _ _ s
  rw [if_neg (show ¬ ((Value.ref p == Value.none) = true) from Bool.false_ne_true)]
  show wpAny _ _ (field (.ref j) 1 >>= _) _ _ s
  refine wpAny_bind (wpAny_field ej dj (x := .int n 0) rfl ?_)
  show wpAny _ _ (seqItems? (.ref p) >>= _) _ _ s
  refine wpAny_bind (wpAny_seqItems ep dp ?_)
  simp only [Int.toNat_natCast, c]
  refine wpAny_bind (wpAny_rule (wpAny_bind (wpAny_setField ej dj (by simp) ?_)))
  show wpAny _ _ (newExc (.type "StopIteration") [] >>= _) _ _ _; refine wpAny_bind ?_; simp only [newExc, newTuple]
  refine wpAny_bind (wpAny_newObj_type ?_ (by size_fits)); refine wpAny_bind (m := firstArgMember _ _) (wpAny_of_eq (a := Value.none) (by first | rfl | (simp only [firstArgMember]; rfl)) (wpAny_newObj_type ?_ (by size_fits)))
  simp only [raiseNew]
  refine wpAny_bind (wpAny_handled ?_); first | rw [show A.in1.handled = none from hh] | rw [hh]
  exact wpAny_bind (wpAny_pure (wpAny_throw (k _ _ (((Heap.SameBut.update ..).extBut.push _).push _) ⟨_, Heap.get?_push_size _ rfl, rfl⟩)))
structure ZT (h : Heap) (z u o i1 i2 p1 p2 : Addr) (f0 : Value) (k1 k2 : Nat) : Prop where
  hz : IsZip h z u o f0
  hu : IsPair h u (.ref i1) (.ref i2)
  ho : ∃ a b, IsPair h o a b
  h1 : h.IsTupleIter i1 p1 k1
  h2 : h.IsTupleIter i2 p2 k2
noncomputable def zfp (z u o i1 i2 : Addr) : List Addr := [z, u, o, i1, i2]
structure ZA (z u o i1 i2 : Addr) : Prop where
  nd : (zfp z u o i1 i2).Nodup
theorem ZA.ne {z u o i1 i2 : Addr} (d : ZA z u o i1 i2) : z ≠ u /\ z ≠ o /\ z ≠ i1 /\ z ≠ i2 /\ u ≠ o /\ u ≠ i1 /\ u ≠ i2 /\ o ≠ i1 /\ o ≠ i2 /\ i1 ≠ i2 := by
  have := d.nd
  simp only [zfp, List.nodup_cons, List.mem_cons, List.not_mem_nil, or_false, not_or] at this
  obtain ⟨⟨a, b, c, d⟩, ⟨e, f, g⟩, ⟨h, i⟩, j, _⟩ := this
  exact ⟨a, b, c, d, e, f, g, h, i, j⟩
theorem y0r {g : Heap} {o : Addr} {a b x : Value} {n : Nat} {Q : Unit -> Shared -> Prop} (e : IsPair s.heap o a b)
    (k : ∀ g : Heap, g.get? o = some { cls := .type "tuple", data := .seq ((#[a, b] : Array Value).setIfInBounds n x) } -> Heap.SameBut o s.heap g -> Q () { s with heap := g }) : wpAny (model prog w) A (updateSeq o (·.setIfInBounds n x)) Q E s := by
  refine wpAny_updateSeq e rfl (k _ ?_ (Heap.SameBut.update ..))
  rw [Heap.get?_update_self _ e rfl]; simp [Obj.mapSeq]
theorem y7p {z u o i1 i2 p1 p2 : Addr} {n : Nat} {xs ys : Array Value} {x y : Value} {Q : Option Value -> Shared -> Prop} (d : ZA z u o i1 i2) (Z : ZT s.heap z u o i1 i2 p1 p2 .none n n) (t1 : s.heap.IsTuple p1 xs) (t2 : s.heap.IsTuple p2 ys)
    (n1 : p1 ∉ zfp z u o i1 i2) (n2 : p2 ∉ zfp z u o i1 i2) (ex : xs[n]? = some x) (ey : ys[n]? = some y)
    (k : ∀ g : Heap, ZT g z u o i1 i2 p1 p2 (rawInt s.heap.objs.size) (n + 1) (n + 1) -> IsPair g s.heap.objs.size x y -> (∀ c q, c ∉ zfp z u o i1 i2 -> s.heap.get? c = some q -> g.get? c = some q) -> Q (some (.ref s.heap.objs.size)) { s with heap := g }) :
    wpAny (model prog w) A (pyNext (.ref z)) Q E s := by
  obtain ⟨zu, zo, z1, z2, uo, u1, u2, o1, o2, i12⟩ := d.ne
  obtain ⟨hz, hu, ⟨a, b, ho⟩, h1, h2⟩ := Z
  have nz : ∀ p, p ∉ zfp z u o i1 i2 -> p ≠ z /\ p ≠ o /\ p ≠ i1 /\ p ≠ i2 := fun p h => by
    simp only [zfp, List.mem_cons, List.not_mem_nil, or_false, not_or] at h
    exact ⟨h.1, h.2.2.1, h.2.2.2.1, h.2.2.2.2⟩
  obtain ⟨az, ao, a1, a2⟩ := nz p1 n1
  obtain ⟨bz, bo, b1, b2⟩ := nz p2 n2
  have ty : s.TypeIs (.ref z) "zip" := ⟨_, hz, rfl⟩
  unfold pyNext
  refine wpAny_bind (wpAny_attempt (wpAny_callSpecial?_slot (name := Str.ofString "__next__") ty F.slot_zip_next (wpAny_call_entry F.slot_zip_next ty F.entry_zip_next ?_ (F.args_zip_next_1 _))))
  show wpAny _ _ (field (.ref z) 2 >>= _) _ _ _; refine wpAny_bind (wpAny_field hz rfl (x := .bool false) rfl ?_)
  show wpAny _ _ (field (.ref z) 3 >>= _) _ _ _; refine wpAny_bind (wpAny_field hz rfl (x := .ref u) rfl (wpAny_bind (wpAny_seqItems hu rfl ?_)))
  show wpAny _ _ (Builtin.SmallTypes.ownedTupleIsFree (.ref z) >>= _) _ _ _; refine wpAny_bind ?_; unfold Builtin.SmallTypes.ownedTupleIsFree
  refine wpAny_bind (wpAny_field hz rfl (x := .none) rfl (wpAny_pure ?_)); simp only [if_true]
  refine wpAny_bind (wpAny_rule (wpAny_bind (wpAny_field hz rfl (x := .ref o) rfl (wpAny_bind (wpAny_setField_rec hz (by simp) fun g1 e1 b1' => ?_)))))
  replace e1 : IsZip g1 z u o .ellipsis := e1
  refine wpAny_bind ?_; simp only [List.zipIdx_cons, List.zipIdx_nil, List.forIn_cons, List.forIn_nil]
  -- the first
  refine wpAny_bind (wpAny_bind (wpAny_onRaise ?_)); show wpAny _ _ (Builtin.SmallTypes.nextOf (.ref i1) >>= _) _ _ _
  refine wpAny_bind (x60 (h1.extBut b1'.extBut (Ne.symm z1)) (t1.extBut b1'.extBut az) ex fun g2 e2 c2 => wpAny_pure ?_)
  have q2 : IsPair g2 o a b := c2.extBut _ _ o1 (b1'.extBut _ _ (Ne.symm zo) ho)
  refine wpAny_bind (wpAny_seqItems q2 rfl (wpAny_bind (y0r (g := g2) q2 fun g3 e3 c3 => wpAny_bind (wpAny_letGo (wpAny_pure ?_)))))
  replace e3 : IsPair g3 o x b := e3
  -- the second
  refine wpAny_bind (wpAny_bind (wpAny_onRaise ?_)); show wpAny _ _ (Builtin.SmallTypes.nextOf (.ref i2) >>= _) _ _ _
  refine wpAny_bind (x60 (((h2.extBut b1'.extBut (Ne.symm z2)).extBut c2.extBut (Ne.symm i12)).extBut c3.extBut (Ne.symm o2)) (((t2.extBut b1'.extBut bz).extBut c2.extBut b1).extBut c3.extBut bo) ey fun g4 e4 c4 => wpAny_pure ?_)
  have q4 : IsPair g4 o x b := c4.extBut _ _ o2 e3
  refine wpAny_bind (wpAny_seqItems q4 rfl (wpAny_bind (y0r (g := g4) q4 fun g5 e5 c5 => wpAny_bind (wpAny_letGo (wpAny_pure (wpAny_pure ?_))))))
  replace e5 : IsPair g5 o x y := e5
  refine wpAny_bind (wpAny_seqItems e5 rfl (wpAny_bind (wpAny_newTuple ?_)))
  have sz : g5.objs.size = s.heap.objs.size := by rw [c5.1, c4.1, c3.1, c2.1, b1'.1]
  have z5 : IsZip g5 z u o .ellipsis := c5.extBut _ _ zo (c4.extBut _ _ z2 (c3.extBut _ _ zo (c2.extBut _ _ z1 e1)))
  have kp : ∀ c q, c ≠ z -> c ≠ o -> c ≠ i1 -> c ≠ i2 -> s.heap.get? c = some q -> g5.get? c = some q := fun c q x1 x2 x3 x4 e => c5.extBut _ _ x2 (c4.extBut _ _ x4 (c3.extBut _ _ x2 (c2.extBut _ _ x3 (b1'.extBut _ _ x1 e))))
  have w1 : g5.IsTupleIter i1 p1 (n + 1) := ((e2.extBut c3.extBut (Ne.symm o1)).extBut c4.extBut i12).extBut c5.extBut (Ne.symm o1)
  have w2 : g5.IsTupleIter i2 p2 (n + 1) := e4.extBut c5.extBut (Ne.symm o2)
  have zl : z < g5.objs.size := Heap.lt_size z5
  show wpAny _ _ (Builtin.SmallTypes.ownedTupleHandOut (.ref z) (.ref g5.objs.size) >>= _) _ _ _; refine wpAny_bind ?_; unfold Builtin.SmallTypes.ownedTupleHandOut
  have z6 : IsZip (g5.push { cls := .type "tuple", data := .seq #[x, y] }) z u o .ellipsis := Heap.get?_push_of_some _ z5
  refine wpAny_bind (wpAny_setField_rec z6 (by simp) fun g7 e7 c7 => ?_)
  replace e7 : IsZip g7 z u o (rawInt g5.objs.size) := e7
  refine wpAny_setField_rec e7 (by simp) fun g8 e8 c8 => ?_
  replace e8 : IsZip g8 z u o (rawInt g5.objs.size) := e8
  have up : ∀ c q, c ≠ z -> g5.get? c = some q -> g8.get? c = some q := fun c q h e => c8.extBut _ _ h (c7.extBut _ _ h (Heap.get?_push_of_some _ e))
  have nw : IsPair g8 g5.objs.size x y := c8.extBut _ _ (Nat.ne_of_gt zl) (c7.extBut _ _ (Nat.ne_of_gt zl) (Heap.get?_push_size _ rfl))
  rw [sz] at e8 nw
  refine wpAny_pure ⟨_, rfl, wpAny_pure ?_⟩
  show Q (some (.ref g5.objs.size)) _
  rw [sz]
  refine k g8 ⟨e8, up _ _ (Ne.symm zu) (kp _ _ (Ne.symm zu) uo u1 u2 hu), ⟨x, y, up _ _ (Ne.symm zo) e5⟩, w1.at fun q e => up _ q (Ne.symm z1) e, w2.at fun q e => up _ q (Ne.symm z2) e⟩ nw fun c q h e => ?_
  obtain ⟨y1, y2, y3, y4⟩ := nz c h
  exact up c q y1 (kp c q y1 y2 y3 y4 e)
theorem y9d {z u o i1 i2 p1 p2 : Addr} {n : Nat} {xs ys : Array Value} {Q : Option Value -> Shared -> Prop} (hh : A.handled = none) (d : ZA z u o i1 i2) (Z : ZT s.heap z u o i1 i2 p1 p2 .none n n) (t1 : s.heap.IsTuple p1 xs) (t2 : s.heap.IsTuple p2 ys)
    (n1 : p1 ∉ zfp z u o i1 i2) (n2 : p2 ∉ zfp z u o i1 i2) (en : xs[n]? = none \/ ys[n]? = none)
    (k : ∀ g : Heap, (∀ c q, c ∉ zfp z u o i1 i2 -> s.heap.get? c = some q -> g.get? c = some q) -> Q none { s with heap := g }) :
    wpAny (model prog w) A (pyNext (.ref z)) Q E s := by
  obtain ⟨zu, zo, z1, z2, uo, u1, u2, o1, o2, i12⟩ := d.ne
  obtain ⟨hz, hu, ⟨a, b, ho⟩, h1, h2⟩ := Z
  have nz : ∀ p, p ∉ zfp z u o i1 i2 -> p ≠ z /\ p ≠ o /\ p ≠ i1 /\ p ≠ i2 := fun p h => by
    simp only [zfp, List.mem_cons, List.not_mem_nil, or_false, not_or] at h
    exact ⟨h.1, h.2.2.1, h.2.2.2.1, h.2.2.2.2⟩
  obtain ⟨az, ao, a1, a2⟩ := nz p1 n1
  obtain ⟨bz, bo, b1, b2⟩ := nz p2 n2
  have ty : s.TypeIs (.ref z) "zip" := ⟨_, hz, rfl⟩
  unfold pyNext
  refine wpAny_bind (wpAny_attempt (wpAny_callSpecial?_slot (name := Str.ofString "__next__") ty F.slot_zip_next (wpAny_call_entry F.slot_zip_next ty F.entry_zip_next ?_ (F.args_zip_next_1 _))))
  show wpAny _ _ (field (.ref z) 2 >>= _) _ _ _; refine wpAny_bind (wpAny_field hz rfl (x := .bool false) rfl ?_)
  show wpAny _ _ (field (.ref z) 3 >>= _) _ _ _; refine wpAny_bind (wpAny_field hz rfl (x := .ref u) rfl (wpAny_bind (wpAny_seqItems hu rfl ?_)))
  show wpAny _ _ (Builtin.SmallTypes.ownedTupleIsFree (.ref z) >>= _) _ _ _; refine wpAny_bind ?_; unfold Builtin.SmallTypes.ownedTupleIsFree
  refine wpAny_bind (wpAny_field hz rfl (x := .none) rfl (wpAny_pure ?_)); simp only [if_true]
  refine wpAny_bind (wpAny_rule (wpAny_bind (wpAny_field hz rfl (x := .ref o) rfl (wpAny_bind (wpAny_setField_rec hz (by simp) fun g1 e1 b1' => ?_)))))
  replace e1 : IsZip g1 z u o .ellipsis := e1
  refine wpAny_bind ?_; simp only [List.zipIdx_cons, List.zipIdx_nil, List.forIn_cons, List.forIn_nil]
  have away : ∀ (g : Heap) x, IsZip g z u o .ellipsis -> (∃ q, g.get? x = some q /\ q.cls = .type "StopIteration") -> x ≠ z := fun g x e ⟨q, e', c'⟩ h => by
    subst h; rw [e] at e'; cases e'; simp at c'
  refine wpAny_bind (wpAny_bind (wpAny_onRaise ?_)); show wpAny _ _ (Builtin.SmallTypes.nextOf (.ref i1) >>= _) _ _ _
  cases ex : xs[n]? with
  | none =>
    refine wpAny_bind (x8o hh (h1.extBut b1'.extBut (Ne.symm z1)) (t1.extBut b1'.extBut az) ex fun g2 x c2 hx => ?_)
    have e2 : IsZip g2 z u o .ellipsis := c2 _ _ z1 e1
    have xz := away g2 x e2 hx
    obtain ⟨q, hq, cq⟩ := hx
    refine wpAny_setField_rec e2 (by simp) fun g3 _ c3 => ?_
    refine wpAny_bind (wpAny_isInstance (T := "StopIteration") (b := true) ⟨q, c3.extBut _ _ xz hq, cq⟩ isSubtype_stop (wpAny_pure (k g3 fun c r h e => ?_)))
    obtain ⟨y1, y2, y3, y4⟩ := nz c h
    exact c3.extBut _ _ y1 (c2 _ _ y3 (b1'.extBut _ _ y1 e))
  | some x =>
    have ey : ys[n]? = none := by rcases en with h | h; rw [ex] at h; cases h; exact h
    refine wpAny_bind (x60 (h1.extBut b1'.extBut (Ne.symm z1)) (t1.extBut b1'.extBut az) ex fun g2 e2 c2 => wpAny_pure ?_)
    have q2 : IsPair g2 o a b := c2.extBut _ _ o1 (b1'.extBut _ _ (Ne.symm zo) ho)
    refine wpAny_bind (wpAny_seqItems q2 rfl (wpAny_bind (y0r (g := g2) q2 fun g3 e3 c3 => wpAny_bind (wpAny_letGo (wpAny_pure ?_)))))
    refine wpAny_bind (wpAny_bind (wpAny_onRaise ?_)); show wpAny _ _ (Builtin.SmallTypes.nextOf (.ref i2) >>= _) _ _ _
    refine wpAny_bind (x8o hh (((h2.extBut b1'.extBut (Ne.symm z2)).extBut c2.extBut (Ne.symm i12)).extBut c3.extBut (Ne.symm o2)) (((t2.extBut b1'.extBut bz).extBut c2.extBut b1).extBut c3.extBut bo) ey fun g4 x' c4 hx => ?_)
    have e4 : IsZip g4 z u o .ellipsis := c4 _ _ z2 (c3.extBut _ _ zo (c2.extBut _ _ z1 e1))
    have xz := away g4 x' e4 hx
    obtain ⟨q, hq, cq⟩ := hx
    refine wpAny_setField_rec e4 (by simp) fun g5 _ c5 => ?_
    refine wpAny_bind (wpAny_isInstance (T := "StopIteration") (b := true) ⟨q, c5.extBut _ _ xz hq, cq⟩ isSubtype_stop (wpAny_pure (k g5 fun c r h e => ?_)))
    obtain ⟨y1, y2, y3, y4⟩ := nz c h
    exact c5.extBut _ _ y1 (c4 _ _ y4 (c3.extBut _ _ y2 (c2.extBut _ _ y3 (b1'.extBut _ _ y1 e))))
theorem y8p {p1 p2 : Addr} {xs ys : Array Value} {Q : Value -> Shared -> Prop} (t1 : s.heap.IsTuple p1 xs) (t2 : s.heap.IsTuple p2 ys)
    (k : ∀ g : Heap, ZT g (s.heap.objs.size + 4) (s.heap.objs.size + 2) (s.heap.objs.size + 3) s.heap.objs.size (s.heap.objs.size + 1) p1 p2 .none 0 0 -> (∀ c q, s.heap.get? c = some q -> g.get? c = some q) -> Q (.ref (s.heap.objs.size + 4)) { s with heap := g }) :
    wpAny (model prog w) A (call (.type "zip") [.ref p1, .ref p2]) Q E s := by
  let g1 := s.heap.push { cls := .type "tuple_iterator", data := .fields #[.ref p1, .int 0 0] }
  let g2 := g1.push { cls := .type "tuple_iterator", data := .fields #[.ref p2, .int 0 0] }
  let g3 := g2.push { cls := .type "tuple", data := .seq #[.ref s.heap.objs.size, .ref g1.objs.size] }
  let g4 := g3.push { cls := .type "tuple", data := .seq #[.none, .none] }
  let g5 := g4.push { cls := .type "zip", data := .fields #[.none, .bool false, .bool false, .ref g2.objs.size, .ref g3.objs.size] }
  have mt : Meets (Builtin.«zip.__new__» ⟨[.type "zip", .ref p1, .ref p2], []⟩) (fun _ R s' => s' = s /\ R (.ok (.ret (.ref g4.objs.size))) { s with heap := g5 }) := .of_wp fun prog w A R s' h => by
    obtain ⟨rfl, h⟩ := h
    have hsub := sub_zip
    obtain ⟨hp, gn, dr, tk, os⟩ := s'
    have q1 : Heap.IsTuple (Shared.heap ⟨hp, gn, dr, tk, os⟩) p1 xs := t1
    have q2 : Heap.IsTuple (Shared.heap ⟨hp.push { cls := .type "tuple_iterator", data := .fields #[.ref p1, .int 0 0] }, gn, dr, tk, os⟩) p2 ys := t2.push _
    wp_walk using wpAny_pyIter_tuple q1, wpAny_pyIter_tuple q2
    exact ⟨_, rfl, h⟩
  refine callType_new F.called_zip (by decide) (F.typeCall_zip_2 _ _) (F.newCall_zip_2 _ _) (fun obj => F.args_object_init_3 obj _ _) F.entry_zip_new mt ⟨rfl, ?_⟩
  have s1 : g1.objs.size = s.heap.objs.size + 1 := Heap.size_push ..
  have s2 : g2.objs.size = s.heap.objs.size + 2 := by rw [Heap.size_push, s1]
  have s3 : g3.objs.size = s.heap.objs.size + 3 := by rw [Heap.size_push, s2]
  have s4 : g4.objs.size = s.heap.objs.size + 4 := by rw [Heap.size_push, s3]
  have a5 : g5.get? g4.objs.size = some { cls := .type "zip", data := .fields #[.none, .bool false, .bool false, .ref g2.objs.size, .ref g3.objs.size] } := Heap.get?_push_size _ rfl
  have up4 : ∀ {c q}, g3.get? c = some q -> g5.get? c = some q := fun e => Heap.get?_push_of_some _ (Heap.get?_push_of_some _ e)
  have a4 : g5.get? g3.objs.size = some { cls := .type "tuple", data := .seq #[.none, .none] } := Heap.get?_push_of_some _ (Heap.get?_push_size _ rfl)
  have a3 : g5.get? g2.objs.size = some { cls := .type "tuple", data := .seq #[.ref s.heap.objs.size, .ref g1.objs.size] } := up4 (Heap.get?_push_size _ rfl)
  have a2 : g5.get? g1.objs.size = some { cls := .type "tuple_iterator", data := .fields #[.ref p2, .int 0 0] } := up4 (Heap.get?_push_of_some _ (Heap.get?_push_size _ rfl))
  have a1 : g5.get? s.heap.objs.size = some { cls := .type "tuple_iterator", data := .fields #[.ref p1, .int 0 0] } := up4 (Heap.get?_push_of_some _ (Heap.get?_push_of_some _ (Heap.get?_push_size _ rfl)))
  rw [s2, s3, s4] at a5
  rw [s3] at a4
  rw [s1, s2] at a3
  rw [s1] at a2
  show _ /\ _
  rw [s4]
  exact ⟨⟨_, a5, rfl⟩, k g5 ⟨a5, a3, ⟨_, _, a4⟩, ⟨_, a1, rfl, rfl⟩, ⟨_, a2, rfl, rfl⟩⟩ fun c q e => up4 (Heap.get?_push_of_some _ (Heap.get?_push_of_some _ (Heap.get?_push_of_some _ e)))⟩
end
theorem y2z {X : Cx} {pins : List (Addr × Obj)} {σ : St} {H : Hp} {s : Shared} {h' : Heap} {t' : Nat} {ch : List Addr} (I : Inv X pins σ H s) (k : ∀ b o, b ∉ ch -> s.heap.get? b = some o -> h'.get? b = some o) (hf : ∀ b ∈ ch, y62 X pins H b) :
    Inv X pins σ H { s with heap := h', toks := t' } := by
  have nit : ∀ b u, H b = some u -> b ∉ ch := fun b u e z => by rw [(hf b z).1] at e; cases e
  refine I.step (g' := s.gens) (d' := s.drawn) (ch := ch) (fun b hb => ?_) (fun b o _ _ hc e _ => k b o hc e) (fun b o _ _ hc e _ => ⟨o.slots, k b o hc e⟩) (fun _ _ _ _ n => n)
    (fun b o hc e => ⟨o, k b o hc e⟩) (fun _ _ e => e) (fun _ _ _ e => e) (fun b ps e => ⟨#[], by rw [e]; simp⟩) (fun m hm => ?_) (fun b u e => ?_) I.bare
  · obtain ⟨f0, f1, f2, f3, f4, f5⟩ := hf b hb
    exact ⟨f3, f1, f4, f5⟩
  · obtain ⟨o, es, ep, ho, r⟩ := hm
    exact ⟨o, es, ep, k _ o (fun z => (hf _ z).2.1 rfl) ho, r⟩
  · refine (I.hok b u e).stay (fun c v hc q => k c v ?_ q) (fun _ q => q) fun _ _ q => q
    rcases hc with z | z
    · rw [z]; exact nit b u e
    · exact nit c _ z
noncomputable def Itz (K : PySem.W.Frag) (p1 p2 : Addr) : It :=
  ⟨fun i H => ∃ xs ys x y, SqT K H p1 xs /\ SqT K H p2 ys /\ xs[i]? = some x /\ ys[i]? = some y,
   fun i H v H' => ∃ T x y, v = .ref T /\ H T = none /\ (∀ xs, SqT K H p1 xs -> xs[i]? = some x) /\ (∀ ys, SqT K H p2 ys -> ys[i]? = some y) /\ H' = upd H T (.tup [x, y]),
   fun i H => ∃ xs ys, SqT K H p1 xs /\ SqT K H p2 ys /\ (xs.length <= i \/ ys.length <= i)⟩
theorem y94 {P : Program} {w : World} {K : PySem.W.Frag} {elts : List Expr} {kt : Nat} {tp : Pos} (z u o i1 i2 p1 p2 : Addr) (d : ZA z u o i1 i2) (n1 : p1 ∉ zfp z u o i1 i2) (n2 : p2 ∉ zfp z u o i1 i2) :
    Turn P w K (.Tuple elts kt tp) (Itz K p1 p2) (zfp z u o i1 i2) z (fun i h => ZT h z u o i1 i2 p1 p2 .none i i) where
  mem := by simp [zfp]
  obj := fun i h st b hb => by
    obtain ⟨hz, hu, ⟨a, c, ho⟩, ⟨o1, e1, c1, d1⟩, ⟨o2, e2, c2, d2⟩⟩ := st
    simp only [zfp, List.mem_cons, List.not_mem_nil, or_false] at hb
    rcases hb with rfl | rfl | rfl | rfl | rfl
    · exact ⟨_, hz, fun v e => nomatch e⟩
    · exact ⟨_, hu, fun v e => nomatch e⟩
    · exact ⟨_, ho, fun v e => nomatch e⟩
    · exact ⟨_, e1, fun v e => by rw [d1] at e; cases e⟩
    · exact ⟨_, e2, fun v e => by rw [d2] at e; cases e⟩
  keep := fun i h h' st k => by
    obtain ⟨hz, hu, ⟨a, c, ho⟩, h1, h2⟩ := st
    exact ⟨k z (by simp [zfp]) _ hz, k u (by simp [zfp]) _ hu, ⟨a, c, k o (by simp [zfp]) _ ho⟩, h1.at fun q e => k i1 (by simp [zfp]) q e, h2.at fun q e => k i2 (by simp [zfp]) q e⟩
  item := by
    intro X hP hw hK hc i pins s σ H E I hf st hg
    subst hP hw hK
    obtain ⟨xs, ys, x, y, q1, q2, ex, ey⟩ := hg
    obtain ⟨as, ra, ta, _⟩ := I.tuple q1
    obtain ⟨bs, rb, tb, _⟩ := I.tuple q2
    obtain ⟨ux, hx, rx⟩ := ra.get ex
    obtain ⟨uy, hy, ry⟩ := rb.get ey
    refine y7p d st (show s.heap.IsTuple p1 as.toArray from ta) (show s.heap.IsTuple p2 bs.toArray from tb) n1 n2 (by simpa using hx) (by simpa using hy) fun g Z nw kp => ?_
    refine ⟨_, rfl, wpAny_letOwnedTupleGo_zip (s := { s with heap := g }) Z.hz fun g' hz' sb => ?_⟩
    have fr : H s.heap.objs.size = none := I.hok.fresh (Nat.le_refl _)
    have I1 : Inv X pins σ (upd H s.heap.objs.size (.tup [x, y])) { s with heap := s.heap.push { cls := .type "tuple", data := .seq #[ux, uy] } } :=
      I.laid (t' := s.toks) (fun b q e => Heap.get?_push_of_some _ e) (Nat.le_refl _) (show x35 X.prog X.w _ _ _ (.tup _) from ⟨(by show 2 <= sizeLine; decide), [ux, uy], .cons rx (.cons ry .nil), x4u.new _ _⟩)
    have lt : ∀ b ∈ zfp z u o i1 i2, b < s.heap.objs.size := fun b hb => by
      obtain ⟨hz, hu, ⟨a, c, ho⟩, ⟨o1, e1, _⟩, ⟨o2, e2, _⟩⟩ := st
      simp only [zfp, List.mem_cons, List.not_mem_nil, or_false] at hb
      rcases hb with rfl | rfl | rfl | rfl | rfl
      · exact Heap.lt_size hz
      · exact Heap.lt_size hu
      · exact Heap.lt_size ho
      · exact Heap.lt_size e1
      · exact Heap.lt_size e2
    have hn : ∀ b ∈ zfp z u o i1 i2, upd H s.heap.objs.size (.tup [x, y]) b = none := fun b hb => by rw [x0w (Nat.ne_of_lt (lt b hb))]; exact (hf b hb).1
    have I2 : Inv X pins σ (upd H s.heap.objs.size (.tup [x, y])) { s with heap := g' } := y2z (s := { s with heap := s.heap.push { cls := .type "tuple", data := .seq #[ux, uy] } }) (t' := s.toks) (ch := zfp z u o i1 i2) I1 (fun b q nb e => by
      have bz : b ≠ z := fun h => nb (by simp [zfp, h])
      rcases Heap.get?_push_cases e with ⟨rfl, rfl⟩ | e'
      · exact sb.extBut _ _ bz nw
      · exact sb.extBut _ _ bz (kp b q nb e')) fun b hb => by
          obtain ⟨f0, f1, f2, f3, f4, f5⟩ := hf b hb
          exact ⟨hn b hb, f1, f2, f3, f4, f5⟩
    refine ⟨.ref s.heap.objs.size, _, I2, rfl, ⟨s.heap.objs.size, x, y, rfl, fr, fun zs hz => ?_, fun zs hz => ?_, rfl⟩, ?_, hn⟩
    · rw [I.tuple_inj hz q1]; exact ex
    · rw [I.tuple_inj hz q2]; exact ey
    · obtain ⟨_, hu, ⟨a, c, ho⟩, h1, h2⟩ := Z
      obtain ⟨zu, zo, z1, z2, _⟩ := d.ne
      exact ⟨hz', sb.extBut _ _ (Ne.symm zu) hu, ⟨a, c, sb.extBut _ _ (Ne.symm zo) ho⟩, h1.extBut sb.extBut (Ne.symm z1), h2.extBut sb.extBut (Ne.symm z2)⟩
  done := by
    intro X hP hw hK hc i pins s σ H E I hf st hg
    subst hP hw hK
    obtain ⟨xs, ys, q1, q2, hx⟩ := hg
    obtain ⟨as, ra, ta, _⟩ := I.tuple q1
    obtain ⟨bs, rb, tb, _⟩ := I.tuple q2
    have la := ra.length
    have lb := rb.length
    refine y9d (I.ok.hd hc) d st (show s.heap.IsTuple p1 as.toArray from ta) (show s.heap.IsTuple p2 bs.toArray from tb) n1 n2 (by rcases hx with h | h; exact .inl (by simp; omega); exact .inr (by simp; omega)) fun g kp => ⟨rfl, ?_⟩
    exact y2z (t' := s.toks) (ch := zfp z u o i1 i2) I (fun b q nb e => kp b q nb e) hf
  self := fun _ _ _ _ _ st h => wpAny_pyIter_zip st.hz h
section
variable {X : Cx} {a b c e : Expr} {es elts : List Expr} {fa fb fc f : Den} {g : x1v} {pos p p1 p2 tp : Pos} {kt : Nat}
noncomputable def z8r (K : PySem.W.Frag) (ta : TA) : TI := fun σ H R => ta σ H fun vs H1 => ∃ p1 p2, vs = [.ref p1, .ref p2] /\ (∃ xs, SqT K H1 p1 xs) /\ (∃ ys, SqT K H1 p2 ys) /\ R (Itz K p1 p2) H1
theorem z5q {ta : TA} (hg : Gl X "zip") (hm : X.mg "zip" = none) (ha : PA X [a, b] ta) (hs : starEach [a, b] X.env = [(false, eval a X.env), (false, eval b X.env)] := by rfl) (hs2 : starEach [b] X.env = [(false, eval b X.env)] := by rfl) :
    PI X (.Tuple elts kt tp) (.Call (.Name "zip" p) [a, b] [] pos) (z8r X.K ta) := by
  intro pins s σ H R I h
  refine Call_ (x93 I hg hm boot_zip (PyProof.Rows.callWith_type1 (thn (ha pos pins s σ H _ I h) fun us s1 ⟨vs, H1, I1, r1, q1⟩ => ?_) (by rw [hs, hs2]) (by rw [hs2]; rfl)))
  obtain ⟨p1, p2, e, ⟨xs, hx⟩, ⟨ys, hy⟩, q⟩ := q1
  subst e
  cases r1 with
  | cons r rr =>
    cases rr with
    | cons r' rr =>
      cases rr
      cases r
      cases r'
      obtain ⟨as, ra, ta', _⟩ := I1.tuple hx
      obtain ⟨bs, rb, tb, _⟩ := I1.tuple hy
      have l1 : p1 < s1.heap.objs.size := by obtain ⟨_, e, _⟩ := ta'; exact Heap.lt_size e
      have l2 : p2 < s1.heap.objs.size := by obtain ⟨_, e, _⟩ := tb; exact Heap.lt_size e
      refine y8p (show s1.heap.IsTuple p1 as.toArray from ta') (show s1.heap.IsTuple p2 bs.toArray from tb) fun g Z kp => ?_
      have I2 : Inv X pins σ H1 { s1 with heap := g } := I1.kept (t' := s1.toks) kp
      refine wpAny_pyIter_zip Z.hz ?_
      have dd : ZA (s1.heap.objs.size + 4) (s1.heap.objs.size + 2) (s1.heap.objs.size + 3) s1.heap.objs.size (s1.heap.objs.size + 1) := ⟨by
        generalize s1.heap.objs.size = n
        unfold zfp
        simp only [List.nodup_cons, List.mem_cons, List.not_mem_nil, or_false, not_or, not_false_eq_true, List.nodup_nil, and_true]
        have ne : ∀ {x y : Nat}, x ≠ y -> (x : Addr) ≠ (y : Addr) := fun h => h
        refine ⟨⟨ne ?_, ne ?_, ne ?_, ne ?_⟩, ⟨ne ?_, ne ?_, ne ?_⟩, ⟨ne ?_, ne ?_⟩, ne ?_⟩ <;> (intro h; have h' : (_ : Nat) = (_ : Nat) := h; omega)⟩
      have far : ∀ b ∈ zfp (s1.heap.objs.size + 4) (s1.heap.objs.size + 2) (s1.heap.objs.size + 3) s1.heap.objs.size (s1.heap.objs.size + 1), s1.heap.objs.size <= b := fun b hb => by
        simp only [zfp, List.mem_cons, List.not_mem_nil, or_false] at hb
        rcases hb with rfl | rfl | rfl | rfl | rfl <;> first | exact Nat.le_refl _ | exact Nat.le_add_right _ _
      refine ⟨s1.heap.objs.size + 4, zfp (s1.heap.objs.size + 4) (s1.heap.objs.size + 2) (s1.heap.objs.size + 3) s1.heap.objs.size (s1.heap.objs.size + 1), _, _, H1, rfl, I2, y94 _ _ _ _ _ p1 p2 dd (fun h => absurd (far _ h) (Nat.not_le_of_lt l1)) (fun h => absurd (far _ h) (Nat.not_le_of_lt l2)), Z, fun b hb => ?_, q⟩
      exact I1.fpOk (far b hb) (I1.hok.fresh (far b hb))
@[simp] noncomputable def y50 (g : x1v) : y09 := fun ρ => match g ρ with
  | some ([.tup ds, .tup es], ρ1) => if ds.length <= 1000 then some ((ds.zip es).map fun x => .tup [x.1, x.2], ρ1) else none
  | _ => none
theorem It.zip {K : PySem.W.Frag} {p1 p2 : Addr} {vs us : List V} {ds es : List D} (l1 : ds.length = vs.length) (l2 : es.length = us.length) : ItOk K (Itz K p1 p2) ((ds.zip es).map fun x => .tup [x.1, x.2]) fun H w => SqT K H p1 vs /\ SqT K H p2 us /\ Reps K H w .f 0 ds vs [] /\ Reps K H w .f 0 es us [] := by
  refine ⟨fun i H w p hi => ?_, fun i H w x H' d p wl hd y => ?_, fun H w p => ⟨vs, us, p.1, p.2.1, ?_⟩, fun H w H' w' p wl st => ⟨SqT.go wl st p.1, SqT.go wl st p.2.1, Reps.go wl st p.2.2.1 (fun _ z => nomatch z), Reps.go wl st p.2.2.2 (fun _ z => nomatch z)⟩⟩
  · have hi' : i < vs.length /\ i < us.length := by simp [List.length_zip] at hi; omega
    exact ⟨vs, us, vs[i]'hi'.1, us[i]'hi'.2, p.1, p.2.1, by simp [hi'.1], by simp [hi'.2]⟩
  · obtain ⟨T, v, u, rfl, hT, hv, hu, rfl⟩ := y
    obtain ⟨q1, q2, r1, r2⟩ := p
    rw [List.getElem?_map] at hd
    cases hz : (ds.zip es)[i]? with
    | none => rw [hz] at hd; cases hd
    | some de =>
      rw [hz] at hd
      cases hd
      obtain ⟨e1, e2⟩ := List.getElem?_zip_eq_some.mp hz
      obtain ⟨v', hv', rv⟩ := r1.get e1
      obtain ⟨u', hu', ru⟩ := r2.get e2
      have ev : v' = v := by have := hv vs q1; rw [hv'] at this; exact Option.some.inj this
      have eu : u' = u := by have := hu us q2; rw [hu'] at this; exact Option.some.inj this
      subst ev eu
      have mo : ∀ a o, H a = some o -> upd H T (.tup [v', u']) a = some o := fun a o e => by rw [x0w (x1t e hT)]; exact e
      have st : x76 H w (upd H T (.tup [v', u'])) w := fun a x e n => ⟨mo a x e, n⟩
      exact ⟨mo, .tup x2h (.cons (F := []) (G := []) (Rep.go0 rv wl st) (.cons (F := []) (G := []) (Rep.go0 ru wl st) .nil (fun _ z => nomatch z)) (fun _ z => nomatch z)), SqT.go wl st q1, SqT.go wl st q2, r1.go0 wl st, r2.go0 wl st⟩
  · simp [List.length_zip]; omega
theorem z14 (hm : X.mg "zip" = none) (ha : PDA X [a, b] g) (hg : Gl X "zip" := by rfl) (hs : starEach [a, b] X.env = [(false, eval a X.env), (false, eval b X.env)] := by rfl) (hs2 : starEach [b] X.env = [(false, eval b X.env)] := by rfl) :
    PDI X (.Tuple elts kt tp) (.Call (.Name "zip" p) [a, b] [] pos) (y50 g) := PI.imp (z5q hg hm ha hs hs2) fun σ H R hh0 => by
  obtain ⟨ρ, w, t, ds, ρ', gd, ee, k⟩ := hh0
  unfold y50 at ee
  split at ee
  · rename_i d1 d2 ρ1 h1
    split at ee
    · rename_i hl
      cases ee
      refine ⟨ρ, w, t, _, _, gd, h1, fun vs H1 w1 g1 go1 r1 => ?_⟩
      obtain ⟨v, v', rfl, rv, rv'⟩ := two r1
      obtain ⟨p1, as, rfl, q1, s1⟩ := rv.seqT
      obtain ⟨p2, bs, rfl, q2, s2⟩ := rv'.seqT
      refine ⟨p1, p2, rfl, ⟨_, q1⟩, ⟨_, q2⟩, k _ _ H1 w1 g1 go1 (It.zip s1.length s2.length) ⟨q1, q2, s1, s2⟩ (x3i ?_)⟩
      simp [List.length_zip]; omega
    · cases ee
  · cases ee
end
noncomputable abbrev x7l := List D -> Rho -> Option Rho
noncomputable def z98 (K : PySem.W.Frag) (b : Nat) (pt : x7l) : TGs := fun vs σ H Q => ∃ ds ρ w t ρ', Good K ρ σ H w t /\ Reps K H w .f 0 ds vs [] /\ pt ds ρ = some ρ' /\ ∀ σ' H' w', σ'.length = σ.length -> (∀ i, i < b -> σ'[i]? = σ[i]?) -> Good K ρ' σ' H' w' t -> Go H w H' w' -> Q σ' H'
theorem PGs.imp {X : Cx} {tg : List Expr} {t t' : TGs} (h : PGs X tg t) (i : ∀ v σ H Q, t' v σ H Q -> t v σ H Q) : PGs X tg t' := fun pins s σ H v u Q I r q => h pins s σ H v u Q I r (i v σ H Q q)
noncomputable abbrev z4j (X : Cx) (b : Nat) (tg : List Expr) (pt : x7l) : Prop := PGs X tg (z98 X.K b pt)
@[simp] noncomputable def x81 : x7l := fun ds ρ => match ds with
  | [] => some ρ
  | _ => none
@[simp] noncomputable def x2t (pt : x6b) (ps : x7l) : x7l := fun ds ρ => match ds with
  | [] => none
  | d :: r => match pt d ρ with
    | some ρ1 => ps r ρ1
    | none => none
@[simp] noncomputable def y78 (ps : x7l) : x6b := fun d ρ => match d with
  | .tup ds => ps ds ρ
  | _ => none
section
variable {X : Cx} {k b : Nat} {e : Expr} {es : List Expr} {pt : x6b} {ps : x7l} {pos : Pos}
theorem y7z : z4j X b [] x81 := PGs.imp z2c fun v σ H Q hh0 => by
  obtain ⟨ds, ρ, w, t, ρ', g, r, e, k⟩ := hh0
  unfold x81 at e
  split at e
  · cases e
    generalize hF : ([] : List Addr) = F at r
    cases r
    exact ⟨rfl, k σ H w rfl (fun _ _ => rfl) g Go.refl⟩
  · cases e
theorem y6n (h1 : PDG X b e pt) (h2 : z4j X b es ps) (hs : (assignEach (e :: es) X.env).map (·.2) = assign e X.env :: (assignEach es X.env).map (·.2) := by rfl) : z4j X b (e :: es) (x2t pt ps) := PGs.imp (y9q h1 h2 hs) fun v σ H Q hh0 => by
  obtain ⟨ds, ρ, w, t, ρ', g, r, e, k⟩ := hh0
  unfold x2t at e
  split at e
  · cases e
  · rename_i d x2n
    split at e
    · rename_i ρ1 h1
      generalize hF : ([] : List Addr) = F at r
      cases r with
      | cons ra rb _ =>
        have z1 := ra.zero
        have z2 := rb.zero
        subst z1 z2
        refine ⟨_, _, rfl, d, ρ, w, t, ρ1, g, ra, h1, fun σ1 H1 w1 l1 s1 g1 go1 => ⟨x2n, ρ1, w1, t, ρ', g1, rb.go0 g.wl go1.stab, e, fun σ2 H2 w2 l2 s2 g2 go2 => k σ2 H2 w2 (l2.trans l1) (fun i hi => (s2 i hi).trans (s1 i hi)) g2 (go1.trans go2)⟩⟩
    · cases e
theorem z3c {n : Nat} (hc : X.calm = true) (h : z4j X b es ps) (hl : ∀ ds ρ ρ', ps ds ρ = some ρ' -> ds.length = n) (hn : (assignEach es X.env).length = n := by rfl) (hst : (assignEach es X.env).findIdx? (·.1) = none := by rfl) : PDG X b (.Tuple es k pos) (y78 ps) := PG.imp (z6n hc h hn hst) fun v σ H Q hh0 => by
  obtain ⟨d, ρ, w, t, ρ', g, r, e, k⟩ := hh0
  unfold y78 at e
  split at e
  · rename_i ds
    obtain ⟨a, vs, rfl, hq, rs⟩ := r.seqT
    exact ⟨a, vs, rfl, hq, by rw [<- rs.length]; exact hl _ _ _ e, ds, ρ, w, t, ρ', g, rs, e, k⟩
  · cases e
theorem y0i {p q : x6b} : ∀ ds ρ ρ', x2t p (x2t q x81) ds ρ = some ρ' -> ds.length = 2 := fun ds ρ ρ' h => by
  match ds with
  | [] => cases h
  | [_] => unfold x2t at h; simp at h; split at h <;> cases h
  | [_, _] => rfl
  | _ :: _ :: _ :: _ =>
    exfalso
    unfold x2t at h
    simp at h
    split at h
    · split at h <;> cases h
    · cases h
end
theorem y1z : ∀ {bs : List Bool} {us : List Value}, x2m (bs.map V.bl) us -> LSm.BoolsAre us bs
  | [], _, h => by cases h; exact .nil
  | b :: bs, _, h => by
    cases h with
    | cons r rr =>
      cases r
      exact .cons b (y1z rr)
section
variable {X : Cx} {a b c e : Expr} {es : List Expr} {fa fb fc f : Den} {g : x1v} {pos p p1 p2 : Pos}
theorem y8e (hc : X.calm = true) : x84 X (.builtin "all") (fun xs H Q => ∃ (a : Addr) (bs : List Bool), xs = [.ref a] /\ SqL X.K H a (bs.map V.bl) /\ Q (.bl (bs.all id)) H) := by
  intro pins s σ H xs us Q I r h
  obtain ⟨l, bs, rfl, hq, q⟩ := h
  obtain ⟨u, rfl, ru⟩ := y11 r
  cases ru
  obtain ⟨its, rv, pl, hz⟩ := I.list hq
  have hb := y1z rv
  have hl : s.heap.IsList l its.toArray := pl.isList
  have lt : l < s.heap.objs.size := by obtain ⟨_, e, _⟩ := hl; exact Heap.lt_size e
  refine call_all_walk (wpAny_pyIter_list hl ⟨s.heap.objs.size, [s.heap.objs.size, l], [s.heap.objs.size], its.toArray.size, _, _, fun i => (bs[i]?).getD true, rfl, Walks.list (A := X.A.in1) (I.ok.hd hc) _ l (Nat.ne_of_lt lt) its.toArray,
    ⟨⟨_, Heap.get?_push_size _ rfl, rfl, rfl⟩, hl.push _⟩, fun i v s' Q' E' hP hQ => ?_, fun h' tk hk => ?_⟩)
  · obtain ⟨b, e, rfl⟩ := hb.get i v (by simpa using hP)
    simp only [e, Option.getD_some] at hQ
    exact wpAny_truthy_bool hQ
  · have e : ((List.range its.toArray.size).all fun i => (bs[i]?).getD true) = bs.all id := by
      rw [List.size_toArray, hb.length]; exact LSm.range_all bs
    rw [e]
    exact ⟨.bl (bs.all id), H, I.kept fun b o z => hk b o (fun m => by rw [List.mem_singleton.mp m] at z; exact Nat.lt_irrefl _ (Heap.lt_size z)) (Heap.get?_push_of_some _ z), rfl, q⟩
noncomputable def z0j : List D -> Option (List Bool)
  | [] => some []
  | .bl b :: r => (z0j r).map (b :: ·)
  | _ => none
noncomputable def y75 : List D -> Option D
  | [.lst ds] => (z0j ds).map fun bs => .bl (bs.all id)
  | _ => none
theorem y2g {K : PySem.W.Frag} {H : Hp} {w : Wn} {o : Ow} : ∀ {ds : List D} {vs : List V} {bs : List Bool}, Reps K H w o 0 ds vs [] -> z0j ds = some bs -> vs = bs.map V.bl
  | ds, vs, bs, r, e => by
    generalize hF : ([] : List Addr) = F at r
    cases r with
    | nil => cases e; rfl
    | @cons _ d v ds' vs' F' G' r1 r2 _ =>
      have h2 : G' = [] := r2.zero
      subst h2
      cases r1 with
      | bl b =>
        unfold z0j at e
        cases e' : z0j ds' with
        | none => rw [e'] at e; cases e
        | some bs' =>
          rw [e'] at e
          cases e
          rw [y2g r2 e']
          rfl
      | _ => cases e
theorem z6h (hc : X.calm = true) (hm : X.mg "all" = none) (ha : PDA X [a] g) (hg : Gl X "all" := by rfl) (he : starEach [a] X.env = (false, eval a X.env) :: starEach [] X.env := by rfl) (hpl : (backTo pos (starEach [] X.env)).any (·.1) = false := by rfl) : PD X (.Call (.Name "all" p) [a] [] pos) (eB y75 g) :=
  PE.imp (x64 (y8e hc) hg hm PyProof.Rows.boot_all ha (by decide) (by decide) he hpl) (z0q fun ds d h => by
    unfold y75 at h
    split at h
    · rename_i ds0
      cases e : z0j ds0 with
      | none => rw [e] at h; cases h
      | some bs =>
        rw [e] at h
        cases h
        refine ⟨_, rfl, fun H w vs wl r Q hq => ?_⟩
        obtain ⟨v, rfl, rv⟩ := one r
        obtain ⟨p, ys, rfl, hs, rs⟩ := rv.seqL0
        rw [y2g rs e] at hs
        exact ⟨p, bs, rfl, hs, hq⟩
    · cases h)
theorem y0v {α : Type} (l : List α) (f : α -> Bool) : z0j (l.map fun i => .bl (f i)) = some (l.map f) := by
  induction l with
  | nil => rfl
  | cons a l ih => rw [List.map_cons, z0j, ih]; rfl
end
inductive IT where
  | int | bool | tuple | list | str
noncomputable def IT.nm : IT -> String
  | .int => "int"
  | .bool => "bool"
  | .tuple => "tuple"
  | .list => "list"
  | .str => "str"
noncomputable def isD : IT -> D -> Bool
  | .int, .int _ => true
  | .int, .bl _ => true
  | .bool, .bl _ => true
  | .tuple, .tup _ => true
  | .list, .lst _ => true
  | .str, .str _ => true
  | _, _ => false
noncomputable def tyD : D -> String
  | .non => "NoneType"
  | .bl _ => "bool"
  | .int _ => "int"
  | .str _ => "str"
  | .tup _ => "tuple"
  | .dic _ _ => "dict"
  | .exc _ => "object"
  | .lst _ => "list"
section
variable {X : Cx} {pins : List (Addr × Obj)} {σ : St} {H : Hp} {s : Shared}
theorem z5e {w : Wn} {o : Ow} {q : Nat} {F : List Addr} {d : D} {x : V} {u c : Value} {b : Bool} {A : Around} {E : Value -> Shared -> Prop} {Q : Value -> Shared -> Prop} (I : Inv X pins σ H s) (rx : x4b x u) (r : Rep X.K H w o q d x F)
    (e : PySem.W.kitOne X.K (.type (tyD d)) c = some b) (hx : ∀ nm, d ≠ .exc nm) (h : ∀ tk, Q (.bool b) { s with toks := tk }) : wpAny (model X.prog X.w) A (call (.builtin "isinstance") [u, c]) Q E s := by
  cases r with
  | exc _ _ _ => exact absurd rfl (hx _)
  | non => exact x3f I rx .non e h
  | bl y => exact x3f I rx (.bl y) e h
  | int i => exact x3f I rx (.int i) e h
  | str y => exact x3f I rx (.str y) e h
  | tup ha _ => exact x3f I rx (.tup ha) e h
  | dic ha _ => exact x3f I rx (.dK ha) e h
  | kl ha _ =>
    obtain ⟨ob, its, n, hk, hc, hd, _⟩ := ha
    cases rx
    exact PySem.W.kia_one PySem.W.kitx_list I.kIn ⟨ob, I.kIn _ _ hk, hc⟩ e (fun z => nomatch z) h
  | shr ha _ _ =>
    rcases ha with ha | ⟨ob, ha⟩
    · exact x3f I rx (.lst ha) e h
    · exact x3f I rx (.frz ha) e h
  | own ha _ _ _ => exact x3f I rx (.lst ha) e h
theorem z3h {K : PySem.W.Frag} (T : IT) (d : D) (hx : ∀ nm, d ≠ .exc nm) : PySem.W.kitOne K (.type (tyD d)) (.type T.nm) = some (isD T d) := by
  cases T <;> cases d <;> first | rfl | exact absurd rfl (hx _)
end
section
variable {X : Cx} {a b c e : Expr} {es : List Expr} {fa fb fc f : Den} {ga gb : x2k} {g : x1v} {pos p p1 p2 pT : Pos}
theorem z05 (T : IT) : x84 X (.builtin "isinstance") (fun xs H Q => ∃ x w o q F d, xs = [x, .ty T.nm] /\ Rep X.K H w o q d x F /\ Q (.bl (isD T d)) H) := by
  intro pins s σ H xs us Q I r h
  obtain ⟨x, w, o, q, F, d, rfl, rd, hq⟩ := h
  obtain ⟨u, v, rfl, ru, rv⟩ := y8a r
  cases rv
  by_cases hx : ∃ nm, d = .exc nm
  · obtain ⟨nm, rfl⟩ := hx
    cases rd with
    | exc ha xo _ =>
      obtain ⟨C, hc, k⟩ := xo
      cases ru
      obtain ⟨e1, _⟩ := (show x35 X.prog X.w H s.heap _ (.frz _ _) from I.hok _ _ ha)
      have hT : isD T (.exc nm) = false := by cases T <;> rfl
      rw [hT] at hq
      refine z5r (x := _) I.kIn ⟨e1, hc⟩ k.xc (by cases T <;> kernel_rfl) (k.no _ (by cases T <;> simp [IT.nm])) ⟨.bl false, H, I.tok _, rfl, hq⟩
  · exact z5e I ru rd (z3h T d fun nm z => hx ⟨nm, z⟩) (fun nm z => hx ⟨nm, z⟩) fun tk => ⟨.bl (isD T d), H, I.tok _, rfl, hq⟩
@[simp] noncomputable def z39 (T : IT) (fa : Den) : Den := fun ρ => match fa ρ with
  | some (d, _, ρ1) => some (.bl (isD T d), 9, ρ1)
  | none => none
theorem z5l (T : IT) {t : Str} (hm : X.mg "isinstance" = none) (hmT : X.mg t = none) (hbT : bootBuiltins t = some (.type T.nm)) (ha : PD X a fa) (hg : Gl X "isinstance" := by rfl) (hgT : Gl X t := by rfl) (hnT : t ≠ "__name__" := by decide) (hdT : (t == ("__debug__" : Str)) = false := by decide)
    (hs : starEach [a, .Name t pT] X.env = (false, eval a X.env) :: starEach [.Name t pT] X.env := by rfl) (hpl : (backTo pos (starEach [.Name t pT] X.env)).any (·.1) = false := by rfl) : PD X (.Call (.Name "isinstance" p) [a, .Name t pT] [] pos) (z39 T fa) :=
  PE.imp (x64 (z05 T) hg hm PyProof.Rows.boot_isinstance (x4c ha (x4c (y70 (v := .ty T.nm) hgT hmT hbT rfl hnT hdT) x7v x05) hs) (by decide) (by decide) hs hpl) fun σ H Q hh0 => by
  obtain ⟨ρ, w, t, r', q, ρ', gd, ee, k⟩ := hh0
  unfold z39 at ee
  split at ee
  · rename_i d q1 ρ1 h1
    cases ee
    refine ⟨ρ, w, t, _, _, _, gd, h1, fun v H1 w1 F1 g1 go1 r1 => ?_⟩
    exact ⟨v, w1, _, _, F1, d, rfl, r1, k _ H1 (x21 t w1) [] g1.drop.up (go1.drop gd.wt) (.bl _)⟩
  · cases ee
@[simp] noncomputable def eCh (g1 g2 : D -> D -> Option D) (fa fb fc : Den) : Den := fun ρ => match fa ρ with
  | some (x, _, ρ1) => match fb ρ1 with
    | some (y, _, ρ2) => match g1 x y with
      | some (.bl true) => match fc ρ2 with
        | some (z, _, ρ3) => match g2 y z with
          | some d => some (d, 9, ρ3)
          | none => none
        | none => none
      | some (.bl false) => some (.bl false, 9, ρ2)
      | _ => none
    | none => none
  | none => none
theorem z55 {op op' : CmpOp} {g1 g2 : Int -> Int -> Option D} {h1 h2 : Int -> Int -> V} (ho : OpR X (compareOp op) (rI0 h1)) (ho' : OpR X (compareOp op') (rI0 h2)) (e1 : ∀ i j d, g1 i j = some d -> x7i d = some (h1 i j)) (e2' : ∀ i j d, g2 i j = some d -> x7i d = some (h2 i j))
    (ha : PD X a fa) (hb : PD X b fb) (hc : PD X c fc) (hm : lastMarks [op, op'] [b, c] = false := by with_unfolding_all rfl) : PD X (.Compare a [op, op'] [b, c] pos) (eCh (gI g1) (gI g2) fa fb fc) := PE.imp (y8c ho ho' ha hb hc hm) fun σ H Q hh0 => by
  obtain ⟨ρ, w, t, r', q, ρ', gd, ee, k⟩ := hh0
  unfold eCh at ee
  split at ee
  · rename_i x q1 ρ1 a1
    split at ee
    · rename_i y q2 ρ2 a2
      refine z3t gd a1 a2 fun u v H2 w2 F1 F2 g2' go2 r1 r2 => ?_
      have gg := g2'.drop (t' := t)
      split at ee
      · rename_i hg
        obtain ⟨i, j, rfl, rfl, hg'⟩ := x5v hg
        refine ⟨i, j, x3h r1, x3h r2, true, by have := e1 i j _ hg'; simpa [x7i] using this.symm, ?_⟩
        rw [if_pos rfl]
        split at ee
        · rename_i z q3 ρ3 a3
          refine ⟨ρ2, x21 t w2, t, z, q3, ρ3, gg, a3, fun v3 H3 w3 F3 g3 go3 r3 => ?_⟩
          split at ee
          · rename_i d hd
            cases ee
            obtain ⟨j', l, ej, rfl, hd'⟩ := x5v hd
            cases ej
            exact ⟨j, l, x3h r2, x3h r3, z2m k gd g3 ((go2.drop gd.wt).trans go3) (x8h (e2' j l _ hd'))⟩
          · cases ee
        · cases ee
      · rename_i hg
        obtain ⟨i, j, rfl, rfl, hg'⟩ := x5v hg
        cases ee
        refine ⟨i, j, x3h r1, x3h r2, false, by have := e1 i j _ hg'; simpa [x7i] using this.symm, ?_⟩
        rw [if_neg (by decide)]
        exact z2m k gd g2' go2 (.bl false)
      · cases ee
    · cases ee
  · cases ee
theorem y2o (ha : PD X a fa) (hb : PD X b fb) (hc : PD X c fc) (hm : lastMarks [.LtE, .Lt] [b, c] = false := by with_unfolding_all rfl) : PD X (.Compare a [.LtE, .Lt] [b, c] pos) (eCh dLe dLt fa fb fc) :=
  z55 z1n z50 (fun i j d h => by cases h; rfl) (fun i j d h => by cases h; rfl) ha hb hc hm
noncomputable def dIs : D -> D -> Option D
  | .bl x, .bl y => some (.bl (x == y))
  | _, _ => none
noncomputable def x5w : D -> D -> Option D
  | .bl x, .bl y => some (.bl (!(x == y)))
  | _, _ => none
theorem y5l : OpR X (compareOp .IsNot) (fun x y H Q => ∃ i j, x = .bl i /\ y = .bl j /\ Q (.bl (!(i == j))) H) := by
  intro pins s σ H x y v u Q I rx ry h
  obtain ⟨i, j, rfl, rfl, q⟩ := h
  cases rx
  cases ry
  cases i <;> cases j
  · exact wpAny_pure ⟨.bl false, H, I, rfl, q⟩
  · exact wpAny_pure ⟨.bl true, H, I, rfl, q⟩
  · exact wpAny_pure ⟨.bl true, H, I, rfl, q⟩
  · exact wpAny_pure ⟨.bl false, H, I, rfl, q⟩
theorem z4g {K : PySem.W.Frag} : ∀ σ H Q, tD K (e2 x5w fa fb) σ H Q -> tOp (fun x y H Q => ∃ i j, x = .bl i /\ y = .bl j /\ Q (.bl (!(i == j))) H) (tD K fa) (tD K fb) σ H Q := x94 fun x y d h => by
  unfold x5w at h
  split at h
  · cases h
    exact ⟨_, rfl, fun H w o o' q q' u u' F F' r1 r2 _ Q hq => by cases r1; cases r2; exact ⟨_, _, rfl, rfl, hq⟩⟩
  · cases h
theorem y7c (ha : PD X a fa) (hb : PD X b fb) : PDT X (.Compare a [.IsNot] [b] pos) (x2y (e2 x5w fa fb)) := x7g y5l z4g ha hb (x9n _)
@[simp] noncomputable def z3u (fa : Den) : Den := fun ρ => match fa ρ with
  | some (.int i, _, ρ1) => some (.int (-i), 9, ρ1)
  | _ => none
theorem z4q (ha : PD X a fa) : PD X (.UnaryOp .USub a pos) (z3u fa) := PE.imp (z7i z4y ha) fun σ H Q hh0 => by
  obtain ⟨ρ, w, t, r', q, ρ', gd, ee, k⟩ := hh0
  unfold z3u at ee
  split at ee
  · rename_i i q1 ρ1 h1
    cases ee
    refine ⟨ρ, w, t, _, _, _, gd, h1, fun v H1 w1 F1 g1 go1 r1 => ?_⟩
    exact ⟨i, x3h r1, k _ H1 (x21 t w1) [] g1.drop.up (go1.drop gd.wt) (.int _)⟩
  · cases ee
section
variable {prog : Program} {w : World} {A : Around} {E : Value -> Shared -> Prop} {s : Shared}
theorem y8t (l b : Addr) (us vs : Array Value) (n m : Nat) (d1 d2 : Option Addr) (s1 s2 : Array (Option Value)) (h0 : us.isEmpty = true) :
    Meets (Builtin.«tuple.__add__» ⟨[.ref l, .ref b], []⟩) (fun _ R s => s.heap.get? l = some { cls := .type "tuple", dict := d1, data := .seq us n, slots := s1 } /\ s.heap.get? b = some { cls := .type "tuple", dict := d2, data := .seq vs m, slots := s2 } /\ R (.ok (.ret (.ref b))) s) :=
  .of_wp fun prog w A R s h => by
    obtain ⟨hp, g, d, tk, os⟩ := s
    obtain ⟨hl, hb, h⟩ := h
    have f2 := AutoSeq1.sub_tuple_tuple
    wp_walk using wpAny_loadPart' hl, wpAny_loadPart' hb
    exact ⟨_, rfl, h⟩
theorem y5g {t b : Addr} {ws : List Value} {Q : Value -> Shared -> Prop} (ht : IsTup s.heap t #[]) (hb : IsTup s.heap b ws.toArray) (h : Q (.ref b) s) : wpAny (model prog w) A (binaryOp .Add (.ref t) (.ref b)) Q E s := by
  obtain ⟨⟨c1, d1, a1, s1⟩, e1, hc1, n1, ha1⟩ := id ht
  obtain ⟨⟨c2, d2, a2, s2⟩, e2, hc2, n2, ha2⟩ := id hb
  simp only at hc1 ha1 hc2 ha2
  subst hc1 ha1 hc2 ha2
  exact concat_meets ⟨_, e1, rfl⟩ ⟨_, e2, rfl⟩ noFill_tuple_add seq_tuple_add PySem.F.slot_tuple_add PySem.F.entry_tuple_add (PySem.F.args_tuple_add_2 _ _) (y8t t b #[] ws.toArray n1 n2 d1 d2 s1 s2 rfl) ⟨e1, e2, h⟩
end
theorem z2u : OpR X (binaryOp .Add) (fun x y H Q => ∃ a b ys, x = .ref a /\ y = .ref b /\ SqT X.K H a [] /\ SqT X.K H b ys /\ Q (.ref b) H) := by
  intro pins s σ H x y v u Q I rx ry h
  obtain ⟨a, b, ys, rfl, rfl, ha, hb, q⟩ := h
  cases rx
  cases ry
  obtain ⟨its, r1, p1, _⟩ := I.tuple ha
  obtain ⟨its2, r2, p2, _⟩ := I.tuple hb
  cases r1
  exact y5g p1 p2 ⟨.ref b, H, I, rfl, q⟩
theorem OpR.or {f : Value -> Value -> Sem Value} {r r' : R2} (h : OpR X f r) (h' : OpR X f r') : OpR X f (fun x y H Q => r x y H Q \/ r' x y H Q) := fun pins s σ H x y v u Q I rx ry q => q.elim (fun z => h pins s σ H x y v u Q I rx ry z) fun z => h' pins s σ H x y v u Q I rx ry z
@[simp] noncomputable def y6m (fa fb : Den) : Den := fun ρ => match fa ρ with
  | some (.tup ds, _, ρ1) => match fb ρ1 with
    | some (.tup es, _, ρ2) => if ds.length + es.length <= 1000 then some (.tup (ds ++ es), 9, ρ2) else none
    | _ => none
  | _ => none
theorem z5b (ha : PD X a fa) (hb : PD X b fb) : PD X (.BinOp a .Add b pos) (y6m fa fb) := PE.imp (y4l (OpR.or z2u z1q) ha hb) fun σ H Q hh0 => by
  obtain ⟨ρ, w, t, r', q, ρ', gd, ee, k⟩ := hh0
  unfold y6m at ee
  split at ee
  · rename_i ds q1 ρ1 h1
    split at ee
    · rename_i es q2 ρ2 h2
      split at ee
      · rename_i hl
        cases ee
        refine z3t gd h1 h2 fun u u' H2 w2 F1 F2 g2 go r1 r2 => ?_
        have r10 := r1.drop (o := .f) (Nat.le_refl t)
        have r20 := r2.drop (o := .f) (Nat.le_succ t)
        have gg := g2.drop (t' := t)
        have gog := go.drop gd.wt
        obtain ⟨p1, vs, rfl, q1', s1⟩ := r10.seqT
        obtain ⟨p2, us, rfl, q2', s2⟩ := r20.seqT
        have l1 := s1.length
        have l2 := s2.length
        cases ds with
        | nil =>
          have : vs = [] := List.length_eq_zero_iff.mp (by rw [<- l1]; rfl)
          subst this
          refine .inl ⟨p1, p2, us, rfl, rfl, q1', q2', k _ H2 (x21 t w2) [] gg.up gog ?_⟩
          exact (Rep.go gg.wl (fun a x e n => ⟨e, n⟩) r20 (fun _ z => nomatch z) : Rep X.K H2 (x21 t w2) (.t t) 0 _ _ []).nolist rfl |>.2 9
        | cons d ds =>
          refine .inr ⟨p1, p2, vs, us, rfl, rfl, q1', q2', (fun z => by rw [z] at l1; cases l1), y27 (by rw [<- l1, <- l2]; exact hl), fun z => ?_, fun _ p hp => ?_⟩
          · have : es = [] := List.length_eq_zero_iff.mp (by rw [l2, z]; rfl)
            subst this
            rw [List.append_nil] at k
            exact k _ H2 (x21 t w2) [] gg.up gog ((Rep.go gg.wl (fun a x e n => ⟨e, n⟩) r10 (fun _ z => nomatch z) : Rep X.K H2 (x21 t w2) (.t t) 0 _ _ []).nolist rfl |>.2 9)
          · obtain ⟨a1, a2, a3⟩ := y1o gg hp (s2.app s1)
            exact k _ _ _ _ a1 (gog.trans a2) a3
      · cases ee
    · cases ee
  · cases ee
noncomputable abbrev z0u := Rho -> Option (Option Int × Rho)
noncomputable def tDO (K : PySem.W.Frag) (f : z0u) : TO := fun σ H Q => ∃ ρ w t o ρ', Good K ρ σ H w t /\ f ρ = some (o, ρ') /\ ∀ H' w', Good K ρ' σ H' w' t -> Go H w H' w' -> Q o H'
noncomputable abbrev PDO (X : Cx) (e : Option Expr) (f : z0u) : Prop := PO X e (tDO X.K f)
@[simp] noncomputable def x8i : z0u := fun ρ => some (none, ρ)
@[simp] noncomputable def x8a (f : Den) : z0u := fun ρ => match f ρ with
  | some (.int i, _, ρ1) => some (some i, ρ1)
  | _ => none
theorem PO.imp {e : Option Expr} {t t' : TO} (h : PO X e t) (i : ∀ σ H Q, t' σ H Q -> t σ H Q) : PO X e t' := fun pins s σ H Q I q => h pins s σ H Q I (i σ H Q q)
theorem y9c : PDO X none x8i := PO.imp z3a fun σ H Q hh0 => by
  obtain ⟨ρ, w, t, o, ρ', gd, ee, k⟩ := hh0
  cases ee
  exact k H w gd Go.refl
theorem y9x (h : PD X e f) : PDO X (some e) (x8a f) := PO.imp (z0y h) fun σ H Q hh0 => by
  obtain ⟨ρ, w, t, o, ρ', gd, ee, k⟩ := hh0
  unfold x8a at ee
  split at ee
  · rename_i i q1 ρ1 h1
    cases ee
    exact ⟨ρ, w, t, _, _, _, gd, h1, fun v H1 w1 F1 g1 go1 r1 => ⟨i, x3h r1, k H1 (x21 t w1) g1.drop (go1.drop gd.wt)⟩⟩
  · cases ee
section
variable {prog : Program} {w : World} {A : Around} {E : Value -> Shared -> Prop} {s : Shared}
theorem y4t {t sl : Addr} {us : Array Value} {vl vu : Value} {lo hi : Option Int} {Q : Value -> Shared -> Prop} (ht : IsTup s.heap t us) (hs : s.heap.IsSliceOf sl vl vu .none) (pl : IsPart vl lo) (pu : IsPart vu hi)
    (hw : HT.sIx us.size 0 lo = 0 /\ HT.sIx us.size us.size hi = us.size) (h : Q (.ref t) s) : wpAny (model prog w) A (getItem (.ref t) (.ref sl)) Q E s := by
  obtain ⟨os, hos, hcs, hds⟩ := id hs
  have ts : s.TypeIs (.ref sl) "slice" := ⟨os, hos, hcs⟩
  unfold getItem
  try with_reducible refine wpAny_holding ?_
  first | refine wpAny_bind (wpAny_pure ?_) | skip
  refine wpAny_bind (wpAny_sequenceKey ht.typeIs (by decide) (wpAny_bind (wpAny_callSpecial?_slot (name := Str.ofString "__getitem__") ht.typeIs PyProof.Rows.slot_tuple_getitem (wpAny_call_entry PyProof.Rows.slot_tuple_getitem ht.typeIs entry_tuple_getitem ?_ (args_tuple_getitem _ _)))))
  show wpAny _ _ (Builtin.Tuple.tupleItemsOf (.ref t) >>= _) _ _ s
  refine wpAny_bind (tupleItemsOf_ ht (wpAny_bind (wpAny_typeOf ts ?_)))
  rw [if_pos (by decide)]
  refine wpAny_bind (HT.x83 hs pl pu ?_)
  have yes : (((HT.sIx us.size 0 lo : Nat) : Int) == 0 && (1 : Int) == 1 && (HT.sIx us.size us.size hi - HT.sIx us.size 0 lo) == us.size) = true := by rw [hw.1, hw.2]; simp
  show wpAny _ _ (if (((HT.sIx us.size 0 lo : Nat) : Int) == 0 && (1 : Int) == 1 && (HT.sIx us.size us.size hi - HT.sIx us.size 0 lo) == us.size) = true then _ else _) _ _ s
  rw [if_pos yes]
  refine wpAny_bind (m := Builtin.Tuple.tupleIsExact _) ?_
  unfold Builtin.Tuple.tupleIsExact
  refine wpAny_bind (wpAny_typeOf ht.typeIs (wpAny_pure ?_))
  rw [if_pos (by decide)]
  exact wpAny_bind (wpAny_rule (wpAny_pure ⟨_, rfl, wpAny_pure h⟩))
end
noncomputable def z40 (xs : List D) (lo hi : Option Int) : List D := (xs.drop (HT.sIx xs.length 0 lo)).take (HT.sIx xs.length xs.length hi - HT.sIx xs.length 0 lo)
@[simp] noncomputable def eSl (fa : Den) (fl fh : z0u) : Den := fun ρ => match fa ρ with
  | some (.tup ds, _, ρ1) => match fl ρ1 with
    | some (lo, ρ2) => match fh ρ2 with
      | some (hi, ρ3) => some (.tup (z40 ds lo hi), 9, ρ3)
      | none => none
    | none => none
  | _ => none
theorem Reps.take0 {K : PySem.W.Frag} {H : Hp} {w : Wn} : ∀ {ds : List D} {vs : List V} (i : Nat), Reps K H w .f 0 ds vs [] -> Reps K H w .f 0 (ds.take i) (vs.take i) []
  | _, _, 0, _ => by rw [List.take_zero, List.take_zero]; exact .nil
  | ds, vs, i + 1, r => by
    generalize hF : ([] : List Addr) = F at r
    cases r with
    | nil => exact .nil
    | cons r s _ =>
      have h2 := s.zero
      have h1 := r.zero
      subst h2
      subst h1
      exact .cons (F := []) (G := []) r (Reps.take0 i s) (fun _ z => nomatch z)
theorem y8b : SlR X (fun x lo hi H Q => ∃ a xs, x = .ref a /\ SqT X.K H a xs /\ (HT.sIx xs.length 0 lo = 0 /\ HT.sIx xs.length xs.length hi = xs.length) /\ Q (.ref a) H) := by
  intro pins s σ H x v vl vu lo hi sl Q I rx hs pl pu h
  obtain ⟨a, xs, rfl, hx, hw, q⟩ := h
  cases rx
  obtain ⟨its, r, ht, hz⟩ := I.tuple hx
  have hlen : its.toArray.size = xs.length := by rw [List.size_toArray]; exact r.length.symm
  exact ⟨"tuple", _, PyProof.Rows.slot_tuple_getitem.lookup, ht.typeIs, y4t ht hs pl pu (by rw [hlen]; exact hw) ⟨.ref a, H, I, rfl, q⟩⟩
theorem z84 {lo hi : Option Expr} {fl fh : z0u} (ha : PD X a fa) (hl : PDO X lo fl) (hh : PDO X hi fh) : PD X (.Subscript a (.Slice lo hi none p2) pos) (eSl fa fl fh) := PE.imp (y99 (y8b.or z68) ha hl hh) fun σ H Q hh0 => by
  obtain ⟨ρ, w, t, r', q, ρ', gd, ee, k⟩ := hh0
  unfold eSl at ee
  split at ee
  · rename_i ds q1 ρ1 h1
    split at ee
    · rename_i lo ρ2 h2
      split at ee
      · rename_i hi ρ3 h3
        cases ee
        refine ⟨ρ, w, t, _, _, _, gd, h1, fun v H1 w1 F1 g1 go1 r1 => ?_⟩
        have gg1 := g1.drop (t' := t)
        have r0 := r1.drop (o := .f) (Nat.le_refl t)
        refine ⟨ρ1, x21 t w1, t, _, _, gg1, h2, fun H2 w2 g2 go2 => ⟨ρ2, w2, t, _, _, g2, h3, fun H3 w3 g3 go3 => ?_⟩⟩
        have r3 := (r0.go0 gg1.wl go2.stab).go0 g2.wl go3.stab
        obtain ⟨p1, vs, rfl, q1', s1⟩ := r3.seqT
        have l1 := s1.length
        by_cases hw : HT.sIx ds.length 0 lo = 0 /\ HT.sIx ds.length ds.length hi = ds.length
        · have ec : z40 ds lo hi = ds := by unfold z40; rw [hw.1, hw.2, List.drop_zero, Nat.sub_zero, List.take_length]
          rw [ec] at k
          refine .inl ⟨p1, vs, rfl, q1', by rw [<- l1]; exact hw, ?_⟩
          exact k _ H3 w3 [] g3.up (((go1.drop gd.wt).trans go2).trans go3) ((Rep.go g3.wl (fun a x e n => ⟨e, n⟩) r3 (fun _ z => nomatch z) : Rep X.K H3 w3 (.t t) 0 _ _ []).nolist rfl |>.2 9)
        · refine .inr ⟨p1, vs, rfl, q1', by rw [<- l1]; exact hw, fun p hp => ?_⟩
          have s4 : Reps X.K H3 w3 .f 0 (z40 ds lo hi) (z08 vs lo hi) [] := by
            unfold z40 z08
            rw [<- l1]
            exact (s1.drop0 _).take0 _
          obtain ⟨a1, a2, a3⟩ := y1o g3 hp s4
          exact k _ _ _ _ a1 ((((go1.drop gd.wt).trans go2).trans go3).trans a2) a3
      · cases ee
    · cases ee
  · cases ee
end
section
variable {X : Cx} {k b n : Nat} {a c e tg : Expr} {es : List Expr} {pt : x6b} {ps : x7l} {pos : Pos} {fa fb f : Den}
@[simp] noncomputable def z2i (f : Den) (pt : x6b) : x22 := fun ρ => match f ρ with
  | some (d, _, ρ1) => match pt d ρ1 with
    | some ρ2 => some (.nx ρ2)
    | none => none
  | none => none
theorem z31 (he : PD X e f) (hg : PDG X 0 tg pt) (hs : swapsWithSole [tg] e pos.line X.env = pure false := by rfl) (hw : swappedStores [tg] e X.env = pure none := by rfl) (h1 : (assignEach [tg] X.env).map (·.2) = [assign tg X.env] := by rfl) : PDS X (.Assign [tg] e pos) (z2i f pt) := PS.imp (z0x he hg hs hw h1) fun D σ H hh0 => by
  obtain ⟨ρ, w, o, g, ee, k⟩ := hh0
  unfold z2i at ee
  split at ee
  · rename_i d q ρ1 h1
    split at ee
    · rename_i ρ2 h2
      cases ee
      refine ⟨ρ, w, 0, d, q, ρ1, g, h1, fun v H1 w1 F1 g1 go1 r1 => ?_⟩
      exact ⟨d, ρ1, x21 0 w1, 0, ρ2, g1.drop, r1.drop (Nat.le_refl 0), h2, fun σ' H' w' hl _ g' go' => k σ' H' w' hl g' ((go1.drop g.wt).trans go')⟩
    · cases ee
  · cases ee
end
section
variable {X : Cx} {a b c e : Expr} {es : List Expr} {fa fb fc f : Den} {ga gb : x2k} {g : x1v} {pos p p1 p2 cpos apos : Pos}
theorem z33 {x : Str} {i : Int} (h : ∃ t, X.mg x = some (.int i t)) (hg : Gl X x := by rfl) (hd : (x == ("__debug__" : Str)) = false := by decide) : PD X (.Name x pos) (eC (.int i)) := by
  obtain ⟨t, h⟩ := h
  exact x6t (y6k (v := .int i) hg h ⟨t, rfl⟩ hd) fun _ _ _ _ _ => .int i
theorem z2a {op op' : CmpOp} {g1 g2 : Int -> Int -> Option D} {h1 h2 : Int -> Int -> V} (ho : OpR X (compareOp op) (rI0 h1)) (ho' : OpR X (compareOp op') (rI0 h2)) (e1 : ∀ i j d, g1 i j = some d -> x7i d = some (h1 i j)) (e2' : ∀ i j d, g2 i j = some d -> x7i d = some (h2 i j))
    (ha : PD X a fa) (hb : PD X b fb) (hc : PD X c fc) (hm : lastMarks [op, op'] [b, c] = false := by with_unfolding_all rfl) : PDT X (.Compare a [op, op'] [b, c] pos) (x2y (eCh (gI g1) (gI g2) fa fb fc)) := PT.imp (y7y ho ho' ha hb hc hm) (y41 fun σ H Q hh0 => by
  obtain ⟨ρ, w, t, r', q, ρ', gd, ee, k⟩ := hh0
  unfold eCh at ee
  split at ee
  · rename_i x q1 ρ1 a1
    split at ee
    · rename_i y q2 ρ2 a2
      refine z3t gd a1 a2 fun u v H2 w2 F1 F2 g2' go2 r1 r2 => ?_
      have gg := g2'.drop (t' := t)
      split at ee
      · rename_i hg
        obtain ⟨i, j, rfl, rfl, hg'⟩ := x5v hg
        refine ⟨i, j, x3h r1, x3h r2, true, by have := e1 i j _ hg'; simpa [x7i] using this.symm, ?_⟩
        rw [if_pos rfl]
        split at ee
        · rename_i z q3 ρ3 a3
          refine ⟨ρ2, x21 t w2, t, z, q3, ρ3, gg, a3, fun v3 H3 w3 F3 g3 go3 r3 => ?_⟩
          split at ee
          · rename_i d hd
            cases ee
            obtain ⟨j', l, ej, rfl, hd'⟩ := x5v hd
            cases ej
            exact ⟨j, l, x3h r2, x3h r3, z2m k gd g3 ((go2.drop gd.wt).trans go3) (x8h (e2' j l _ hd'))⟩
          · cases ee
        · cases ee
      · rename_i hg
        obtain ⟨i, j, rfl, rfl, hg'⟩ := x5v hg
        cases ee
        refine ⟨i, j, x3h r1, x3h r2, false, by have := e1 i j _ hg'; simpa [x7i] using this.symm, ?_⟩
        rw [if_neg (by decide)]
        exact z2m k gd g2' go2 (.bl false)
      · cases ee
    · cases ee
  · cases ee)
theorem y18 (ha : PD X a fa) (hb : PD X b fb) (hc : PD X c fc) (hm : lastMarks [.LtE, .LtE] [b, c] = false := by with_unfolding_all rfl) : PDT X (.Compare a [.LtE, .LtE] [b, c] pos) (x2y (eCh dLe dLe fa fb fc)) :=
  z2a z1n z1n (fun i j d h => by cases h; rfl) (fun i j d h => by cases h; rfl) ha hb hc hm
@[simp] noncomputable def z6w (i : Nat) (f : Den) : Den := fun ρ => if y73 ρ[i]? = true then match f ρ with
  | some (.lst es, 1, ρ1) => match ρ1[i]? with
    | some (some (.lst ds, 1)) => if ds.length + es.length <= 1000 then some (.non, 9, ρ1.set i (some (.lst (ds ++ es), 1))) else none
    | _ => none
  | _ => none
  else none
theorem y5w {i : Nat} {x : Str} (h : PE X (.Name x p1) (x9i i)) (ha : PD X e f)
    (hbase : attributeBase (.Name x p1) "extend" X.env (eval (.Name x p1) X.env) = eval (.Name x p1) X.env := by rfl)
    (hfew : ((backTo cpos (starEach [e] X.env)).all (fun x => !x.1) && (backToKw cpos (keywordEach [] X.env)).all (fun x => x.1.isSome)
      && decide ([e].length + ([] : List Keyword).length + (if ([] : List Keyword).isEmpty then 0 else 1) < 30)) = true := by rfl)
    (hline : (apos.endLine == cpos.line) = true := by rfl) (hs : starEach [e] X.env = (false, eval e X.env) :: starEach [] X.env := by rfl) (hplain : (backTo cpos (starEach [] X.env)).any (·.1) = false := by rfl) :
    PD X (.Call (.Attribute (.Name x p1) "extend" apos) [e] [] cpos) (z6w i f) :=
  PE.imp (y4y PySem.F.plainAttrs_list PySem.F.slot_list_extend PySem.F.type_list_extend y5k h (x4c ha x7v hs) hbase hfew hline hs hplain) fun σ H Q hh0 => by
  obtain ⟨ρ, w, t, r', q, ρ', gd, ee, k⟩ := hh0
  unfold z6w at ee
  split at ee
  · rename_i hl
    obtain ⟨l, hσ, us, hq⟩ := gd.isL hl
    split at ee
    · rename_i es' ρ1 h1
      split at ee
      · rename_i ds e1
        split at ee
        · rename_i hlen
          cases ee
          refine ⟨_, hσ, .inl ⟨rfl, us, hq⟩, ρ, w, t, _, _, _, gd, h1, fun v H1 w1 F1 g1 go1 r1 => ?_⟩
          obtain ⟨l', ws, hσ', hH, rs, mk⟩ := g1.mut e1
          rw [hσ] at hσ'
          cases hσ'
          cases r1 with
          | own hb _ rz _ =>
            have z0 := rz.zero
            subst z0
            have rz' : Reps X.K H1 w1 .f 0 es' _ [] := rz.any g1.wl
            obtain ⟨m1, m2⟩ := mk _ _ (rz'.app rs)
            refine ⟨l, _, ws, _, rfl, rfl, hH, hb, y27 (by rw [<- rs.length, <- rz'.length]; exact hlen), ?_⟩
            exact k .non _ w1 [] m1 (go1.trans m2) .non
        · cases ee
      · cases ee
    · cases ee
  · cases ee
end
section
variable {X : Cx} {a b c e : Expr} {es : List Expr} {fa fb fc f : Den} {ga gb gc : x2k} {g : x1v} {qa qb : y4h} {s : x22} {pos p p1 p2 cpos apos : Pos}
@[simp] noncomputable def y7k : x22 := fun _ => none
theorem y71 {st : Stmt} : PDS X st y7k := PS.imp y8y fun D σ H hh0 => by obtain ⟨ρ, w, o, g, ee, k⟩ := hh0; cases ee
end
end L3
namespace L3
open PySem PySem.Spec PyProof.Rows L2
end L3
namespace L3
open PySem PySem.Spec PyProof.Rows L2
theorem z5x {prog : Program} {w : World} {A : Around} (hh : A.handled = none) (it p : Addr) (hne : p ≠ it) (items : Array Value) :
    Draws prog w A it [it, p] items.size (fun i v => items[i]? = some v) (fun i h => h.IsTupleIter it p i /\ h.IsTuple p items) where
  live := fun _ _ st => by obtain ⟨⟨o, ho, _⟩, _⟩ := st; exact ⟨o, ho⟩
  frame := fun _ _ _ st hk => by
    obtain ⟨a, ⟨o, e, r⟩⟩ := st
    exact ⟨a.at fun o e => hk it (by simp) o e, ⟨o, hk p (by simp) o e, r⟩⟩
  item := fun i s Q E hi st hQ => by
    refine x60 st.1 st.2 (v := items[i]) (by simp [hi]) fun h' hit' hs' => ?_
    exact hQ _ h' s.toks (by simp [hi]) ⟨hit', st.2.extBut hs'.extBut hne⟩ hs'
  done := fun s Q E st hE => x8o hh st.1 st.2 (by simp) hE
section
variable {prog : Program} {w : World} {A : Around} {E : Value -> Shared -> Prop} {s : Shared}
theorem y5z {p : Addr} {xs : Array Value} {Q : Value -> Shared -> Prop} (t1 : s.heap.IsTuple p xs)
    (k : ∀ h', IsEnum h' (s.heap.objs.size + 1) s.heap.objs.size 0 .none -> h'.IsTupleIter s.heap.objs.size p 0 -> h'.objs.size = s.heap.objs.size + 2 ->
      (∀ b o, s.heap.get? b = some o -> h'.get? b = some o) -> Q (.ref (s.heap.objs.size + 1)) { s with heap := h' }) :
    wpAny (model prog w) A (call (.type "enumerate") [.ref p]) Q E s := by
  have mt : Meets (Builtin.«enumerate.__new__» ⟨[.type "enumerate", .ref p], []⟩) (fun _ R s' => s' = s /\
      R (.ok (.ret (.ref (s.heap.push { cls := .type "tuple_iterator", data := .fields #[.ref p, .int 0 0] }).objs.size)))
        { s with heap := (s.heap.push { cls := .type "tuple_iterator", data := .fields #[.ref p, .int 0 0] }).push { cls := .type "enumerate", data := .fields #[.none, .bool false, .ref s.heap.objs.size, rawInt 0, .none, .none] } }) := .of_wp fun prog w A R s' h => by
    obtain ⟨rfl, h⟩ := h
    have hsub := sub_enumerate
    obtain ⟨hp, gn, dr, tk, os⟩ := s'
    have q1 : Heap.IsTuple (Shared.heap ⟨hp, gn, dr, tk, os⟩) p xs := t1
    wp_walk using wpAny_pyIter_tuple q1
    refine wpAny_stack_any fun st => wpAny_pure ?_
    split
    · rename_i c _ _ _ _ _
      cases (c == Value.type "enumerate")
      · wp_walk using wpAny_pyIter_tuple q1
        exact ⟨_, rfl, h⟩
      · wp_walk using wpAny_pyIter_tuple q1
        exact ⟨_, rfl, h⟩
    · wp_walk using wpAny_pyIter_tuple q1
      exact ⟨_, rfl, h⟩
  refine callType_new F.called_enumerate (by decide) (F.typeCall_enumerate_1 _) (F.newCall_enumerate_1 _) (fun obj => F.args_object_init_2 obj _) F.entry_enumerate_new mt ⟨rfl, ?_⟩
  have hz : (s.heap.push { cls := .type "tuple_iterator", data := .fields #[.ref p, .int 0 0] }).objs.size = s.heap.objs.size + 1 := Heap.size_push ..
  show _ /\ _
  rw [hz]
  have he : IsEnum ((s.heap.push { cls := .type "tuple_iterator", data := .fields #[.ref p, .int 0 0] }).push
      { cls := .type "enumerate", data := .fields #[.none, .bool false, .ref s.heap.objs.size, rawInt 0, .none, .none] }) (s.heap.objs.size + 1) s.heap.objs.size 0 .none := by
    have := Heap.get?_push_size (s.heap.push { cls := .type "tuple_iterator", data := .fields #[.ref p, .int 0 0] })
      (o := { cls := .type "enumerate", data := .fields #[.none, .bool false, .ref s.heap.objs.size, rawInt 0, .none, .none] }) rfl
    rw [hz] at this; exact this
  exact ⟨⟨_, he, rfl⟩, k _ he ⟨_, Heap.get?_push_of_some _ (Heap.get?_push_size _ rfl), rfl, rfl⟩ (by rw [Heap.size_push, hz]) fun b o x => Heap.get?_push_of_some _ (Heap.get?_push_of_some _ x)⟩
end
structure Src (P : Program) (w : World) (K : PySem.W.Frag) (it p : Addr) (Sq : Hp -> List V -> Prop) (tn : Nat -> Heap -> Prop) : Prop where
  keep : ∀ i h h', tn i h -> (∀ o, h.get? it = some o -> h'.get? it = some o) -> tn i h'
  obj : ∀ i h, tn i h -> ∃ o vs, h.get? it = some o /\ o.data = .fields vs
  draw : ∀ (X : Cx), X.prog = P -> X.w = w -> X.K = K -> X.calm = true -> ∀ (pins : List (Addr × Obj)) (s : Shared) (σ : St) (H : Hp) (xs : List V), Inv X pins σ H s -> Sq H xs -> ∃ (us : List Value) (St : Nat -> Heap -> Prop), x2m xs us /\
    Draws P w X.A.in1 it [it, p] us.length (fun i v => us[i]? = some v) St /\ (∀ i, tn i s.heap -> St i s.heap) /\ (∀ i h, St i h -> tn i h) /\ ∀ ys, Sq H ys -> ys = xs
theorem y87 {P : Program} {w : World} {K : PySem.W.Frag} {it p : Addr} (hne : p ≠ it) : Src P w K it p (fun H xs => SqL K H p xs) (fun i h => h.IsListIter it p i) where
  keep := fun i h h' st k => st.at k
  obj := fun i h st => by obtain ⟨o, e, c, d⟩ := st; exact ⟨o, _, e, d⟩
  draw := fun X hP hw hK hc pins s σ H xs I hq => by
    subst hP hw hK
    obtain ⟨its, rv, pl, _⟩ := I.list hq
    have D := Draws.list (prog := X.prog) (w := X.w) (A := X.A.in1) (I.ok.hd hc) it p hne its.toArray
    rw [List.size_toArray] at D
    exact ⟨its, (fun i h => h.IsListIter it p i /\ h.IsList p its.toArray), rv, (by simpa using D), fun i st => ⟨st, pl.isList⟩, fun i h st => st.1, fun ys hy => I.list_inj hy hq⟩
theorem z3i {P : Program} {w : World} {K : PySem.W.Frag} {it p : Addr} (hne : p ≠ it) : Src P w K it p (fun H xs => SqT K H p xs) (fun i h => h.IsTupleIter it p i) where
  keep := fun i h h' st k => st.at k
  obj := fun i h st => by obtain ⟨o, e, c, d⟩ := st; exact ⟨o, _, e, d⟩
  draw := fun X hP hw hK hc pins s σ H xs I hq => by
    subst hP hw hK
    obtain ⟨its, rv, pl, _⟩ := I.tuple hq
    have D := z5x (prog := X.prog) (w := X.w) (A := X.A.in1) (I.ok.hd hc) it p hne its.toArray
    rw [List.size_toArray] at D
    exact ⟨its, (fun i h => h.IsTupleIter it p i /\ h.IsTuple p its.toArray), rv, (by simpa using D), fun i st => ⟨st, pl⟩, fun i h st => st.1, fun ys hy => I.tuple_inj hy hq⟩
noncomputable def Ite (Sq : Hp -> List V -> Prop) : It :=
  ⟨fun i H => ∃ xs x, Sq H xs /\ xs[i]? = some x,
   fun i H v H' => ∃ T x, v = .ref T /\ H T = none /\ (∀ xs, Sq H xs -> xs[i]? = some x) /\ H' = upd H T (.tup [.int (Int.ofNat i), x]),
   fun i H => ∃ xs, Sq H xs /\ xs.length = i⟩
theorem y6t {P : Program} {w : World} {K : PySem.W.Frag} {elts : List Expr} {kt : Nat} {tp : Pos} {e it p : Addr} {Sq : Hp -> List V -> Prop} {tn : Nat -> Heap -> Prop} (S : Src P w K it p Sq tn) (hne : e ≠ it) (hp : e ≠ p) :
    Turn P w K (.Tuple elts kt tp) (Ite Sq) [e, it] e (fun i h => (∃ old, IsEnum h e it i old) /\ tn i h) where
  mem := by simp
  obj := fun i h st b hb => by
    obtain ⟨⟨old, he⟩, st⟩ := st
    simp only [List.mem_cons, List.not_mem_nil, or_false] at hb
    rcases hb with rfl | rfl
    · exact ⟨_, he, fun v e => nomatch e⟩
    · obtain ⟨o, vs, e, d⟩ := S.obj i h st
      exact ⟨o, e, fun v z => by rw [d] at z; cases z⟩
  keep := fun i h h' st k => by
    obtain ⟨⟨old, he⟩, st⟩ := st
    exact ⟨⟨old, k e (by simp) _ he⟩, S.keep i h h' st fun o z => k it (by simp) o z⟩
  item := by
    intro X hP hw hK hc i pins s σ H E I hf st hg
    obtain ⟨⟨old, he⟩, st⟩ := st
    obtain ⟨xs, x, hq, hx⟩ := hg
    obtain ⟨us, St, rv, D, s1, s2, inj⟩ := S.draw X hP hw hK hc pins s σ H xs I hq
    obtain ⟨u, hu, ru⟩ := rv.get hx
    have hlt : i < us.length := (List.getElem?_eq_some_iff.mp hu).1
    refine wpAny_pyNext_enum_itemD D he (s1 i st) hlt hne (by simp [hne, hp]) fun u' g tk hP' ho hs' hT hsz hk => ?_
    have eu : u' = u := by rw [hu] at hP'; exact (Option.some.inj hP').symm
    subst eu
    refine ⟨_, rfl, wpAny_letOwnedTupleGo_enum (s := { s with heap := g, toks := tk + 1 }) ho fun g' he' sb => ?_⟩
    have sb' : Heap.SameBut e g g' := sb
    have fr : H s.heap.objs.size = none := I.hok.fresh (Nat.le_refl _)
    have ri : x4b (.int (Int.ofNat i)) (.int i tk) := ⟨tk, rfl⟩
    have I1 : Inv X pins σ (upd H s.heap.objs.size (.tup [.int (Int.ofNat i), x])) { s with heap := s.heap.push { cls := .type "tuple", data := .seq #[.int i tk, u'] } } :=
      I.laid (t' := s.toks) (fun b q e => Heap.get?_push_of_some _ e) (Nat.le_refl _) (show x35 X.prog X.w _ _ _ (.tup _) from ⟨(by show 2 <= sizeLine; decide), [.int i tk, u'], .cons ri (.cons ru .nil), x4u.new _ _⟩)
    have lt : ∀ b ∈ [e, it], b < s.heap.objs.size := fun b hb => by
      simp only [List.mem_cons, List.not_mem_nil, or_false] at hb
      rcases hb with rfl | rfl
      · exact Heap.lt_size he
      · obtain ⟨o, _, e, _⟩ := S.obj i _ st; exact Heap.lt_size e
    have hn : ∀ b ∈ [e, it], upd H s.heap.objs.size (.tup [.int (Int.ofNat i), x]) b = none := fun b hb => by rw [x0w (Nat.ne_of_lt (lt b hb))]; exact (hf b hb).1
    have I2 : Inv X pins σ (upd H s.heap.objs.size (.tup [.int (Int.ofNat i), x])) { s with heap := g', toks := tk + 1 } := y2z (s := { s with heap := s.heap.push { cls := .type "tuple", data := .seq #[.int i tk, u'] } }) (t' := tk + 1) (ch := [e, it]) I1 (fun b q nb z => by
      have b1 : b ≠ e := fun h => nb (by simp [h])
      have b2 : b ≠ it := fun h => nb (by simp [h])
      rcases Heap.get?_push_cases z with ⟨rfl, rfl⟩ | z'
      · exact sb'.extBut _ _ b1 hT
      · exact sb'.extBut _ _ b1 (hk b q b1 b2 z')) fun b hb => by
          obtain ⟨f0, f1, f2, f3, f4, f5⟩ := hf b hb
          exact ⟨hn b hb, f1, f2, f3, f4, f5⟩
    refine ⟨.ref s.heap.objs.size, _, I2, rfl, ⟨s.heap.objs.size, x, rfl, fr, fun zs hz => ?_, rfl⟩, ⟨⟨_, he'⟩, ?_⟩, hn⟩
    · rw [inj zs hz]; exact hx
    · exact S.keep _ _ _ (s2 _ _ hs') fun o z => sb'.extBut _ _ (Ne.symm hne) z
  done := by
    intro X hP hw hK hc i pins s σ H E I hf st hg
    obtain ⟨⟨old, he⟩, st⟩ := st
    obtain ⟨xs, hq, hx⟩ := hg
    obtain ⟨us, St, rv, D, s1, s2, inj⟩ := S.draw X hP hw hK hc pins s σ H xs I hq
    have hl : us.length = i := by rw [<- rv.length]; exact hx
    subst hl
    refine wpAny_pyNext_enum_endD D he (s1 _ st) fun g kp => ⟨rfl, ?_⟩
    obtain ⟨f0, f1, f2, f3, f4, f5⟩ := hf it (by simp)
    exact I.turned (t' := s.toks) (fun b o hb z => kp b o hb z) f0 f1 f3 f4 f5
  self := fun _ _ _ _ _ st h => by
    obtain ⟨⟨old, he⟩, _⟩ := st
    exact wpAny_pyIter_enum he h
section
variable {X : Cx} {a b c e : Expr} {es elts : List Expr} {fa fb fc f : Den} {g : x1v} {pos p p1 p2 tp : Pos} {kt : Nat}
noncomputable def z92 (K : PySem.W.Frag) (ta : TA) : TI := fun σ H R => ta σ H fun vs H1 => ∃ p, vs = [.ref p] /\ (((∃ xs, SqL K H1 p xs) /\ R (Ite fun H xs => SqL K H p xs) H1) \/ ((∃ xs, SqT K H1 p xs) /\ R (Ite fun H xs => SqT K H p xs) H1))
theorem z1d {ta : TA} (hg : Gl X "enumerate") (hm : X.mg "enumerate" = none) (ha : PA X [a] ta) (hs : starEach [a] X.env = [(false, eval a X.env)] := by rfl) :
    PI X (.Tuple elts kt tp) (.Call (.Name "enumerate" p) [a] [] pos) (z92 X.K ta) := by
  intro pins s σ H R I h
  refine Call_ (x93 I hg hm boot_enumerate (PyProof.Rows.callWith_type1 (thn (ha pos pins s σ H _ I h) fun us s1 ⟨vs, H1, I1, r1, q1⟩ => ?_) hs rfl))
  obtain ⟨q, ee, hq⟩ := q1
  subst ee
  cases r1 with
  | cons r rr =>
    cases rr
    cases r
    have ne1 : s1.heap.objs.size + 1 ≠ s1.heap.objs.size := Nat.succ_ne_self _
    have fin : ∀ {g : Heap} {Sq : Hp -> List V -> Prop} {tn : Nat -> Heap -> Prop}, q < s1.heap.objs.size -> Src X.prog X.w X.K s1.heap.objs.size q Sq tn -> IsEnum g (s1.heap.objs.size + 1) s1.heap.objs.size 0 .none -> tn 0 g -> (∀ b o, s1.heap.get? b = some o -> g.get? b = some o) -> R (Ite Sq) H1 ->
        wpAny (model X.prog X.w) X.A (pyIter (.ref (s1.heap.objs.size + 1))) (PIE X pins σ (.Tuple elts kt tp) R) X.xe { s1 with heap := g } := fun {g Sq tn} lq S he ht kp hR => by
      have ne2 : s1.heap.objs.size + 1 ≠ q := Nat.ne_of_gt (Nat.lt_succ_of_lt lq)
      refine wpAny_pyIter_enum he ⟨s1.heap.objs.size + 1, [s1.heap.objs.size + 1, s1.heap.objs.size], _, _, H1, rfl, I1.kept (t' := s1.toks) kp, y6t S ne1 ne2, ⟨⟨_, he⟩, ht⟩, fun b hb => ?_, hR⟩
      have far : s1.heap.objs.size <= b := by
        simp only [List.mem_cons, List.not_mem_nil, or_false] at hb
        rcases hb with rfl | rfl
        · exact Nat.le_add_right _ _
        · exact Nat.le_refl _
      exact I1.fpOk far (I1.hok.fresh far)
    rcases hq with ⟨⟨xs, hx⟩, hR⟩ | ⟨⟨xs, hx⟩, hR⟩
    · obtain ⟨its, rv, pl, _⟩ := I1.list hx
      have lq : q < s1.heap.objs.size := by obtain ⟨_, e, _⟩ := pl.isList; exact Heap.lt_size e
      exact call_enumerate_list pl.isList fun g he hi _ kp => fin lq (y87 (Nat.ne_of_lt lq)) he hi kp hR
    · obtain ⟨its, rv, pl, _⟩ := I1.tuple hx
      have lq : q < s1.heap.objs.size := by obtain ⟨_, e, _⟩ := pl; exact Heap.lt_size e
      exact y5z (show s1.heap.IsTuple q its.toArray from pl) fun g he hi _ kp => fin lq (z3i (Nat.ne_of_lt lq)) he hi kp hR
noncomputable def x9f (ds : List D) : List D := ds.zipIdx.map fun x => .tup [.int (Int.ofNat x.2), x.1]
theorem x6r (ds : List D) : (x9f ds).length = ds.length := by simp [x9f]
theorem y1n (ds : List D) (i : Nat) : (x9f ds)[i]? = (ds[i]?).map fun d => .tup [.int (Int.ofNat i), d] := by
  simp only [x9f, List.getElem?_map, List.getElem?_zipIdx, Option.map_map]
  cases ds[i]? with
  | none => rfl
  | some d => simp
@[simp] noncomputable def y6r (g : x1v) : y09 := fun ρ => match g ρ with
  | some ([.lst ds], ρ1) => if ds.length <= 1000 then some (x9f ds, ρ1) else none
  | some ([.tup ds], ρ1) => if ds.length <= 1000 then some (x9f ds, ρ1) else none
  | _ => none
theorem It.enum {K : PySem.W.Frag} {Sq : Hp -> List V -> Prop} {vs : List V} {ds : List D} {P : Hp -> Wn -> Prop} (hl : ds.length = vs.length) (sq : ∀ H w, P H w -> Sq H vs /\ Reps K H w .f 0 ds vs []) (ps : ∀ H w H' w', P H w -> WL w H -> x76 H w H' w' -> P H' w') : ItOk K (Ite Sq) (x9f ds) P := by
  refine ⟨fun i H w p hi => ⟨vs, vs[i]'(by rw [x6r] at hi; omega), (sq H w p).1, by simp⟩, fun i H w x H' d p wl hd y => ?_, fun H w p => ⟨vs, (sq H w p).1, by rw [x6r]; exact hl.symm⟩, ps⟩
  obtain ⟨T, v, rfl, hT, hv, rfl⟩ := y
  obtain ⟨q1, r1⟩ := sq H w p
  rw [y1n] at hd
  cases hz : ds[i]? with
  | none => rw [hz] at hd; cases hd
  | some d0 =>
    rw [hz] at hd
    cases hd
    obtain ⟨v', hv', rv⟩ := r1.get hz
    have ev : v' = v := by have := hv vs q1; rw [hv'] at this; exact Option.some.inj this
    subst ev
    have mo : ∀ a o, H a = some o -> upd H T (.tup [.int (Int.ofNat i), v']) a = some o := fun a o e => by rw [x0w (x1t e hT)]; exact e
    have st : x76 H w (upd H T (.tup [.int (Int.ofNat i), v'])) w := fun a x e n => ⟨mo a x e, n⟩
    exact ⟨mo, .tup x2h (.cons (F := []) (G := []) (.int _) (.cons (F := []) (G := []) (Rep.go0 rv wl st) .nil (fun _ z => nomatch z)) (fun _ z => nomatch z)), ps _ _ _ _ p wl st⟩
theorem y7v (hm : X.mg "enumerate" = none) (ha : PDA X [a] g) (hg : Gl X "enumerate" := by rfl) (hs : starEach [a] X.env = [(false, eval a X.env)] := by rfl) :
    PDI X (.Tuple elts kt tp) (.Call (.Name "enumerate" p) [a] [] pos) (y6r g) := PI.imp (z1d hg hm ha hs) fun σ H R hh0 => by
  obtain ⟨ρ, w, t, ds, ρ', gd, ee, k⟩ := hh0
  unfold y6r at ee
  split at ee
  · rename_i d1 ρ1 h1
    split at ee
    · rename_i hl
      cases ee
      refine ⟨ρ, w, t, _, _, gd, h1, fun vs H1 w1 g1 go1 r1 => ?_⟩
      obtain ⟨v, rfl, rv⟩ := one r1
      have hz : (x9f d1).length < sizeLine := by rw [x6r]; exact x3i hl
      cases rv with
      | kl h r => exact ⟨_, rfl, .inl ⟨⟨_, h.sq⟩, k _ _ H1 w1 g1 go1 (It.enum (P := fun H w => (KL X.K _ _ \/ False) /\ Reps X.K H w .f 0 d1 _ []) r.length (fun H w p => ⟨p.1.elim (fun z => z.sq) fun z => z.elim, p.2⟩) fun H w H' w' p wl st => ⟨p.1, Reps.go wl st p.2 (fun _ z => nomatch z)⟩) ⟨.inl h, r⟩ hz⟩⟩
      | shr h n r => exact ⟨_, rfl, .inl ⟨⟨_, .inl h⟩, k _ _ H1 w1 g1 go1 (It.enum (P := fun H w => (Rd H _ (.lst _) /\ w _ = none) /\ Reps X.K H w .f 0 d1 _ []) r.length (fun H w p => ⟨.inl p.1.1, p.2⟩) fun H w H' w' p wl st => ⟨RdL.go st p.1.2 p.1.1, Reps.go wl st p.2 (fun _ z => nomatch z)⟩) ⟨⟨h, n⟩, r⟩ hz⟩⟩
    · cases ee
  · rename_i d1 ρ1 h1
    split at ee
    · rename_i hl
      cases ee
      refine ⟨ρ, w, t, _, _, gd, h1, fun vs H1 w1 g1 go1 r1 => ?_⟩
      obtain ⟨v, rfl, rv⟩ := one r1
      have hz : (x9f d1).length < sizeLine := by rw [x6r]; exact x3i hl
      obtain ⟨p1, as, rfl, q1, s1⟩ := rv.seqT
      exact ⟨p1, rfl, .inr ⟨⟨_, q1⟩, k _ _ H1 w1 g1 go1 (It.enum (P := fun H w => SqT X.K H p1 as /\ Reps X.K H w .f 0 d1 as []) s1.length (fun H w p => p) fun H w H' w' p wl st => ⟨SqT.go wl st p.1, Reps.go wl st p.2 (fun _ z => nomatch z)⟩) ⟨q1, s1⟩ hz⟩⟩
    · cases ee
  · cases ee
end
end L3
namespace L3
open PySem PySem.Spec PyProof.Rows PySem.W L2
theorem z20 {P : Program} {w : World} {H : Hp} {h : Heap} {a : Addr} {o : HO} (x : x35 P w H h a o) : ∃ ob, h.get? a = some ob := by
  cases o with
  | lst xs => obtain ⟨_, _, _, _, e⟩ := x; exact ⟨_, e⟩
  | tup xs => obtain ⟨_, _, _, o, e, _⟩ := x; exact ⟨_, e⟩
  | dK kvs => obtain ⟨_, _, _, _, o, _, _, e, _⟩ := x; exact ⟨_, e⟩
  | dT kvs => obtain ⟨_, _, _, _, o, _, _, e, _⟩ := x; exact ⟨_, e⟩
  | set S n => obtain ⟨o, _, _, _, e, _⟩ := x; exact ⟨_, e⟩
  | ins C dx fs => obtain ⟨_, _, _, e, _⟩ := x; exact ⟨_, e⟩
  | own y => obtain ⟨_, e⟩ := x; exact ⟨_, e⟩
  | xd fs => obtain ⟨_, ⟨_, _, _, e, _⟩, _⟩ := x; exact ⟨_, e⟩
  | rng lo hi => obtain ⟨_, _, _, e⟩ := x; exact ⟨_, e⟩
  | frz ob u => obtain ⟨e, _⟩ := x; exact ⟨_, e⟩
  | tbl ps => exact ⟨_, (show h.get? a = some _ from x)⟩
  | met f y => exact ⟨_, (show h.get? a = some _ from x)⟩
  | ext φ => obtain ⟨_, ⟨_, e⟩, _⟩ := x; exact ⟨_, e⟩
theorem y2q {P : Program} {w : World} {H : Hp} {h h' : Heap} (x : HOk P w H h) (k : ∀ b u o, H b = some u -> h.get? b = some o -> h'.get? b = some o) : HOk P w H h' := fun b u e =>
  (x b u e).stay (fun c o hc q => by
    rcases hc with z | z
    · rw [z] at q ⊢; exact k b u o e q
    · exact k c _ o z q) (fun _ q => q) fun _ _ q => q
structure Fly (P : Program) (w : World) (outer : List Env) (H : Hp) (s : Shared) (a C t : Addr) (B : Heap) (H' : Hp) (s' : Shared) : Prop where
  os : s'.os = s.os
  bare : AllBare s'.gens
  un : Un (frs outer) [] H H' s.heap s'.heap
  hok : HOk P w H' s'.heap
  fl : Heap.FlyingW B outer a (.ref C) (.ref t) s'.heap
  old : ∀ b o, s.heap.get? b = some o -> H b = none -> b ∉ frs outer -> B.get? b = some o
  oldT : ∀ b o, s.heap.get? b = some o -> b ∉ frs outer -> ∃ o', B.get? b = some o'
  trk : ∀ b u o, H' b = some u -> s'.heap.get? b = some o -> B.get? b = some o
  free : H' a = none
noncomputable def CXF (P : Program) (w : World) : CXT := fun outer H s E e s' => ∃ (a C t : Addr) (B : Heap) (H' : Hp), e = .ref a /\ Fly P w outer H s a C t B H' s' /\ E (.ref C) none H'
section
variable {P : Program} {w : World} {K : PySem.W.Frag} {mg : Str -> Option Value} {base : Heap} {N : List Str} {qual : Str} {scope : Scope} {f : Addr} {cd : Value} {A : Around} {outer : List Env} {s₀ : Shared} {H₀ : Hp} {E : XK} {pins : List (Addr × Obj)} {σ : St} {H : Hp} {s : Shared}
noncomputable abbrev cxF (P : Program) (w : World) (K : PySem.W.Frag) (mg : Str -> Option Value) (base : Heap) (N : List Str) (qual : Str) (scope : Scope) (f : Addr) (cd : Value) (A : Around) (outer : List Env) (s₀ : Shared) (H₀ : Hp) (E : XK) : Cx := y5f (CXF P w) P w K mg base N qual scope f cd A outer s₀ H₀ E
theorem y1h (I : Inv (cxF P w K mg base N qual scope f cd A outer s₀ H₀ E) pins σ H s) {b : Addr} (hb : b ∈ frs outer) {o : Obj} (e : s.heap.get? b = some o) : ∀ vs, o.data ≠ .fields vs := by
  obtain ⟨_, o', ho, hd⟩ := I.funs.mem hb
  rw [e] at ho; cases ho
  exact hd
theorem y3b {h' : Heap} {e C : Addr} {vs : List Value} (I : Inv (cxF P w K mg base N qual scope f cd A outer s₀ H₀ E) pins σ H s) (hm : Heap.MadeExcOf s.heap h' e (.ref C) vs) (hE : E (.ref C) none H) :
    (cxF P w K mg base N qual scope f cd A outer s₀ H₀ E).xe (.ref e) { s with heap := h' } := by
  have nL : ∀ b o, s₀.heap.get? b = some o -> b ≠ s₀.heap.objs.size := fun b o q => Nat.ne_of_lt (Heap.lt_size q)
  have hid : ∀ b o, s.heap.get? b = some o -> b ≠ s₀.heap.objs.size -> b ∉ frs outer -> (hideAll s.heap (frs (envOfC qual scope s₀.heap.objs.size f cd :: outer))).get? b = some o := fun b o q n1 n2 => hideAll_get _ q fun hm => by
    rcases List.mem_cons.mp (show b ∈ s₀.heap.objs.size :: frs outer from hm) with z | z
    · exact n1 z
    · exact n2 z
  have hin : ∀ env ∈ (envOfC qual scope s₀.heap.objs.size f cd :: outer), ∀ b, env.frame = some b -> b ∈ frs (envOfC qual scope s₀.heap.objs.size f cd :: outer) := fun env he b hb => List.mem_filterMap.mpr ⟨env, he, hb⟩
  have nstk : ∀ b u, H b = some u -> b ≠ s₀.heap.objs.size /\ b ∉ frs outer := fun b u q => by
    refine ⟨fun z => ?_, fun z => ?_⟩
    · have := I.free
      rw [z] at q
      have this' : H s₀.heap.objs.size = none := this
      rw [this'] at q; cases q
    · have := I.stkFree b (List.mem_cons_of_mem _ z)
      rw [this] at q; cases q
  have base0 : Un (frs outer) [] H₀ H s₀.heap s.heap := I.base
  show wpAny _ _ (leaving (envOfC qual scope s₀.heap.objs.size f cd) (.ref e)) _ _ _
  refine wpAny_leaves_madeW (s := { s with heap := h' }) (L := s₀.heap.objs.size) (outer := outer) I.ok.frames rfl (fun b o q => of_hideAll _ q) (funFrames_hide I.stack hin) hm fun h2 t fl _ _ up => ?_
  have old : ∀ b o, s₀.heap.get? b = some o -> H₀ b = none -> b ∉ frs outer -> (hideAll s.heap (frs (envOfC qual scope s₀.heap.objs.size f cd :: outer))).get? b = some o := fun b o q n hb => hid b o (base0.keep b o q n hb (by simp)) (nL b o q) hb
  have slot : ∀ b o, s.heap.get? b = some o -> b ∈ frs outer -> ∃ sl, h2.get? b = some { o with slots := sl } := fun b o q hb => up b o (hm.keeps b o q) (y1h I hb q)
  have trk : ∀ b u o, H b = some u -> s.heap.get? b = some o -> (hideAll s.heap (frs (envOfC qual scope s₀.heap.objs.size f cd :: outer))).get? b = some o := fun b u o q e => hid b o e (nstk b u q).1 (nstk b u q).2
  refine ⟨e, C, t, _, H, rfl, ⟨I.os, I.bare, ⟨fun b o q n hb _ => fl.1 b o (old b o q n hb), fun b o q n hb _ => ?_, fun b o q n _ => base0.free b o q n (by simp), fun b o q _ => ?_, base0.tups, base0.frzs, base0.tbls⟩, y2q I.hok fun b u o q e => fl.1 b o (trk b u o q e), fl, old, fun b o q hb => ?_, fun b u o q e => ?_, ?_⟩, hE⟩
  · obtain ⟨sl, q1⟩ := base0.slot b o q n hb (by simp)
    obtain ⟨sl', q2⟩ := slot b _ q1 hb
    exact ⟨sl', q2⟩
  · obtain ⟨o', q1⟩ := base0.there b o q (by simp)
    by_cases hb : b ∈ frs outer
    · obtain ⟨sl, q2⟩ := slot b o' q1 hb
      exact ⟨_, q2⟩
    · exact ⟨o', fl.1 b o' (hid b o' q1 (nL b o q) hb)⟩
  · obtain ⟨o', q1⟩ := base0.there b o q (by simp)
    exact ⟨o', hid b o' q1 (nL b o q) hb⟩
  · obtain ⟨o1, q1⟩ := z20 (I.hok b u q)
    have q2 := trk b u o1 q q1
    have q3 := fl.1 b o1 q2
    have e' : h2.get? b = some o := e
    rw [q3] at e'; cases e'
    exact q2
  · cases q : H e with
    | none => rfl
    | some u =>
      obtain ⟨o1, q1⟩ := z20 (I.hok e u q)
      rw [hm.new] at q1; cases q1
theorem z65 {E' : XK} (hE : ∀ C H', E' (.ref C) none H' -> E (.ref C) none H') (I : Inv (cxF P w K mg base N qual scope f cd A outer s₀ H₀ E) pins σ H s) {e : Value} {s' : Shared} (h : CXF P w (envOfC qual scope s₀.heap.objs.size f cd :: outer) H s E' e s') :
    (cxF P w K mg base N qual scope f cd A outer s₀ H₀ E).xe e s' := by
  obtain ⟨a, C, t, B, H', rfl, F, hE'⟩ := h
  have nL : ∀ b o, s₀.heap.get? b = some o -> b ≠ s₀.heap.objs.size := fun b o q => Nat.ne_of_lt (Heap.lt_size q)
  have base0 : Un (frs outer) [] H₀ H s₀.heap s.heap := I.base
  have nst : ∀ b o, s₀.heap.get? b = some o -> b ∉ frs outer -> b ∉ frs (envOfC qual scope s₀.heap.objs.size f cd :: outer) := fun b o q n hm => by
    rcases List.mem_cons.mp (show b ∈ s₀.heap.objs.size :: frs outer from hm) with z | z
    · exact nL b o q z
    · exact n z
  show wpAny _ _ (leaving (envOfC qual scope s₀.heap.objs.size f cd) (.ref a)) _ _ _
  refine wpAny_leaves_onW (L := s₀.heap.objs.size) (outer := outer) I.ok.frames rfl F.fl fun h2 fl up => ?_
  have old : ∀ b o, s₀.heap.get? b = some o -> H₀ b = none -> b ∉ frs outer -> B.get? b = some o := fun b o q n hb => F.old b o (base0.keep b o q n hb (by simp)) (base0.free b o q n (by simp)) (nst b o q hb)
  have slot : ∀ b o, s.heap.get? b = some o -> H b = none -> b ∈ frs outer -> ∃ sl, h2.get? b = some { o with slots := sl } := fun b o q n hb => by
    obtain ⟨sl, q1⟩ := F.un.slot b o q n (List.mem_cons_of_mem _ hb) (by simp)
    obtain ⟨sl', q2⟩ := up b _ q1 (fun vs z => y1h I hb q vs z)
    exact ⟨sl', q2⟩
  have fH : ∀ b ∈ frs outer, H b = none := fun b hb => I.stkFree b (List.mem_cons_of_mem _ hb)
  refine ⟨a, C, t, B, H', rfl, ⟨F.os.trans I.os, F.bare, ⟨fun b o q n hb _ => fl.1 b o (old b o q n hb), fun b o q n hb _ => ?_, fun b o q n _ => ?_, fun b o q _ => ?_, fun b xs q => F.un.tups b xs (base0.tups b xs q), fun b o u q => F.un.frzs b o u (base0.frzs b o u q), fun b ps q => ?_⟩, y2q F.hok fun b u o q e => fl.1 b o (F.trk b u o q e), fl, old, fun b o q hb => ?_, fun b u o q e => ?_, F.free⟩, hE C H' hE'⟩
  · obtain ⟨sl, q1⟩ := base0.slot b o q n hb (by simp)
    obtain ⟨sl', q2⟩ := slot b _ q1 (fH b hb) hb
    exact ⟨sl', q2⟩
  · obtain ⟨o', q1⟩ := base0.there b o q (by simp)
    exact F.un.free b o' q1 (base0.free b o q n (by simp)) (by simp)
  · obtain ⟨o', q1⟩ := base0.there b o q (by simp)
    by_cases hb : b ∈ frs outer
    · obtain ⟨sl, q2⟩ := slot b o' q1 (fH b hb) hb
      exact ⟨_, q2⟩
    · obtain ⟨o2, q2⟩ := F.oldT b o' q1 (nst b o q hb)
      exact ⟨o2, fl.1 b o2 q2⟩
  · obtain ⟨m1, e1⟩ := base0.tbls b ps q
    obtain ⟨m2, e2⟩ := F.un.tbls b _ e1
    exact ⟨m1 ++ m2, by rw [e2, Array.append_assoc]⟩
  · obtain ⟨o', q1⟩ := base0.there b o q (by simp)
    exact F.oldT b o' q1 (nst b o q hb)
  · obtain ⟨o1, q1⟩ := z20 (F.hok b u q)
    have q2 := F.trk b u o1 q q1
    have q3 := fl.1 b o1 q2
    have e' : h2.get? b = some o := e
    rw [q3] at e'; cases e'
    exact q2
end
structure XNm (K : Frag) (mg : Str -> Option Value) (nm : Str) (C : Addr) : Prop extends XKls K nm C where
  mg : mg nm = some (.ref C)
theorem z1s {K : Frag} {h : Heap} {C : Addr} {bmB : List Value} {newId : String} (X : K.In h) (q : excIn K C bmB newId = true) :
    ∃ bm N nm q bs hdct sn sub ab col dd k0 k1 k2 k3 k5 mN, h.get? C = some (excClassObj nm q C N bs bm hdct sn sub ab col dd k0 k1 k2 k3 k5 newId) /\ h.Ns N mN /\ mN "__init__" = none /\ OwnTail h bmB bm := by
  unfold excIn at q
  split at q
  · rename_i dd cd sl ho
    split at q
    · rename_i C' bm k0 k1 k2 k3 n k5 hm hs
      simp only [Bool.and_eq_true, beq_iff_eq, Bool.not_eq_true'] at q
      obtain ⟨⟨⟨⟨⟨rfl, rfl⟩, hdel⟩, ht⟩, hok⟩, hni⟩ := q
      obtain ⟨nm, bs, mro, ns, qn, hd, sn, sub, ab, col, del⟩ := cd
      dsimp only at hm hdel hok hni
      subst hm hdel
      have hsl : sl = #[k0, k1, k2, k3, some (.builtin n), k5] := by
        obtain ⟨l⟩ := sl
        simp only at hs
        rw [hs]
      subst hsl
      exact ⟨bm, ns, nm, qn, bs, hd, sn, sub, ab, col, dd, k0, k1, k2, k3, k5, _, X _ _ ho, .of_isNs (isNs_of_in X hok), nsMap_none_of_in X hok hni, tail_of_in X ht⟩
    · cases q
  · cases q
section
variable {P : Program} {w : World} {K : PySem.W.Frag} {mg : Str -> Option Value} {base : Heap} {N : List Str} {qual : Str} {scope : Scope} {f : Addr} {cd : Value} {A : Around} {outer : List Env} {s₀ : Shared} {H₀ : Hp} {E : XK} {pins : List (Addr × Obj)} {σ : St} {H : Hp} {s : Shared}
theorem y91 {nm txt : Str} {C : Addr} {j : Nat} {np cpos tpos pos : Pos} (hA : A.handled = none) (hC : XNm K mg nm C) (hg : Gl (cxF P w K mg base N qual scope f cd A outer s₀ H₀ E) nm) (hdb : (nm == ("__debug__" : Str)) = false := by decide) :
    PS (cxF P w K mg base N qual scope f cd A outer s₀ H₀ E) (.Raise (some (.Call (.Name nm np) [.Constant (.str txt) j tpos] [] cpos)) none pos) (fun _ _ H => E (.ref C) none H) := by
  intro pins s σ H D I h
  obtain ⟨tl, Nn, nm', q, bs, hdct, sn, sub, ab, col, dd, k0, k1, k2, k3, k5, mN, hC', hN, hni, T⟩ := z1s I.mod.kin hC.ex
  refine wpAny_Raise_call_subT (C := C) (nm := nm') (q := q) (N := Nn) (bs := bs) (bm := tl) (hdct := hdct) (sn := sn) (sub := sub) (ab := ab) (col := col) (dd := dd) (k0 := k0) (k1 := k1) (k2 := k2) (k3 := k3) (k5 := k5)
    PySem.F.excBase_ValueError (mN := mN) (T.hasType PySem.F.excBase_ValueError.hasBase) hA rfl hni (x8v I hg hC.mg ⟨rfl, ?_⟩ hdb)
  refine Calls.evalArgs_plain (Calls.spliced_cons (thn (z0n (j := j) (pos := tpos) pins s σ H (fun v H1 => v = .str txt /\ H1 = H) I ⟨rfl, rfl⟩) fun u s1 hh0 => ?_))
  obtain ⟨v, H1, I1, r1, e1, e2⟩ := hh0
  subst e1 e2
  refine Calls.spliced_nil ⟨rfl, by show 1 <= sizeLine; decide, I1.bk _ _ hC', hN.keeps I1.bk, T.keeps I1.bk, fun h' e hm => y3b I1 hm h⟩
end
noncomputable abbrev y8r := Rho -> Option Str
noncomputable def tX (K : PySem.W.Frag) (x : y8r) (E : XK) : TS := fun _ σ H => ∃ ρ w nm, Good K ρ σ H w 0 /\ x ρ = some nm /\ ∀ C H' w', nsIn K mainGlobals nm = some (some (.ref C)) -> WL w' H' -> Go H w H' w' -> E (.ref C) none H'
noncomputable def spX (K : PySem.W.Frag) (n : Nat) (F : List D -> Option Str) : Sp := fun vs H _ E => vs.length = n /\ ∃ ds w nm, (∀ a o, w a = some o -> o = .f) /\ WL w H /\ Reps K H w .f 0 ds vs [] /\ F ds = some nm /\
  ∀ C H' w', nsIn K mainGlobals nm = some (some (.ref C)) -> WL w' H' -> Go H w H' w' -> E (.ref C) none H'
noncomputable def fnX (n : Nat) (x : y8r) : List D -> Option Str := fun ds => x (x5t n ds)
noncomputable def y5e (P : Program) (w : World) (K : PySem.W.Frag) (mg : Str -> Option Value) (base : Heap) (k : Nat) (x : Str) (n : Nat) (F : List D -> Option Str) : Prop :=
  ∃ f fd ps, FnOk P w K mg base (CXF P w) k f fd ps (spX K n F) /\ mg x = some (.ref f) /\ PySem.W.keepIn K (.ref f) = true /\ y0f K fd ps []
theorem y5e.mk {P : Program} {w : World} {K : PySem.W.Frag} {mg : Str -> Option Value} {base : Heap} {k : Nat} {x : Str} {st : Stmt} {N ps : List Str} {xb : y8r} (a : At K mg x st ps) (S : FnScope N ps (x08 st))
    (h : ∀ (f : Addr) (cdv : Value) (A : Around) (outer : List Env) (s : Shared) (H : Hp) (E : XK), Room k (A.deeper (envOfC x (x08 st) s.heap.objs.size f cdv)) -> PSs (cxF P w K mg base N x (x08 st) f cdv A outer s H E) (x0s st) (tX K xb E)) :
    y5e P w K mg base (k + 1) x ps.length (fnX N.length xb) := by
  obtain ⟨f, fd, F, m, b⟩ := a
  refine ⟨f, fd, ps, ?_, m, F.kp, b⟩
  obtain ⟨oc, od, kV, doc, pm, an, cdv, ct, osl, rfl, lk, hcd⟩ := F.ex
  refine z4w lk hcd S (fun vs H Q E h => h.1) fun A outer s H vs Q E hr hsp => ⟨_, h f cdv A outer s H E hr, ?_⟩
  obtain ⟨hn, ds, w, nm, hw, wl, rs, e, k⟩ := hsp
  exact ⟨_, w, nm, x7e hw wl rs, e, k⟩
noncomputable def xIf (g : x2k) (nm : Str) : y8r := fun ρ => match g ρ with
  | some (true, _) => some nm
  | _ => none
noncomputable def y56 (F : List D -> Option Str) (n : Nat) (g : x1v) : y8r := fun ρ => match g ρ with
  | some (ds, _) => if ds.length = n then F ds else none
  | none => none
section
variable {P : Program} {w : World} {K : PySem.W.Frag} {mg : Str -> Option Value} {base : Heap} {N : List Str} {qual : Str} {scope : Scope} {f : Addr} {cd : Value} {A : Around} {outer : List Env} {s₀ : Shared} {H₀ : Hp} {E : XK}
theorem z7h {nm txt : Str} {C : Addr} {j : Nat} {np cpos tpos pos ipos : Pos} {c : Expr} {orelse : List Stmt} {g : x2k} (hA : A.handled = none) (hC : XNm K mg nm C) (hc : PDT (cxF P w K mg base N qual scope f cd A outer s₀ H₀ E) c g)
    (hb : PSs (cxF P w K mg base N qual scope f cd A outer s₀ H₀ E) orelse fun _ _ _ => False) (hg : Gl (cxF P w K mg base N qual scope f cd A outer s₀ H₀ E) nm := by rfl) (hdb : (nm == ("__debug__" : Str)) = false := by decide) :
    PS (cxF P w K mg base N qual scope f cd A outer s₀ H₀ E) (.If c [.Raise (some (.Call (.Name nm np) [.Constant (.str txt) j tpos] [] cpos)) none pos] orelse ipos) (tX K (xIf g nm) E) :=
  PS.imp (z6o hc (y2r (y91 hA hC hg hdb)) hb) fun D σ H hh0 => by
    obtain ⟨ρ, w', nm', gd, e, k⟩ := hh0
    unfold xIf at e
    split at e
    · rename_i ρ1 h1
      cases e
      exact ⟨ρ, w', 0, true, ρ1, gd, h1, fun H1 w1 g1 go1 => (show E (.ref C) none H1 from k C H1 w1 hC.ns g1.wl go1)⟩
    · cases e
theorem y9v {j k n : Nat} {x : Str} {F : List D -> Option Str} {e : Expr} {es : List Expr} {g : x1v} {p pos : Pos} (Cx' : y5e P w K mg base k x n F) (hr : Room j (A.deeper (envOfC qual scope s₀.heap.objs.size f cd))) (hk : k <= j) (ha : PDA (cxF P w K mg base N qual scope f cd A outer s₀ H₀ E) (e :: es) g)
    (hg : Gl (cxF P w K mg base N qual scope f cd A outer s₀ H₀ E) x := by rfl) (hdb : (x == ("__debug__" : Str)) = false := by decide) (he : starEach (e :: es) (envOfC qual scope s₀.heap.objs.size f cd) = (false, eval e (envOfC qual scope s₀.heap.objs.size f cd)) :: starEach es (envOfC qual scope s₀.heap.objs.size f cd) := by rfl)
    (hpl : (backTo pos (starEach es (envOfC qual scope s₀.heap.objs.size f cd))).any (·.1) = false := by rfl) :
    PE (cxF P w K mg base N qual scope f cd A outer s₀ H₀ E) (.Call (.Name x p) (e :: es) [] pos) (fun σ H _ => tX K (y56 F n g) E { nx := fun _ _ => False, rt := fun _ _ => False } σ H) := by
  obtain ⟨fn, fd, ps, G, hm, hkp, hb⟩ := Cx'
  refine PE.imp (y74 (X := cxF P w K mg base N qual scope f cd A outer s₀ H₀ E) (E := E) G (hr.mono hk) hg hm hkp hb .nil (fun pins σ H s e s' I h => z65 (fun _ _ h => h) I h) ha hdb he hpl) fun σ H Q hh0 => ?_
  obtain ⟨ρ, w', nm, gd, e, k'⟩ := hh0
  unfold y56 at e
  split at e
  · rename_i ds ρ1 h1
    split at e
    · rename_i hn
      refine ⟨ρ, w', 0, ds, ρ1, gd, h1, fun vs H1 w1 g1 go1 r1 => ?_⟩
      show spX K n F (vs ++ []) H1 Q E
      rw [List.append_nil]
      refine ⟨by rw [<- r1.length]; exact hn, ds, fun a => (w1 a).map fun _ => Ow.f, nm, fun a o e => ?_, fun a o e => ?_, ?_, e, fun C H2 w2 hns wl2 go2 => k' C H2 w1 hns (fun a o ew => ?_) (go1.trans ⟨fun a x e n => ?_, fun a o ew no => ?_⟩)⟩
      · dsimp only at e
        cases ew : w1 a with
        | none => rw [ew] at e; cases e
        | some o' => rw [ew] at e; cases e; rfl
      · dsimp only at e
        cases ew : w1 a with
        | none => rw [ew] at e; cases e
        | some o' => exact g1.wl a o' ew
      · exact Reps.freeze (fun a n => by show (w1 a).map _ = _; rw [n]; rfl) r1 (fun _ z => nomatch z)
      · obtain ⟨vs', q⟩ := g1.wl a o ew
        have := (go2.keep a .f (by show (w1 a).map _ = _; rw [ew]; rfl) (fun i z => nomatch z)).1
        exact ⟨vs', by rw [this]; exact q⟩
      · exact ⟨(go2.stab a x e (by show (w1 a).map _ = _; rw [n]; rfl)).1, n⟩
      · exact ⟨(go2.keep a .f (by show (w1 a).map _ = _; rw [ew]; rfl) (fun i z => nomatch z)).1, ew⟩
    · cases e
  · cases e
theorem y3r {st : Stmt} {x2n : List Stmt} {x : y8r} (h : PS (cxF P w K mg base N qual scope f cd A outer s₀ H₀ E) st (tX K x E)) : PSs (cxF P w K mg base N qual scope f cd A outer s₀ H₀ E) (st :: x2n) (tX K x E) := by
  intro pins s σ H D I hh
  refine wpAny_execs_cons (thn (h pins s σ H { nx := fun _ _ => False, rt := fun _ _ => False } I hh) fun fl s1 q => ?_)
  cases fl with
  | next => obtain ⟨_, _, _, z⟩ := q; exact z.elim
  | brk => obtain ⟨_, _, _, z⟩ := q; exact z.elim
  | cont => obtain ⟨_, _, _, z⟩ := q; exact z.elim
  | ret u => obtain ⟨_, _, _, _, _, z⟩ := q; exact z.elim
theorem z34 {e : Expr} {x : y8r} {pos : Pos} (h : PE (cxF P w K mg base N qual scope f cd A outer s₀ H₀ E) e (fun σ H _ => tX K x E { nx := fun _ _ => False, rt := fun _ _ => False } σ H)) (hs : swapsWith e none pos.line (envOfC qual scope s₀.heap.objs.size f cd) = pure false := by rfl) :
    PS (cxF P w K mg base N qual scope f cd A outer s₀ H₀ E) (.Expr e pos) (tX K x E) := PS.imp (y5u h hs) fun D σ H hh0 => hh0
end
theorem y9m {M : Model} {A : Around} {E : Value -> Shared -> Prop} {K : Frag} {s : Shared} {x C R : Addr} {ox : Obj} {Q : Bool -> Shared -> Prop} (X : K.In s.heap) (I : XAt s.heap x ox C) (hR : XCls K R) (hty : typeIn K (.ref R) = some (.type "type"))
    (hsub : subIn K (.ref C) (.ref R) = some true) (h : Q true s) : wpAny M A (excMatches (.ref x) (.ref R)) Q E s := by
  obtain ⟨h0, g, d, tt, os⟩ := s
  have L0 := I.type (M := M)
  have L1 := looks_typeIn (M := M) X hty
  have L2 := x5u (M := M) X hR.ci
  have L3 := looks_mroIn (M := M) X hR.mb
  have L4 := looks_subIn (M := M) X hsub
  have f := tc_notTuple
  have L5 : Looks M h0 (isSubtype (.type "type") (.type "tuple")) false := Looks.of_pure f
  unfold excMatches isInstance isExcClass
  repeat (first | lk | wp_step)
  exact h
section
variable {X : Cx} {pins : List (Addr × Obj)} {σ : St} {H H' : Hp} {s s' : Shared} {a C t : Addr} {B : Heap}
theorem y6c {M : Model} {A : Around} {E : Value -> Shared -> Prop} {i : Nat} {x : Str} {pos : Pos} {Q : Unit -> Shared -> Prop} (I : Inv X pins σ H s) (hN : X.N.Nodup) (hi : X.N[i]? = some x) (hx : X.env.scope.names.lookup x = some .local)
    (h : ∀ s', Inv X pins (σ.set i none) H s' -> Q () s') : wpAny M A (do bindName X.env x .none; unbindBehindTheSuite X.env x pos) Q E s := by
  obtain ⟨m, hn, hl⟩ := id I.loc
  have hcls : (X.env.scope.kind == .class || (X.env.scope.kind == .module && X.env.locals != X.env.globals)) = false := by rw [I.ok.kind]; rfl
  have hiσ : i < σ.length := by rw [I.len]; exact (List.getElem?_eq_some_iff.mp hi).1
  have cne := I.cne
  refine wpAny_nameGoes_keeps hx hn hcls fun h' v hn' hs => ?_
  obtain ⟨oL, _, _, hoL, _⟩ := id hn
  have tracked : HOk X.prog X.w H h' := fun b ob e => by
    refine (I.hok b ob e).stay (fun c w' hc q => (hs.2 c ?_).trans q) (fun _ q => q) fun _ _ q => q
    rintro rfl
    rcases hc with rfl | hc
    · rw [I.free] at e; cases e
    · rw [I.free] at hc; cases hc
  refine h _ ⟨I.ok, I.os, I.bare, ⟨fun b o e n hb hx => ?_, fun b o e n hb hx => ?_, I.base.free, fun b o e hx => ?_, I.base.tups, I.base.frzs, I.base.tbls⟩, ⟨_, hn', fun j y v' e1 e2 e3 => ?_⟩, fun y c e => ?_, I.free, I.freeC, fun p hp => ?_, tracked, by simpa using I.len⟩
  · exact (hs.2 b (Nat.ne_of_lt (Nat.lt_of_lt_of_le (Heap.lt_size e) I.ok.above))).trans (I.base.keep b o e n hb hx)
  · obtain ⟨sl, e1⟩ := I.base.slot b o e n hb hx
    exact ⟨sl, (hs.2 b (Nat.ne_of_lt (Nat.lt_of_lt_of_le (Heap.lt_size e) I.ok.above))).trans e1⟩
  · obtain ⟨o', e1⟩ := I.base.there b o e hx
    exact ⟨o', (hs.2 b (Nat.ne_of_lt (Nat.lt_of_lt_of_le (Heap.lt_size e) I.ok.above))).trans e1⟩
  · by_cases hj : j = i
    · subst hj
      rw [List.getElem?_set_self hiσ] at e2
      cases e2
    · rw [List.getElem?_set_ne (Ne.symm hj)] at e2
      obtain ⟨u', r', q⟩ := hl j y v' e1 e2 e3
      refine ⟨u', r', ?_⟩
      rcases q with ⟨k, e⟩ | ⟨k, c, e, z⟩
      · refine .inl ⟨k, ?_⟩
        have : y ≠ x := fun e => hj (y0n hN e1 (e ▸ hi))
        simp [this, e]
      · exact .inr ⟨k, c, e, z.sameBut hs (cne y c e)⟩
  · obtain ⟨w', z⟩ := I.cell y c e
    exact ⟨w', z.sameBut hs (cne y c e)⟩
  · obtain ⟨e, n, ne, nf, d⟩ := I.pin p hp
    exact ⟨(hs.2 p.1 ne).trans e, n, ne, nf, d⟩
noncomputable def z3p (a : Addr) (oe : Obj) : HO := .frz oe (.ext fun h => h.get? a = some oe)
theorem Fly.un2 (I : Inv X pins σ H s) (F : Fly X.prog X.w X.stack H s a C t B H' s') {h' : Heap} (fl : Heap.FlyingW B X.stack a (.ref C) (.ref t) h') (up : s'.heap.UpToSlots h') : Un (frs X.stack) [] H H' s.heap h' /\ HOk X.prog X.w H' h' := by
  have slot : ∀ b o, s.heap.get? b = some o -> H b = none -> b ∈ frs X.stack -> ∃ sl, h'.get? b = some { o with slots := sl } := fun b o q n hb => by
    obtain ⟨sl, q1⟩ := F.un.slot b o q n hb (by simp)
    obtain ⟨_, o', ho, hd⟩ := I.stack.mem hb
    rw [q] at ho; cases ho
    obtain ⟨sl', q2⟩ := up b _ q1 hd
    exact ⟨sl', q2⟩
  refine ⟨⟨fun b o q n hb _ => fl.1 b o (F.old b o q n hb), fun b o q n hb _ => slot b o q n hb, F.un.free, fun b o q _ => ?_, F.un.tups, F.un.frzs, F.un.tbls⟩, y2q F.hok fun b u o q e => fl.1 b o (F.trk b u o q e)⟩
  by_cases hb : b ∈ frs X.stack
  · obtain ⟨sl, q2⟩ := slot b o q (I.stkFree b hb) hb
    exact ⟨_, q2⟩
  · obtain ⟨o2, q2⟩ := F.oldT b o q hb
    exact ⟨o2, fl.1 b o2 q2⟩
theorem Fly.inv (I : Inv X pins σ H s) (F : Fly X.prog X.w X.stack H s a C t B H' s') {h' : Heap} (fl : Heap.FlyingW B X.stack a (.ref C) (.ref t) h') (up : s'.heap.UpToSlots h') : Inv X pins σ H' { s' with heap := h' } :=
  I.call' (s' := { s' with heap := h' }) F.os (F.un2 I fl up).1 (F.un2 I fl up).2 F.bare (fun b hb => nomatch hb)
theorem Fly.inv2 (I : Inv X pins σ H s) (F : Fly X.prog X.w X.stack H s a C t B H' s') {h' : Heap} (fl : Heap.FlyingW B X.stack a (.ref C) (.ref t) h') (up : s'.heap.UpToSlots h') {oe : Obj} {vs : Array Value} (ho : h'.get? a = some oe) (hd : oe.data = .fields vs) :
    Inv X pins σ (upd H' a (z3p a oe)) { s' with heap := h' } := by
  obtain ⟨u, hk⟩ := F.un2 I fl up
  have na : ∀ b x, H' b = some x -> upd H' a (z3p a oe) b = some x := fun b x q => by
    unfold upd
    rw [if_neg (fun z => by rw [z, F.free] at q; cases q)]
    exact q
  have nfr : a ∉ frs X.stack := fun hb => by
    obtain ⟨_, o', ho', hd'⟩ := fl.2.2.1.mem hb
    rw [ho] at ho'; cases ho'
    exact hd' vs hd
  refine I.call' (s' := { s' with heap := h' }) F.os ⟨u.keep, u.slot, fun b o q n e => ?_, u.there, fun b xs q => na b _ (u.tups b xs q), fun b o' u' q => na b _ (u.frzs b o' u' q), fun b ps q => ?_⟩ (fun b x q => ?_) F.bare (fun b hb => nomatch hb)
  · unfold upd
    rw [if_neg (fun z => ?_)]
    · exact u.free b o q n e
    · subst z
      obtain ⟨o2, q2⟩ := F.oldT b o q nfr
      rw [fl.2.1] at q2; cases q2
  · obtain ⟨m, q1⟩ := u.tbls b ps q
    exact ⟨m, na b _ q1⟩
  · by_cases hb : b = a
    · subst hb
      unfold upd at q
      rw [if_pos rfl] at q
      cases q
      exact ⟨ho, ho, ⟨_, ho⟩, fun h1 h2 q1 q2 => q2 _ q1⟩
    · have q' := q
      unfold upd at q
      rw [if_neg hb] at q
      exact (hk b x q).stay (fun _ _ _ z => z) (fun c z => na c _ z) (fun c xs z => na c _ z)
noncomputable abbrev Cx.mark (X : Cx) (e : Value) : Cx := { X with A := X.A.mark (some e), calm := false, xe := fun _ _ => False }
theorem Inv.mark (I : Inv X pins σ H s) (e : Value) : Inv (Cx.mark X e) pins σ H s :=
  ⟨⟨I.ok.mod, I.ok.kind, I.ok.glob, I.ok.blt, I.ok.above, I.ok.inj, I.ok.has, I.ok.cab, (fun z => by cases z), I.ok.frames, I.ok.stk, I.ok.exf, I.ok.bs, I.ok.bsz, I.ok.noex, I.ok.exfs, I.ok.funs, I.ok.frf⟩, I.os, I.bare, I.base, I.loc, I.cell, I.free, I.freeC, I.pin, I.hok, I.len⟩
theorem Inv.unmark {e : Value} (hX : X.Ok) (I : Inv (Cx.mark X e) pins σ H s) : Inv X pins σ H s := ⟨hX, I.os, I.bare, I.base, I.loc, I.cell, I.free, I.freeC, I.pin, I.hok, I.len⟩
theorem y92 {R n kx : Str} {RA : Addr} {np kp vp apos pos : Pos} {ie ik : Nat} {Q : Flow -> Shared -> Prop} {E : Value -> Shared -> Prop} (I : Inv X pins σ H s) (F : Fly X.prog X.w X.stack H s a C t B H' s') (hst : X.stack = X.env :: X.outer) (hfm : X.env.frame = some X.env.locals)
    (hN : X.N.Nodup) (hie : X.N[ie]? = some n) (hik : X.N[ik]? = some kx) (hne : X.env.scope.names.lookup n = some .local) (hnk : X.env.scope.names.lookup kx = some .local) (hR : XCls X.K RA) (hRt : typeIn X.K (.ref RA) = some (.type "type")) (hsub : subIn X.K (.ref C) (.ref RA) = some true) (hmg : X.mg R = some (.ref RA)) (hg : Gl X R)
    (hdb : (R == ("__debug__" : Str)) = false) (hdn : (n == ("__debug__" : Str)) = false) (hcn : (n == ("__classdict__" : Str)) = false) (hsw : swapsWith (.Name n vp) (some (.Name kx kp)) apos.line X.env = pure false)
    (hQ : ∀ s5 oe, oe.cls = .ref C -> Inv X pins (((σ.set ie (some (.ref a))).set ik (some (.ref a))).set ie none) (upd H' a (z3p a oe)) s5 -> Q .next s5) :
    wpAny (model X.prog X.w) X.A (noteFrame (.ref a) X.env) (fun _ s₂ => wpAny (model X.prog X.w) X.A (setFlight (.ref a) none) (fun _ s₃ =>
      wpAny (model X.prog X.w) X.A (handleBy (.ref a) X.env [.ExceptHandler (some (.Name R np)) (some n) [.Assign [.Name kx kp] (.Name n vp) apos] pos]) Q E s₃) E s₂) E s' := by
  have hiσ : ie < σ.length := by rw [I.len]; exact (List.getElem?_eq_some_iff.mp hie).1
  have fl0 := F.fl
  have hst' := hst
  rw [hst] at fl0
  refine wpAny_looks_onW (L := X.env.locals) (outer := X.outer) (by rw [<- hst]; exact I.ok.frames) hfm fl0 fun h₄ hheld₄ up₄ => ?_
  refine wpAny_landsW hheld₄ fun h₅ fl₅ up₅ => ?_
  have fl₅' := fl₅
  rw [<- hst] at fl₅'
  have I5 := F.inv I fl₅' (up₄.trans up₅)
  obtain ⟨ob, hob, hobc⟩ := fl₅'.there
  have J5 := Inv.mark I5 (.ref a)
  refine wpAny_handleBy_cons (codeAny_handlers_test (x8v (X := Cx.mark X (.ref a)) J5 hg hmg ?_ hdb)) (by intro q; cases q)
  refine y9m J5.kIn ⟨hob, hobc⟩ hR hRt hsub ?_
  refine codeAny_handlers_suite_as ?_
  refine lands_againW fl₅ fun h₆ fl₆ up₆ => ?_
  have fl₆' := fl₆
  rw [<- hst] at fl₆'
  obtain ⟨oe, ws, hoe, hoec, hoed, hoe0⟩ := fl₆'.first
  have I6 := F.inv2 I fl₆' ((up₄.trans up₅).trans up₆) hoe hoed
  refine y0j (v := .ref a) I6 hN hie (.inl hne) rfl (fun s7 I7 => ?_) (.inr hne)
  have J7 := Inv.mark I7 (.ref a)
  have body := y2r (z09 (X := Cx.mark X (.ref a)) (i := ik) (x := kx) (pos := apos) (pos' := kp) hN hik (.inl hnk) (pv (X := Cx.mark X (.ref a)) ie (x := n) (pos := vp) hie (.inl hne) hdn hcn) hsw (.inr hnk))
  refine wpAny_mono (body pins s7 _ _ { nx := fun σ' H1 => σ' = (σ.set ie (some (.ref a))).set ik (some (.ref a)) /\ H1 = upd H' a (z3p a oe), rt := fun _ _ => False } J7 ⟨.ref a, List.getElem?_set_self hiσ, rfl, rfl⟩) (fun fl s8 q => ?_) (fun _ _ z => False.elim z)
  cases fl with
  | next =>
    obtain ⟨σ8, H8, J8, rfl, rfl⟩ := q
    exact y6c (Inv.unmark I.ok J8) hN hie hne fun s9 I9 => hQ s9 oe hoec I9
  | brk => obtain ⟨_, _, _, z⟩ := q; exact z.elim
  | cont => obtain ⟨_, _, _, z⟩ := q; exact z.elim
  | ret u => obtain ⟨_, _, _, _, _, z⟩ := q; exact z.elim
end
theorem Good.unset {K : PySem.W.Frag} {ρ : Rho} {σ : St} {H : Hp} {w : Wn} {t i : Nat} {v : Option V} (g : Good K ρ σ H w t) (hi : i < σ.length) :
    Good K (ρ.set i none) (σ.set i v) H (x51 i w) t /\ Go H w H (x51 i w) := by
  have st : x76 H w H (x51 i w) := fun a x h n => ⟨h, x4v n⟩
  refine ⟨⟨fun a o h => g.wl a o (x2w h).1, fun a j h => by rw [List.length_set]; exact g.ws a j (x2w h).1, fun a j h => g.wt a j (x2w h).1, by rw [List.length_set, List.length_set]; exact g.len, fun j d' q' e' => ?_⟩, ⟨st, fun a o h n => ⟨rfl, x61 h (n i)⟩⟩⟩
  by_cases hj : i = j
  · subst hj
    rw [List.getElem?_set_self (by rw [g.len]; exact hi)] at e'
    cases e'
  · rw [List.getElem?_set_ne hj] at e'
    obtain ⟨v', F, h1, h2⟩ := g.slot j d' q' e'
    exact ⟨v', F, by rw [List.getElem?_set_ne hj]; exact h1, Rep.go g.wl st h2 fun a m => ⟨rfl, x61 (h2.owns a m) (fun z => hj (by cases z; rfl))⟩⟩
noncomputable def y5a (K : Frag) (mg : Str -> Option Value) (R : Str) (L : List Str) : Prop := ∃ RA, XCls K RA /\ typeIn K (.ref RA) = some (.type "type") /\ mg R = some (.ref RA) /\
  ∀ nm ∈ L, ∀ C, nsIn K mainGlobals nm = some (some (.ref C)) -> XKls K nm C /\ subIn K (.ref C) (.ref RA) = some true
noncomputable def z3q (L : List Str) (F : List D -> Option (D × Nat)) (Fx : List D -> Option Str) (n : Nat) (g : x1v) (iy ie ik : Nat) : x22 := fun ρ => match g ρ with
  | some (ds, ρ1) => match Fx ds with
    | some nm => if ds.length = n /\ nm ∈ L then some (.nx (((ρ1.set ie (some (.exc nm, 9))).set ik (some (.exc nm, 9))).set ie none)) else none
    | none => x30 iy (x0n F n g) ρ
  | none => none
section
variable {Y : Cx} {e : Expr} {es : List Expr} {g : x1v}
theorem z17 {R nn kx x y : Str} {L : List Str} {F : List D -> Option (D × Nat)} {Fx : List D -> Option Str} {j k n iy ie ik : Nat} {np kp vp apos hpos pos yp fp cpos spos : Pos} (hU : y5a Y.K Y.mg R L) (CX : y5e Y.prog Y.w Y.K Y.mg Y.base k x n Fx) (hr : Room j Y.A) (hk : k <= j) (ha : PDA Y.nox (e :: es) g)
    (hy : PDS Y.nox (.Assign [.Name y yp] (.Call (.Name x fp) (e :: es) [] cpos) spos) (x30 iy (x0n F n g))) (hN : Y.N.Nodup) (hie : Y.N[ie]? = some nn) (hik : Y.N[ik]? = some kx) (hst : Y.stack = Y.env :: Y.outer := by rfl) (hfm : Y.env.frame = some Y.env.locals := by rfl)
    (hne : Y.env.scope.names.lookup nn = some .local := by rfl) (hnk : Y.env.scope.names.lookup kx = some .local := by rfl) (hg : Gl Y R := by rfl) (hgx : Gl Y x := by rfl) (hdx : (x == ("__debug__" : Str)) = false := by decide)
    (hdb : (R == ("__debug__" : Str)) = false := by decide) (hdn : (nn == ("__debug__" : Str)) = false := by decide) (hcn : (nn == ("__classdict__" : Str)) = false := by decide) (hsw : swapsWith (.Name nn vp) (some (.Name kx kp)) apos.line Y.env = pure false := by rfl)
    (hsc : swapsWith (.Call (.Name x fp) (e :: es) [] cpos) (some (.Name y yp)) spos.line Y.env = pure false := by rfl)
    (he : starEach (e :: es) Y.env = (false, eval e Y.env) :: starEach es Y.env := by rfl) (hpl : (backTo cpos (starEach es Y.env)).any (·.1) = false := by rfl) :
    PDS Y.nox (.Try [.Assign [.Name y yp] (.Call (.Name x fp) (e :: es) [] cpos) spos] [.ExceptHandler (some (.Name R np)) (some nn) [.Assign [.Name kx kp] (.Name nn vp) apos] hpos] [] [] pos) (z3q L F Fx n g iy ie ik) := by
  intro pins s σ H Dn I hh
  obtain ⟨ρ, w, o, gd, ee, K'⟩ := hh
  unfold z3q at ee
  refine wpAny_Try_except ?_
  split at ee
  · rename_i ds ρ1 h1
    split at ee
    · rename_i nm hx
      split at ee
      · rename_i hL
        cases ee
        obtain ⟨hn, hL⟩ := hL
        obtain ⟨RA, hR, hRt, hmg, hall⟩ := hU
        obtain ⟨fn, fd, ps, G, hm, hkp, hb⟩ := CX
        refine wpAny_execs_cons (wpAny_Assign_Name ?_ hsc)
        refine wpAny_Call_Name_kw (x8v (X := Y.nox) I hgx hm ?_ hdx)
        refine PySem.W.callWith_K (h₀ := Y.base) I.ok.mod.kin hkp (wpAny_mono (ha cpos pins s σ H (fun vs H1 => ∃ w1, Good Y.K ρ1 σ H1 w1 0 /\ Go H w H1 w1 /\ Reps Y.K H1 w1 .f 0 ds vs []) I ⟨ρ, w, 0, ds, ρ1, gd, h1, fun vs H1 w1 g1 go1 r1 => ⟨w1, g1, go1, r1⟩⟩) (fun us s1 hh1 => ?_) (fun _ _ z => False.elim z)) he hpl
        obtain ⟨vs, H1, I1, rv, w1, g1, go1, r1⟩ := hh1
        refine ⟨I1.kIn, ?_⟩
        have hsp : spX Y.K n Fx vs H1 (fun _ _ => False) (fun c _ H' => ∃ C, c = .ref C /\ nsIn Y.K mainGlobals nm = some (some (.ref C)) /\ ∀ b o, H1 b = some o -> H' b = some o) := by
          refine ⟨by rw [<- r1.length]; exact hn, ds, fun a => (w1 a).map fun _ => Ow.f, nm, fun a o e => ?_, fun a o e => ?_, ?_, hx, fun C H2 w2 hns wl2 go2 => ⟨C, rfl, hns, fun b o e => ?_⟩⟩
          · dsimp only at e
            cases ew : w1 a with
            | none => rw [ew] at e; cases e
            | some o' => rw [ew] at e; cases e; rfl
          · dsimp only at e
            cases ew : w1 a with
            | none => rw [ew] at e; cases e
            | some o' => exact g1.wl a o' ew
          · exact Reps.freeze (fun a n => by show (w1 a).map _ = _; rw [n]; rfl) r1 (fun _ z => nomatch z)
          · cases ew : w1 b with
            | none => exact (go2.stab b o e (by show (w1 b).map _ = _; rw [ew]; rfl)).1
            | some o' => exact ((go2.keep b .f (by show (w1 b).map _ = _; rw [ew]; rfl) (fun i z => nomatch z)).1).trans e
        have hl : us.length = ps.length := by rw [<- rv.length]; exact G.len _ _ _ _ hsp
        have hbb := hb s1 us I1.kIn (by rw [List.append_nil]; exact hl)
        rw [List.append_nil] at hbb
        refine wpAny_call (codeAny_mono (G.run Y.A Y.stack s1 H1 ⟨us, []⟩ us vs _ _ (hr.mono hk) I1.env0 hbb rv hsp) fun r s' hq => ?_)
        cases r with
        | ok fl =>
          cases fl with
          | ret u => obtain ⟨_, _, _, z⟩ := I1.after hq; exact z.2.elim
          | next => exact False.elim hq
          | brk => exact False.elim hq
          | cont => exact False.elim hq
        | error ev =>
          obtain ⟨a, C, t, B, H', rfl, F', C', eC, hns, hext⟩ := hq
          cases eC
          obtain ⟨hXk, hsub⟩ := hall nm hL C hns
          refine y92 (X := Y.nox) I1 F' hst hfm hN hie hik hne hnk hR hRt hsub hmg hg hdb hdn hcn hsw fun s5 oe hoc I5 => ?_
          have hσe : ie < σ.length := by rw [I.len]; exact (List.getElem?_eq_some_iff.mp hie).1
          have hσk : ik < σ.length := by rw [I.len]; exact (List.getElem?_eq_some_iff.mp hik).1
          have hfr := F'.free
          obtain ⟨g2, go2⟩ := g1.more (H' := upd H' a (z3p a oe)) fun b o q => by
            unfold upd
            rw [if_neg (fun z => by rw [<- z, hext b o q] at hfr; cases hfr)]
            exact hext b o q
          have rep : ∀ w', Rep Y.K (upd H' a (z3p a oe)) w' .f 0 (.exc nm) (.ref a) [] := fun w' => .exc (ob := oe) (u := .ext fun h => h.get? a = some oe) (by unfold upd; rw [if_pos rfl]; rfl) ⟨C, hoc, hXk⟩ (fun _ z => nomatch z)
          obtain ⟨g3, go3⟩ := g2.setV (i := ie) hσe (rep _)
          obtain ⟨g4, go4⟩ := g3.setV (i := ik) (by rw [List.length_set]; exact hσk) (rep _)
          obtain ⟨g5, go5⟩ := g4.unset (i := ie) (v := none) (by rw [List.length_set, List.length_set]; exact hσe)
          exact ⟨_, _, I5, K' _ _ _ (by rw [List.length_set, List.length_set, List.length_set]) g5 ((((go1.trans go2).trans go3).trans go4).trans go5)⟩
      · cases ee
    · refine wpAny_execs_cons (wpAny_mono (hy pins s σ H Dn I ⟨ρ, w, o, gd, ee, K'⟩) (fun fl s1 q => ?_) (fun _ _ z => False.elim z))
      cases fl with
      | next => exact wpAny_execs_nil (wpAny_execs_nil q)
      | brk => exact q
      | cont => exact q
      | ret u => exact q
  · cases ee
end
end L3
namespace L3
open PySem PySem.Spec PyProof.Rows PySem.W L2 PySem.SeqAt
noncomputable def IsC (K : Frag) (mg : Str -> Option Value) (L : List Str) (nm : Str) : Prop := ∃ C, mg nm = some (.ref C) /\ ∀ n ∈ L, ∀ B, nsIn K mainGlobals n = some (some (.ref B)) -> (n = nm -> isIn K (.ref B) C = true) /\ (n ≠ nm -> kin_not K B C = true)
section
variable {X : Cx} {a b c e : Expr} {es : List Expr} {fa fb fc f : Den} {ga gb : x2k} {g : x1v} {pos p p1 p2 pT cpos apos : Pos}
theorem y8o {C : Addr} {L : List Str} {nm : Str} (h : ∀ n ∈ L, ∀ B, nsIn X.K mainGlobals n = some (some (.ref B)) -> (n = nm -> isIn X.K (.ref B) C = true) /\ (n ≠ nm -> kin_not X.K B C = true)) :
    x84 X (.builtin "isinstance") (fun xs H Q => ∃ x w o q F n, xs = [x, .ref C] /\ n ∈ L /\ Rep X.K H w o q (.exc n) x F /\ Q (.bl (n == nm)) H) := by
  intro pins s σ H xs us Q I r hh
  obtain ⟨x, w, o, q, F, n, rfl, hn, rd, hq⟩ := hh
  obtain ⟨u, v, rfl, ru, rv⟩ := y8a r
  cases rv
  cases rd with
  | exc ha xo _ =>
    obtain ⟨B, hc, k⟩ := xo
    cases ru
    obtain ⟨e1, _⟩ := (show x35 X.prog X.w H s.heap _ (.frz _ _) from I.hok _ _ ha)
    obtain ⟨h1, h2⟩ := h n hn B k.ns
    by_cases z : n = nm
    · rw [beq_iff_eq.mpr z] at hq
      exact z6t I.kIn ⟨e1, hc⟩ (h1 z) ⟨.bl true, H, I, rfl, hq⟩
    · rw [beq_eq_false_iff_ne.mpr z] at hq
      exact z8a I.kIn ⟨e1, hc⟩ k.xc (h2 z) ⟨.bl false, H, I.tok _, rfl, hq⟩
noncomputable def y8i (L : List Str) (nm : Str) (fa : Den) : Den := fun ρ => match fa ρ with
  | some (.exc n, _, ρ1) => if n ∈ L then some (.bl (n == nm), 9, ρ1) else none
  | _ => none
theorem z59 {L : List Str} {nm : Str} (hC : IsC X.K X.mg L nm) (hm : X.mg "isinstance" = none) (ha : PD X a fa) (hg : Gl X "isinstance" := by rfl) (hgT : Gl X nm := by rfl) (hdT : (nm == ("__debug__" : Str)) = false := by decide)
    (hs : starEach [a, .Name nm pT] X.env = (false, eval a X.env) :: starEach [.Name nm pT] X.env := by rfl) (hpl : (backTo pos (starEach [.Name nm pT] X.env)).any (·.1) = false := by rfl) : PD X (.Call (.Name "isinstance" p) [a, .Name nm pT] [] pos) (y8i L nm fa) := by
  obtain ⟨C, hmC, hall⟩ := hC
  refine PE.imp (x64 (y8o hall) hg hm PyProof.Rows.boot_isinstance (x4c ha (x4c (y6k (v := .ref C) hgT hmC rfl hdT) x7v x05) hs) (by decide) (by decide) hs hpl) fun σ H Q hh0 => ?_
  obtain ⟨ρ, w, t, r', q, ρ', gd, ee, k⟩ := hh0
  unfold y8i at ee
  split at ee
  · rename_i n q1 ρ1 h1
    split at ee
    · rename_i hL
      cases ee
      refine ⟨ρ, w, t, _, _, _, gd, h1, fun v H1 w1 F1 g1 go1 r1 => ?_⟩
      exact ⟨v, w1, _, _, F1, n, rfl, hL, r1, k _ H1 (x21 t w1) [] g1.drop.up (go1.drop gd.wt) (.bl _)⟩
    · cases ee
  · cases ee
theorem y97 : x84 X (.builtin "isinstance") (fun xs H Q => ∃ x w o q F n, xs = [x, .ty "ValueError"] /\ Rep X.K H w o q (.exc n) x F /\ Q (.bl true) H) := by
  intro pins s σ H xs us Q I r hh
  obtain ⟨x, w, o, q, F, n, rfl, rd, hq⟩ := hh
  obtain ⟨u, v, rfl, ru, rv⟩ := y8a r
  cases rv
  cases rd with
  | exc ha xo _ =>
    obtain ⟨B, hc, k⟩ := xo
    cases ru
    obtain ⟨e1, _⟩ := (show x35 X.prog X.w H s.heap _ (.frz _ _) from I.hok _ _ ha)
    exact z2e I.kIn ⟨e1, hc⟩ (by kernel_rfl) k.ve ⟨.bl true, H, I, rfl, hq⟩
noncomputable def z6v (fa : Den) : Den := fun ρ => match fa ρ with
  | some (.exc n, _, ρ1) => some (.bl true, 9, ρ1)
  | _ => none
theorem z5i (hm : X.mg "isinstance" = none) (hmT : X.mg "ValueError" = none) (ha : PD X a fa) (hg : Gl X "isinstance" := by rfl) (hgT : Gl X "ValueError" := by rfl)
    (hs : starEach [a, .Name "ValueError" pT] X.env = (false, eval a X.env) :: starEach [.Name "ValueError" pT] X.env := by rfl) (hpl : (backTo pos (starEach [.Name "ValueError" pT] X.env)).any (·.1) = false := by rfl) : PD X (.Call (.Name "isinstance" p) [a, .Name "ValueError" pT] [] pos) (z6v fa) := by
  refine PE.imp (x64 y97 hg hm PyProof.Rows.boot_isinstance (x4c ha (x4c (y70 (v := .ty "ValueError") hgT hmT (by kernel_rfl) rfl (by decide) (by decide)) x7v x05) hs) (by decide) (by decide) hs hpl) fun σ H Q hh0 => ?_
  obtain ⟨ρ, w, t, r', q, ρ', gd, ee, k⟩ := hh0
  unfold z6v at ee
  split at ee
  · rename_i n q1 ρ1 h1
    cases ee
    refine ⟨ρ, w, t, _, _, _, gd, h1, fun v H1 w1 F1 g1 go1 r1 => ?_⟩
    exact ⟨v, w1, _, _, F1, n, rfl, r1, k _ H1 (x21 t w1) [] g1.drop.up (go1.drop gd.wt) (.bl _)⟩
  · cases ee
noncomputable def z41 : D -> D -> Option D
  | .non, .non => some (.bl true)
  | .exc _, .non => some (.bl false)
  | .int _, .non => some (.bl false)
  | .tup _, .non => some (.bl false)
  | .str _, .non => some (.bl false)
  | _, _ => none
noncomputable def z8c : R2 := fun x y H Q => y = .non /\ ((x = .non /\ Q (.bl true) H) \/ ((∃ i, x = .int i) \/ (∃ i, x = .str i) \/ (∃ i, x = .ref i)) /\ Q (.bl false) H)
theorem z0d : OpR X (compareOp .Is) z8c := by
  intro pins s σ H x y v u Q I rx ry h
  obtain ⟨rfl, h⟩ := h
  cases ry
  rcases h with ⟨rfl, q⟩ | ⟨⟨i, rfl⟩ | ⟨i, rfl⟩ | ⟨i, rfl⟩, q⟩
  · cases rx
    exact wpAny_pure ⟨.bl true, H, I, rfl, q⟩
  · obtain ⟨t, rfl⟩ := rx
    exact wpAny_pure ⟨.bl false, H, I, rfl, q⟩
  · obtain ⟨t, rfl⟩ := rx
    exact wpAny_pure ⟨.bl false, H, I, rfl, q⟩
  · cases rx
    exact wpAny_pure ⟨.bl false, H, I, rfl, q⟩
theorem z94 {K : PySem.W.Frag} : ∀ σ H Q, tD K (e2 z41 fa fb) σ H Q -> tOp z8c (tD K fa) (tD K fb) σ H Q := x94 fun x y d h => by
  unfold z41 at h
  split at h
  · cases h
    exact ⟨_, rfl, fun H w o o' q q' u u' F F' r1 r2 _ Q hq => by cases r1; cases r2; exact ⟨rfl, .inl ⟨rfl, hq⟩⟩⟩
  · cases h
    exact ⟨_, rfl, fun H w o o' q q' u u' F F' r1 r2 _ Q hq => by cases r1; cases r2; exact ⟨rfl, .inr ⟨.inr (.inr ⟨_, rfl⟩), hq⟩⟩⟩
  · cases h
    exact ⟨_, rfl, fun H w o o' q q' u u' F F' r1 r2 _ Q hq => by cases r1; cases r2; exact ⟨rfl, .inr ⟨.inl ⟨_, rfl⟩, hq⟩⟩⟩
  · cases h
    exact ⟨_, rfl, fun H w o o' q q' u u' F F' r1 r2 _ Q hq => by cases r1; cases r2; exact ⟨rfl, .inr ⟨.inr (.inr ⟨_, rfl⟩), hq⟩⟩⟩
  · cases h
    exact ⟨_, rfl, fun H w o o' q q' u u' F F' r1 r2 _ Q hq => by cases r1; cases r2; exact ⟨rfl, .inr ⟨.inr (.inl ⟨_, rfl⟩), hq⟩⟩⟩
  · cases h
theorem z36 (ha : PD X a fa) (hb : PD X b fb) : PDT X (.Compare a [.Is] [b] pos) (x2y (e2 z41 fa fb)) := x7g z0d z94 ha hb (x9n _)
noncomputable def y5q (d : D) (ds : List D) : Nat := (x5x ds).countP fun y => PyData.eqv y (toP d)
noncomputable def z7b (K : PySem.W.Frag) : V -> List V -> Hp -> VK -> Prop := fun x xs H Q => ∃ ds d y, xs = [y] /\ Is K H (.lst ds) x /\ Is K H d y /\ okD (.lst ds) = true /\ okD d = true /\ Q (.int (Int.ofNat (y5q d ds))) H
theorem z37 (hu : X.A.units + 65 < cLine) : MtR X "list.count" (z7b X.K) := by
  intro pins s σ H x xs v us Q I rx rs ⟨ds, d, y, e, ⟨w, o, q, F, h1⟩, ⟨w', o', q', F', h2⟩, k1, k2, hq⟩
  subst e
  obtain ⟨u, rfl, ru⟩ := y11 rs
  obtain ⟨as, ra⟩ := h1.reads I rx (x82 k1)
  obtain ⟨bs, rb⟩ := h2.reads I ru (x82 k2)
  replace k1 := x85 k1
  replace k2 := x85 k2
  unfold toP at ra k1
  have hc1 : PyData.canLayAll0 (x5x ds) = true := SeqAt.canLay_of_shaped k1
  have hc2 := SeqAt.canLay_of_shaped k2
  cases ra with
  | @list a ob vs n _ _ ho hcl hd hrs =>
    obtain ⟨cls, dd, data, sl⟩ := ob
    simp only at hcl hd
    subst hcl hd
    have hmap := SeqAt.readsAll_map _ _ _ hc1 hrs
    have hcnt : vs.toList.countP (fun y => PyData.eqv (SeqAt.readOf s.heap y) (toP d)) = y5q d ds := by
      unfold y5q
      rw [<- hmap, List.countP_map]
      rfl
    refine call_meets PySem.F.slot_list_count ⟨_, ho, rfl⟩ PySem.F.entry_list_count (PySem.F.args_list_count_2 _ _)
      (list_countAt a vs n dd sl u (fun y => PyData.eqv (SeqAt.readOf s.heap y) (toP d))) ⟨ho, SeqAt.items_eqAt hrs rb hc1 hc2 (room_in_shaped k2 hu), ?_⟩
    rw [hcnt]
    exact ⟨.int (Int.ofNat (y5q d ds)), H, I.tok _, ⟨_, rfl⟩, hq⟩
noncomputable def z6x (fo : Den) (g : x1v) : Den := fun ρ => match fo ρ with
  | some (.lst ds, _, ρ1) => match g ρ1 with
    | some ([d], ρ2) => if okD (.lst ds) = true /\ okD d = true then some (.int (Int.ofNat (y5q d ds)), 9, ρ2) else none
    | _ => none
  | _ => none
noncomputable def z2k (K : PySem.W.Frag) : V -> List V -> Hp -> VK -> Prop := fun x xs H Q => ∃ ds d y j, xs = [y] /\ Is K H (.lst ds) x /\ Is K H d y /\ okD (.lst ds) = true /\ okD d = true /\ z3o d ds = some j /\ (j : Int) < 1000 /\ Q (.int (Int.ofNat j)) H
theorem y6w (hu : X.A.units + 65 < cLine) : MtR X "list.index" (z2k X.K) := by
  intro pins s σ H x xs v us Q I rx rs ⟨ds, d, y, j, e, ⟨w, o, q, F, h1⟩, ⟨w', o', q', F', h2⟩, k1, k2, hj, hsm, hq⟩
  subst e
  obtain ⟨u, rfl, ru⟩ := y11 rs
  obtain ⟨as, ra⟩ := h1.reads I rx (x82 k1)
  obtain ⟨bs, rb⟩ := h2.reads I ru (x82 k2)
  replace k1 := x85 k1
  replace k2 := x85 k2
  unfold toP at ra k1
  have hc1 : PyData.canLayAll0 (x5x ds) = true := SeqAt.canLay_of_shaped k1
  have hc2 := SeqAt.canLay_of_shaped k2
  cases ra with
  | @list a ob vs n _ _ ho hcl hd hrs =>
    obtain ⟨cls, dd, data, sl⟩ := ob
    simp only at hcl hd
    subst hcl hd
    have hmap := SeqAt.readsAll_map _ _ _ hc1 hrs
    have hfi := List.findIdx?_eq_some_iff_getElem.mp hj
    obtain ⟨hjl, hjt, hjf⟩ := hfi
    have hlen : vs.size = (x5x ds).length := by rw [<- hmap]; simp
    have hat : ∀ m (hm : m < vs.size) (hm' : m < (x5x ds).length), SeqAt.readOf s.heap vs[m] = (x5x ds)[m] := fun m hm hm' => by
      have : (vs.toList.map (SeqAt.readOf s.heap))[m]? = (x5x ds)[m]? := by rw [hmap]
      simpa [hm, hm'] using this
    refine call_meets PySem.F.slot_list_index ⟨_, ho, rfl⟩ PySem.F.entry_list_index (PySem.F.args_list_index_2 _ _)
      (list_indexAt a vs n dd sl u (fun y => PyData.eqv (SeqAt.readOf s.heap y) (toP d)) j (by omega) (by omega) (by rw [hat j (by omega) hjl]; simpa using hjt) (fun m hm hmj => by rw [hat m hm (by omega)]; simpa using hjf m hmj)) ⟨ho, SeqAt.items_eqAt hrs rb hc1 hc2 (room_in_shaped k2 hu), ?_⟩
    exact ⟨.int (Int.ofNat j), H, I.tok _, ⟨_, rfl⟩, hq⟩
noncomputable def y10 (fo : Den) (g : x1v) : Den := fun ρ => match fo ρ with
  | some (.lst ds, _, ρ1) => match g ρ1 with
    | some ([d], ρ2) => if okD (.lst ds) = true /\ okD d = true then match z3o d ds with
      | some j => if (j : Int) < 1000 then some (.int (Int.ofNat j), 9, ρ2) else none
      | none => none
      else none
    | _ => none
  | _ => none
theorem Rep.sqL {K : PySem.W.Frag} {H : Hp} {w : Wn} {ds : List D} {v : V} {F : List Addr} (r : Rep K H w .f 0 (.lst ds) v F) : ∃ a us, v = .ref a /\ SqL K H a us := by
  cases r with
  | kl h _ => exact ⟨_, _, rfl, .inr h⟩
  | shr h _ _ => exact ⟨_, _, rfl, .inl h⟩
theorem z2f {k : Nat} (hr : Room k X.A) (ho : PD X a fa) (ha : PDA X [e] g)
    (hbase : attributeBase a "count" X.env (eval a X.env) = eval a X.env := by rfl)
    (hfew : ((backTo cpos (starEach [e] X.env)).all (fun x => !x.1) && (backToKw cpos (keywordEach [] X.env)).all (fun x => x.1.isSome)
      && decide ([e].length + ([] : List Keyword).length + (if ([] : List Keyword).isEmpty then 0 else 1) < 30)) = true := by rfl)
    (hline : (apos.endLine == cpos.line) = true := by rfl) (hs : starEach [e] X.env = (false, eval e X.env) :: starEach [] X.env := by rfl) (hplain : (backTo cpos (starEach [] X.env)).any (·.1) = false := by rfl) :
    PD X (.Call (.Attribute a "count" apos) [e] [] cpos) (z6x fa g) :=
  PE.imp (y4y PySem.F.plainAttrs_list PySem.F.slot_list_count PySem.F.type_list_count (z37 (u65 hr)) ho ha hbase hfew hline hs hplain) fun σ H Q hh0 => by
  obtain ⟨ρ, w, t, r', q, ρ', gd, ee, k⟩ := hh0
  unfold z6x at ee
  split at ee
  · rename_i ds q1 ρ1 h1
    split at ee
    · rename_i d ρ2 h2
      split at ee
      · rename_i hok
        cases ee
        refine ⟨ρ, w, t, _, _, _, gd, h1, fun v H1 w1 F1 g1 go1 r1 => ?_⟩
        have r0 := r1.drop (o := .f) (Nat.le_refl t)
        have gg := g1.drop (t' := t)
        obtain ⟨p0, us, rfl, hq⟩ := Rep.sqL r0
        refine ⟨.inl ⟨rfl, us, hq⟩, ρ1, x21 t w1, t, _, _, gg, h2, fun vs2 H2 w2 g2 go2 r2 => ?_⟩
        obtain ⟨v2, rfl, rv2⟩ := one r2
        have r3 : Rep X.K H2 w2 .f 0 (.lst ds) (.ref p0) [] := r0.go0 gg.wl go2.stab
        exact ⟨ds, d, v2, rfl, ⟨_, _, _, _, r3⟩, ⟨_, _, _, _, rv2⟩, hok.1, hok.2, k _ H2 w2 [] g2.up ((go1.drop gd.wt).trans go2) (.int _)⟩
      · cases ee
    · cases ee
  · cases ee
theorem y7a {k : Nat} (hr : Room k X.A) (ho : PD X a fa) (ha : PDA X [e] g)
    (hbase : attributeBase a "index" X.env (eval a X.env) = eval a X.env := by rfl)
    (hfew : ((backTo cpos (starEach [e] X.env)).all (fun x => !x.1) && (backToKw cpos (keywordEach [] X.env)).all (fun x => x.1.isSome)
      && decide ([e].length + ([] : List Keyword).length + (if ([] : List Keyword).isEmpty then 0 else 1) < 30)) = true := by rfl)
    (hline : (apos.endLine == cpos.line) = true := by rfl) (hs : starEach [e] X.env = (false, eval e X.env) :: starEach [] X.env := by rfl) (hplain : (backTo cpos (starEach [] X.env)).any (·.1) = false := by rfl) :
    PD X (.Call (.Attribute a "index" apos) [e] [] cpos) (y10 fa g) :=
  PE.imp (y4y PySem.F.plainAttrs_list PySem.F.slot_list_index PySem.F.type_list_index (y6w (u65 hr)) ho ha hbase hfew hline hs hplain) fun σ H Q hh0 => by
  obtain ⟨ρ, w, t, r', q, ρ', gd, ee, k⟩ := hh0
  unfold y10 at ee
  split at ee
  · rename_i ds q1 ρ1 h1
    split at ee
    · rename_i d ρ2 h2
      split at ee
      · rename_i hok
        split at ee
        · rename_i j hj
          split at ee
          · rename_i hsm
            cases ee
            refine ⟨ρ, w, t, _, _, _, gd, h1, fun v H1 w1 F1 g1 go1 r1 => ?_⟩
            have r0 := r1.drop (o := .f) (Nat.le_refl t)
            have gg := g1.drop (t' := t)
            obtain ⟨p0, us, rfl, hq⟩ := Rep.sqL r0
            refine ⟨.inl ⟨rfl, us, hq⟩, ρ1, x21 t w1, t, _, _, gg, h2, fun vs2 H2 w2 g2 go2 r2 => ?_⟩
            obtain ⟨v2, rfl, rv2⟩ := one r2
            have r3 : Rep X.K H2 w2 .f 0 (.lst ds) (.ref p0) [] := r0.go0 gg.wl go2.stab
            exact ⟨ds, d, v2, j, rfl, ⟨_, _, _, _, r3⟩, ⟨_, _, _, _, rv2⟩, hok.1, hok.2, hj, hsm, k _ H2 w2 [] g2.up ((go1.drop gd.wt).trans go2) (.int _)⟩
          · cases ee
        · cases ee
      · cases ee
    · cases ee
  · cases ee
end
end L3
namespace L3
open PySem PySem.Spec PyProof.Rows L2
structure QE (X : Cx) (e : Expr) (t : TE) : Prop where mk :: o : PE X e t
structure QD (X : Cx) (e : Expr) (f : Den) : Prop where mk :: o : PD X e f
structure QDA (X : Cx) (e : List Expr) (f : x1v) : Prop where mk :: o : PDA X e f
structure QDT (X : Cx) (e : Expr) (f : x2k) : Prop where mk :: o : PDT X e f
structure QDW (X : Cx) (e : Expr) (f : x2k) : Prop where mk :: o : PDW X e f
structure QDS (X : Cx) (e : Stmt) (f : x22) : Prop where mk :: o : PDS X e f
structure QDSs (X : Cx) (e : List Stmt) (f : x22) : Prop where mk :: o : y66 X e f
structure QDI (X : Cx) (tg e : Expr) (f : y09) : Prop where mk :: o : PDI X tg e f
structure QDG (X : Cx) (b : Nat) (e : Expr) (f : x6b) : Prop where mk :: o : PDG X b e f
structure QDGs (X : Cx) (b : Nat) (e : List Expr) (f : x7l) : Prop where mk :: o : z4j X b e f
structure QDO (X : Cx) (e : Option Expr) (f : z0u) : Prop where mk :: o : PDO X e f
structure QDTs (X : Cx) (e : List Expr) (f : x2k) : Prop where mk :: o : z4k X e f
structure QQ (X : Cx) (e : Expr) (f : y4h) : Prop where mk :: o : PQ X e f
theorem qv {X : Cx} (i : Nat) {x : Str} {pos : Pos} (hN : X.N[i]? = some x := by rfl) (hv : Vis X.env.scope x := by first | exact Or.inl rfl | exact Or.inr (Or.inl rfl) | exact Or.inr (Or.inr rfl)) (hd : (x == ("__debug__" : Str)) = false := by decide) (hcd : (x == ("__classdict__" : Str)) = false := by decide) : QE X (.Name x pos) (x9i i) := ⟨pv i hN hv hd hcd⟩
theorem y3k {X : Cx} {e : Expr} {f : x2k} (h : QDW X e f) : QDT X e f := ⟨PW.pt h.o⟩
section
variable {X : Cx} {a b c e : Expr} {fa fb fc f : Den} {pos : Pos}
theorem x0f {i j} : QD X (.Constant (.int i) j pos) (eC (.int i)) := ⟨z69 ⟩
end
section
variable {X : Cx} {a b c e : Expr} {fa fb fc f : Den} {pos : Pos}
theorem x3y {i j} : QD X (.Constant (.bool i) j pos) (eC (.bl i)) := ⟨z7z ⟩
end
section
variable {X : Cx} {a b c e : Expr} {fa fb fc f : Den} {pos : Pos}
theorem y47 {j} : QD X (.Constant .none j pos) (eC .non) := ⟨z6c ⟩
end
section
variable {X : Cx} {a b c e : Expr} {fa fb fc f : Den} {pos : Pos}
theorem x7x {x j} : QD X (.Constant (.str x) j pos) (eC (.str x)) := ⟨z5y ⟩
end
section
variable {X : Cx} {a b c e : Expr} {fa fb fc f : Den} {pos : Pos}
theorem x02 {i : Nat} {x : Str} (h : QE X (.Name x pos) (x9i i)) : QD X (.Name x pos) (x06 i) := ⟨z6b h.o⟩
end
section
variable {X : Cx} {a b c e : Expr} {fa fb fc f : Den} {pos : Pos}
theorem x2z (ha : QD X a fa) (hb : QD X b fb) : QD X (.BinOp a .Add b pos) (e2 x4x fa fb) := ⟨z46 ha.o hb.o⟩
end
section
variable {X : Cx} {a b c e : Expr} {fa fb fc f : Den} {pos : Pos}
theorem x7t (ha : QD X a fa) (hb : QD X b fb) : QD X (.BinOp a .Mult b pos) (e2 y58 fa fb) := ⟨z5s ha.o hb.o⟩
end
section
variable {X : Cx} {a b c e : Expr} {fa fb fc f : Den} {pos : Pos}
theorem y7j (ha : QD X a fa) (hb : QD X b fb) : QD X (.BinOp a .FloorDiv b pos) (e2 z5d fa fb) := ⟨z5g ha.o hb.o⟩
end
section
variable {X : Cx} {a b c e : Expr} {fa fb fc f : Den} {pos : Pos}
theorem x9r (ha : QD X a fa) (hb : QD X b fb) : QD X (.BinOp a .Mod b pos) (e2 z0g fa fb) := ⟨z4b ha.o hb.o⟩
end
section
variable {X : Cx} {a b c e : Expr} {fa fb fc f : Den} {pos : Pos}
theorem x42 (ha : QD X a fa) (hb : QD X b fb) (hs : x5b b := by exact fun _ _ => rfl) : QD X (.Subscript a b pos) (eIx fa fb) := ⟨z7p ha.o hb.o hs⟩
end
section
variable {X : Cx} {a b c e : Expr} {fa fb fc f : Den} {pos : Pos}
theorem x03  : QDA X [] x0e := ⟨z1r ⟩
end
section
variable {X : Cx} {a b c e : Expr} {fa fb fc f : Den} {pos : Pos}
theorem x00 {es : List Expr} {g : x1v} (ha : QD X e f) (hr : QDA X es g) (hs : starEach (e :: es) X.env = (false, eval e X.env) :: starEach es X.env := by rfl) : QDA X (e :: es) (x01 f g) := ⟨y9k ha.o hr.o hs⟩
end
section
variable {X : Cx} {a b c e : Expr} {fa fb fc f : Den} {pos : Pos}
theorem x3j {es : List Expr} {g : x1v} (h : QDA X es g) : QD X (.List es pos) (x7a g) := ⟨z6g h.o⟩
end
section
variable {X : Cx} {a b c e : Expr} {fa fb fc f : Den} {pos : Pos}
theorem x5n {es : List Expr} {g : x1v} {x1} (h : QDA X es g) : QD X (.Tuple es x1 pos) (x88 g) := ⟨z6d h.o⟩
end
section
variable {X : Cx} {a b c e : Expr} {fa fb fc f : Den} {ga gb gc : x2k} {pos : Pos}
theorem x4h (ha : QD X a fa) (he : ∀ whole, isTrue a X.env whole = (do let v <- whole; standAt a.pos; holding [v] (truthy v)) := by exact fun _ => rfl) : QDT X a (x8q fa) := ⟨z2b ha.o he⟩
end
section
variable {X : Cx} {a b c e : Expr} {fa fb fc f : Den} {ga gb gc : x2k} {pos : Pos}
theorem y2e (ha : QD X a fa) (hb : QD X b fb) : QDT X (.Compare a [.Lt] [b] pos) (x2y (e2 dLt fa fb)) := ⟨z52 ha.o hb.o⟩
end
section
variable {X : Cx} {a b c e : Expr} {fa fb fc f : Den} {ga gb gc : x2k} {pos : Pos}
theorem x4m (ha : QDT X a ga) : QDT X (.UnaryOp .Not a pos) (x45 ga) := ⟨z1v ha.o⟩
end
section
variable {X : Cx} {a b c e : Expr} {fa fb fc f : Den} {ga gb gc : x2k} {pos : Pos} {x2n : List Expr}
theorem x6f (ha : QDT X a ga) : QDW X (.BoolOp .Or [a] pos) ga := ⟨z2v ha.o⟩
end
section
variable {X : Cx} {a b c e : Expr} {fa fb fc f : Den} {ga gb gc : x2k} {pos : Pos} {x2n : List Expr}
theorem x8l (ha : QDT X a ga) (hb : QDW X (.BoolOp .Or (b :: x2n) pos) gb) : QDW X (.BoolOp .Or (a :: b :: x2n) pos) (y54 ga gb) := ⟨z4f ha.o hb.o⟩
end
section
variable {X : Cx} {a b c e : Expr} {fa fb fc f : Den} {ga gb gc : x2k} {pos : Pos} {x2n : List Expr}
theorem y44 (hc : QDT X c gc) (ha : QD X a fa) (hb : QD X b fb) : QD X (.IfExp c a b pos) (eIf gc fa fb) := ⟨y95 hc.o ha.o hb.o⟩
end
section
variable {X : Cx} {a b c e : Expr} {fa fb fc f : Den} {ga gb gc : x2k} {pos : Pos} {st : Stmt} {x2n sa sb : List Stmt} {s s' : x22}
theorem x1j  : QDSs X [] x4f := ⟨z2z ⟩
end
section
variable {X : Cx} {a b c e : Expr} {fa fb fc f : Den} {ga gb gc : x2k} {pos : Pos} {st : Stmt} {x2n sa sb : List Stmt} {s s' : x22}
theorem x0a (h1 : QDS X st s) (h2 : QDSs X x2n s') : QDSs X (st :: x2n) (x1i s s') := ⟨y8q h1.o h2.o⟩
end
section
variable {X : Cx} {a b c e : Expr} {fa fb fc f : Den} {ga gb gc : x2k} {pos : Pos} {st : Stmt} {x2n sa sb : List Stmt} {s s' : x22}
theorem x0c (h1 : QDS X st s) : QDSs X [st] s := ⟨z1a h1.o⟩
end
section
variable {X : Cx} {a b c e : Expr} {fa fb fc f : Den} {ga gb gc : x2k} {pos : Pos} {st : Stmt} {x2n sa sb : List Stmt} {s s' : x22}
theorem x0k (h : QD X e f) : QDS X (.Return (some e) pos) (x29 f) := ⟨z24 h.o⟩
end
section
variable {X : Cx} {a b c e : Expr} {fa fb fc f : Den} {ga gb gc : x2k} {pos : Pos} {st : Stmt} {x2n sa sb : List Stmt} {s s' : x22}
theorem x2d (hc : QDT X c gc) (ha : QDSs X sa s) (hb : QDSs X sb s') : QDS X (.If c sa sb pos) (sIf gc s s') := ⟨z4t hc.o ha.o hb.o⟩
end
section
variable {X : Cx} {a b c e : Expr} {fa fb fc f : Den} {ga gb gc : x2k} {pos : Pos} {st : Stmt} {x2n sa sb : List Stmt} {s s' : x22}
theorem x16 {i : Nat} {x : Str} {pos' : Pos} (hN : X.N.Nodup) (hi : X.N[i]? = some x) (hx : Loc X.env.scope x) (he : QD X e f) (hs : swapsWith e (some (.Name x pos')) pos.line X.env = pure false := by rfl) (hf : X.fn x = true \/ X.env.scope.names.lookup x = some .local := by first | exact .inl rfl | exact .inr rfl) : QDS X (.Assign [.Name x pos'] e pos) (x30 i f) := ⟨z1u hN hi hx he.o hs hf⟩
end
section
variable {X : Cx} {a b c e : Expr} {fa fb fc f : Den} {ga gb gc : x2k} {pos : Pos} {st : Stmt} {x2n sa sb : List Stmt} {s s' : x22}
theorem x66 (he : QD X e f) (hs : swapsWith e none pos.line X.env = pure false := by rfl) : QDS X (.Expr e pos) (y0x f) := ⟨y96 he.o hs⟩
end
section
variable {X : Cx} {tg a b c e : Expr} {fa fb fc f : Den} {ga gb gc : x2k} {pos p : Pos}
theorem x0m {g : x1v} (hm : X.mg "range" = none) (ha : QDA X [a] g) (hg : Gl X "range" := by rfl) (hs : starEach [a] X.env = [(false, eval a X.env)] := by rfl) : QDI X tg (.Call (.Name "range" p) [a] [] pos) (x0q g) := ⟨y5c hm ha.o hg hs⟩
end
section
variable {X : Cx} {tg a b c e : Expr} {fa fb fc f : Den} {ga gb gc : x2k} {pos p : Pos}
theorem x4i (ha : QD X a fa) : QDI X tg a (x7b fa) := ⟨z1f ha.o⟩
end
section
theorem x0i {X : Cx} {b i : Nat} {x : Str} {pos : Pos} (hb : b <= i) (hN : X.N.Nodup) (hi : X.N[i]? = some x) (hx : Loc X.env.scope x) (hf : X.fn x = true \/ X.env.scope.names.lookup x = some .local := by first | exact .inl rfl | exact .inr rfl) : QDG X b (.Name x pos) (x0h i) := ⟨y84 hb hN hi hx hf⟩
end
section
theorem x2c {X : Cx} {tg iter : Expr} {body : List Stmt} {it : y09} {pt : x6b} {s : x22} {pos : Pos} (hp : PassesOwn (model X.prog X.w) X.A X.env X.xe) (hc : X.calm = true) (hi : QDI X tg iter it) (hg : QDG X 0 tg pt) (hb : QDSs X body s) (hs : ∀ x, foldedSetIterable iter X.env x = pure x := by intro _; rfl) : QDS X (.For tg iter body [] pos) (x5g it pt s) := ⟨z1g hp hc hi.o hg.o hb.o hs⟩
end
section
variable {X : Cx} {k : Nat} {N' : List Str} {scope : Scope} {elt tg iter : Expr} {ifs : List Expr} {pos : Pos} {it : y09} {pt : x6b} {tt : x2k} {te : Den}
theorem x1r  : QDTs X [] x1f := ⟨y8m ⟩
end
section
variable {X : Cx} {k : Nat} {N' : List Str} {scope : Scope} {elt tg iter : Expr} {ifs : List Expr} {pos : Pos} {it : y09} {pt : x6b} {tt : x2k} {te : Den}
theorem y0g {c : Expr} {g : x2k} (h : QDT X c g) : QDTs X [c] g := ⟨y9f h.o⟩
end
section
variable {X : Cx} {k : Nat} {N' : List Str} {scope : Scope} {elt tg iter : Expr} {ifs : List Expr} {pos : Pos} {it : y09} {pt : x6b} {tt : x2k} {te : Den}
theorem x2r (deep : Bool) (hc : X.calm = true) (S : CompOk X k N' scope) (hi : QDI X tg iter it) (hg : ∀ C s H fp, QDG (x23 X N' scope C s H fp) X.N.length tg pt) (ht : ∀ C s H fp, QDTs (x23 X N' scope C s H fp) ifs tt) (he : ∀ C s H fp, QD (x23 X N' scope C s H fp) elt te) (hs : ∀ x, foldedSetIterable iter X.env x = pure x := by intro _; rfl) : QD X (.ListComp elt [⟨tg, iter, ifs, 0⟩] scope pos) (x25 k it pt tt te deep) := ⟨z2y deep hc S hi.o (fun C s H fp => (hg C s H fp).o) (fun C s H fp => (ht C s H fp).o) (fun C s H fp => (he C s H fp).o) hs⟩
end
section
variable {X : Cx} {k : Nat} {N' : List Str} {scope : Scope} {elt tg iter : Expr} {ifs : List Expr} {pos : Pos} {it : y09} {pt : x6b} {tt : x2k} {te : Den}
theorem x6o {i : Nat} {y : Str} {py spos : Pos} (deep : Bool) (hN : X.N.Nodup) (hy : X.N[i]? = some y) (hx : Loc X.env.scope y) (hsw : swapsWith (.ListComp elt [⟨tg, iter, ifs, 0⟩] scope pos) (some (.Name y py)) spos.line X.env = pure true) (hc : X.calm = true) (S : CompOk X k N' scope) (hi : QDI X tg iter it) (hg : ∀ C s H fp, QDG (x23 X N' scope C s H fp) X.N.length tg pt) (ht : ∀ C s H fp, QDTs (x23 X N' scope C s H fp) ifs tt) (he : ∀ C s H fp, QD (x23 X N' scope C s H fp) elt te) (hs : ∀ x, foldedSetIterable iter X.env x = pure x := by intro _; rfl) (hf : X.fn y = true \/ X.env.scope.names.lookup y = some .local := by first | exact .inl rfl | exact .inr rfl | assumption) : QDS X (.Assign [.Name y py] (.ListComp elt [⟨tg, iter, ifs, 0⟩] scope pos) spos) (x30 i (x25 k it pt tt te deep)) := ⟨y9g deep hN hy hx hsw hc S hi.o (fun C s H fp => (hg C s H fp).o) (fun C s H fp => (ht C s H fp).o) (fun C s H fp => (he C s H fp).o) hs hf⟩
end
section
variable {X : Cx} {a b c e : Expr} {fa fb fc f : Den} {pos : Pos}
theorem y3l {k : Nat} (hr : Room k X.A) (ha : QD X a fa) (hb : QD X b fb) : QD X (.Compare a [.Eq] [b] pos) (e2 dEq fa fb) := ⟨z7a hr ha.o hb.o⟩
end
section
variable {X : Cx} {a b c e : Expr} {fa fb fc f : Den} {pos : Pos}
theorem x8k {k : Nat} (hr : Room k X.A) (ha : QD X a fa) (hb : QD X b fb) : QDT X (.Compare a [.Eq] [b] pos) (x2y (e2 dEq fa fb)) := ⟨z44 hr ha.o hb.o⟩
end
section
variable {X : Cx} {a b c e : Expr} {fa fb fc f : Den} {pos : Pos}
theorem x6v {k : Nat} (hr : Room k X.A) (ha : QD X a fa) (hb : QD X b fb) : QDT X (.Compare a [.NotEq] [b] pos) (x2y (e2 dNe fa fb)) := ⟨z3y hr ha.o hb.o⟩
end
section
variable {X : Cx} {a b c e : Expr} {fa fb fc f : Den} {pos : Pos}
theorem z0s {k : Nat} (hr : Room k X.A) (ha : QD X a fa) (hb : QD X b fb) (hm : behindInMarks .In b = false := by with_unfolding_all rfl) : QDT X (.Compare a [.In] [b] pos) (x2y (e2 dIn fa fb)) := ⟨z6a hr ha.o hb.o hm⟩
end
section
variable {X : Cx} {a b c e : Expr} {fa fb fc f : Den} {pos : Pos}
theorem z7g {k : Nat} (hr : Room k X.A) (ha : QD X a fa) (hb : QD X b fb) (hm : behindInMarks .In b = false := by with_unfolding_all rfl) : QD X (.Compare a [.In] [b] pos) (e2 dIn fa fb) := ⟨z7c hr ha.o hb.o hm⟩
end
section
variable {X : Cx} {a b c e : Expr} {es : List Expr} {fa fb fc f : Den} {g : x1v} {pos p p1 p2 : Pos}
theorem x0t {i : Nat} {x : Str} (hm : X.mg "len" = none) (h : QE X (.Name x p1) (x9i i)) (hg : Gl X "len" := by rfl) (he : starEach [.Name x p1] X.env = (false, eval (.Name x p1) X.env) :: starEach [] X.env := by rfl) (hpl : (backTo pos (starEach [] X.env)).any (·.1) = false := by rfl) : QD X (.Call (.Name "len" p) [.Name x p1] [] pos) (x0z i) := ⟨z2p hm h.o hg he hpl⟩
end
section
variable {X : Cx} {a b c e : Expr} {es : List Expr} {fa fb fc f : Den} {g : x1v} {pos p p1 p2 : Pos}
theorem y6e (hc : X.calm = true) (hm : X.mg "max" = none) (hb : bootBuiltins "max" = some (.builtin "max")) (ha : QDA X (a :: es) g) (hg : Gl X "max" := by rfl) (he : starEach (a :: es) X.env = (false, eval a X.env) :: starEach es X.env := by rfl) (hpl : (backTo pos (starEach es X.env)).any (·.1) = false := by rfl) : QD X (.Call (.Name "max" p) (a :: es) [] pos) (eB z4a g) := ⟨z2w hc hm hb ha.o hg he hpl⟩
end
section
variable {X : Cx} {a b c e : Expr} {es : List Expr} {fa fb fc f : Den} {g : x1v} {pos p p1 p2 : Pos}
theorem y1j (hm : X.mg "list" = none) (hb : bootBuiltins "list" = some (.type "list")) (ha : QDA X [a] g) (hg : Gl X "list" := by rfl) (he : starEach [a] X.env = (false, eval a X.env) :: starEach [] X.env := by rfl) (hpl : (backTo pos (starEach [] X.env)).any (·.1) = false := by rfl) : QD X (.Call (.Name "list" p) [a] [] pos) (x5p g) := ⟨y6z hm hb ha.o hg he hpl⟩
end
section
variable {X : Cx} {a b c e : Expr} {es : List Expr} {fa fb fc f : Den} {g : x1v} {pos p p1 p2 : Pos}
theorem x32 (hm : X.mg "tuple" = none) (hb : bootBuiltins "tuple" = some (.type "tuple")) (ha : QDA X [a] g) (hg : Gl X "tuple" := by rfl) (he : starEach [a] X.env = (false, eval a X.env) :: starEach [] X.env := by rfl) (hpl : (backTo pos (starEach [] X.env)).any (·.1) = false := by rfl) : QD X (.Call (.Name "tuple" p) [a] [] pos) (x1x g) := ⟨y8j hm hb ha.o hg he hpl⟩
end
section
variable {X : Cx} {a : Expr} {g : x1v} {pos p p1 pos1 : Pos}
theorem y0t (hc : X.calm = true) (hm : X.mg "list" = none) (hb : bootBuiltins "list" = some (.type "list")) (hmr : X.mg "range" = none) (ha : QDA X [a] g) (hg : Gl X "list" := by rfl) (hgr : Gl X "range" := by rfl) (hs : starEach [a] X.env = [(false, eval a X.env)] := by rfl) (he : starEach [.Call (.Name "range" p1) [a] [] pos1] X.env = (false, eval (.Call (.Name "range" p1) [a] [] pos1) X.env) :: starEach [] X.env := by rfl) (hpl : (backTo pos (starEach [] X.env)).any (·.1) = false := by rfl) : QD X (.Call (.Name "list" p) [.Call (.Name "range" p1) [a] [] pos1] [] pos) (x69 g) := ⟨y9u hc hm hb hmr ha.o hg hgr hs he hpl⟩
end
section
variable {X : Cx} {a : Expr} {g : x1v} {pos p p1 pos1 : Pos}
theorem z2l (hc : X.calm = true) (hm : X.mg "tuple" = none) (hb : bootBuiltins "tuple" = some (.type "tuple")) (hmr : X.mg "range" = none) (ha : QDA X [a] g) (hg : Gl X "tuple" := by rfl) (hgr : Gl X "range" := by rfl) (hs : starEach [a] X.env = [(false, eval a X.env)] := by rfl) (he : starEach [.Call (.Name "range" p1) [a] [] pos1] X.env = (false, eval (.Call (.Name "range" p1) [a] [] pos1) X.env) :: starEach [] X.env := by rfl) (hpl : (backTo pos (starEach [] X.env)).any (·.1) = false := by rfl) : QD X (.Call (.Name "tuple" p) [.Call (.Name "range" p1) [a] [] pos1] [] pos) (z18 g) := ⟨z1m hc hm hb hmr ha.o hg hgr hs he hpl⟩
end
section
variable {X : Cx} {a b c e : Expr} {es : List Expr} {fa fb fc f : Den} {g : x1v} {pos p p1 p2 cpos apos : Pos}
theorem y9b {k : Nat} (hr : Room k X.A) (ho : QD X a fa) (ha : QDA X [e] g) (hbase : attributeBase a "index" X.env (eval a X.env) = eval a X.env := by rfl) (hfew : ((backTo cpos (starEach [e] X.env)).all (fun x => !x.1) && (backToKw cpos (keywordEach [] X.env)).all (fun x => x.1.isSome)
      && decide ([e].length + ([] : List Keyword).length + (if ([] : List Keyword).isEmpty then 0 else 1) < 30)) = true := by rfl) (hline : (apos.endLine == cpos.line) = true := by rfl) (hs : starEach [e] X.env = (false, eval e X.env) :: starEach [] X.env := by rfl) (hplain : (backTo cpos (starEach [] X.env)).any (·.1) = false := by rfl) : QD X (.Call (.Attribute a "index" apos) [e] [] cpos) (y3z fa g) := ⟨z07 hr ho.o ha.o hbase hfew hline hs hplain⟩
end
section
variable {X : Cx} {a b c e : Expr} {es : List Expr} {fa fb fc f : Den} {g : x1v} {pos p p1 p2 cpos apos : Pos}
theorem x73 {i : Nat} {x : Str} (h : QE X (.Name x p1) (x9i i)) (ha : QDA X [e] g) (hbase : attributeBase (.Name x p1) "append" X.env (eval (.Name x p1) X.env) = eval (.Name x p1) X.env := by rfl) (hfew : ((backTo cpos (starEach [e] X.env)).all (fun x => !x.1) && (backToKw cpos (keywordEach [] X.env)).all (fun x => x.1.isSome)
      && decide ([e].length + ([] : List Keyword).length + (if ([] : List Keyword).isEmpty then 0 else 1) < 30)) = true := by rfl) (hline : (apos.endLine == cpos.line) = true := by rfl) (hs : starEach [e] X.env = (false, eval e X.env) :: starEach [] X.env := by rfl) (hplain : (backTo cpos (starEach [] X.env)).any (·.1) = false := by rfl) : QD X (.Call (.Attribute (.Name x p1) "append" apos) [e] [] cpos) (z1j i g) := ⟨y5h h.o ha.o hbase hfew hline hs hplain⟩
end
section
variable {X : Cx} {a b c e : Expr} {es : List Expr} {fa fb fc f : Den} {g : x1v} {pos p p1 p2 cpos apos : Pos}
theorem z0m {i : Nat} {x : Str} (h : QE X (.Name x p1) (x9i i)) (ha : QDA X [e] g) (hbase : attributeBase (.Name x p1) "pop" X.env (eval (.Name x p1) X.env) = eval (.Name x p1) X.env := by rfl) (hfew : ((backTo cpos (starEach [e] X.env)).all (fun x => !x.1) && (backToKw cpos (keywordEach [] X.env)).all (fun x => x.1.isSome)
      && decide ([e].length + ([] : List Keyword).length + (if ([] : List Keyword).isEmpty then 0 else 1) < 30)) = true := by rfl) (hline : (apos.endLine == cpos.line) = true := by rfl) (hs : starEach [e] X.env = (false, eval e X.env) :: starEach [] X.env := by rfl) (hplain : (backTo cpos (starEach [] X.env)).any (·.1) = false := by rfl) : QD X (.Call (.Attribute (.Name x p1) "pop" apos) [e] [] cpos) (y7t i g) := ⟨z6e h.o ha.o hbase hfew hline hs hplain⟩
end
section
variable {X : Cx} {a b c e : Expr} {es : List Expr} {fa fb fc f : Den} {g : x1v} {pos p p1 p2 cpos apos : Pos}
theorem x1g {n : Nat} {x : Str} (h : QE X (.Name x p1) (x9i n)) (hb : QD X b fb) (hs : x5b b := by exact fun _ _ => rfl) : QD X (.Subscript (.Name x p1) b pos) (x1l n fb) := ⟨z5k h.o hb.o hs⟩
end
section
variable {X : Cx} {a b c e : Expr} {es : List Expr} {fa fb fc f : Den} {g : x1v} {pos p p1 p2 cpos apos : Pos}
theorem y60 (ha : QD X a fa) (hb : QD X b fb) : QD X (.BinOp a .Mult b pos) (x9d fa fb) := ⟨z26 ha.o hb.o⟩
end
section
variable {X : Cx} {a b c e : Expr} {es : List Expr} {fa fb fc f : Den} {qa qb : y4h} {g : x1v} {pos p p1 p2 cpos apos : Pos}
theorem y46 {n : Nat} {x : Str} (h : QE X (.Name x p1) (x9i n)) : QQ X (.Name x p1) (y3a n) := ⟨z4s h.o⟩
end
section
variable {X : Cx} {a b c e : Expr} {es : List Expr} {fa fb fc f : Den} {qa qb : y4h} {g : x1v} {pos p p1 p2 cpos apos : Pos}
theorem y89 {n : Nat} {x : Str} (h : QE X (.Name x p1) (x9i n)) (hb : QQ X b qb) (hs : x5b b := by exact fun _ _ => rfl) : QQ X (.Subscript (.Name x p1) b pos) (qIx n qb) := ⟨z83 h.o hb.o hs⟩
end
section
variable {X : Cx} {a b c e : Expr} {es : List Expr} {fa fb fc f : Den} {qa qb : y4h} {g : x1v} {pos p p1 p2 cpos apos : Pos}
theorem y3s {n : Nat} {x : Str} (h : QE X (.Name x p1) (x9i n)) (ha : QQ X a qa) (hb : QQ X b qb) (he : QD X e f) (hi : x5b a := by exact fun _ _ => rfl) (hasg : ∀ v, assign (.Subscript (.Subscript (.Name x p1) a p2) b p) X.env v = (do
      let ov <- holding [v] (eval (.Subscript (.Name x p1) a p2) X.env)
      let iv <- holding [v, ov] (eval b X.env)
      standAt p
      holding [v, ov, iv] (setItem ov iv v)
      release [v, ov, iv] []) := by exact fun _ => rfl) (hs : swapsWithSole [.Subscript (.Subscript (.Name x p1) a p2) b p] e pos.line X.env = pure false := by rfl) : QDS X (.Assign [.Subscript (.Subscript (.Name x p1) a p2) b p] e pos) (x9l n qa qb f) := ⟨y9a h.o ha.o hb.o he.o hi hasg hs⟩
end
section
variable {X : Cx} {a b c e : Expr} {es x2n : List Expr} {fa fb fc f : Den} {g : x1v} {pos p p1 p2 cpos apos : Pos}
theorem y4c {op} (h : QD X a fa) : QD X (.BoolOp op [a] pos) fa := ⟨z42 h.o⟩
end
section
variable {X : Cx} {a b c e : Expr} {es x2n : List Expr} {fa fb fc f : Den} {g : x1v} {pos p p1 p2 cpos apos : Pos}
theorem y42 (ha : QD X a fa) (hb : QD X (.BoolOp .And (b :: x2n) pos) fb) : QD X (.BoolOp .And (a :: b :: x2n) pos) (y7r fa fb) := ⟨z4c ha.o hb.o⟩
end
section
variable {X : Cx} {a b c e : Expr} {es x2n : List Expr} {fa fb fc f : Den} {g : x1v} {pos p p1 p2 cpos apos : Pos}
theorem z4m (ha : QD X a fa) : QD X (.UnaryOp .Not a pos) (z70 fa) := ⟨z53 ha.o⟩
end
section
variable {X : Cx} {a b c e : Expr} {es x2n : List Expr} {fa fb fc f : Den} {g : x1v} {pos p p1 p2 cpos apos : Pos}
theorem x0b {j k n : Nat} {x : Str} {F : List D -> Option (D × Nat)} (C : Cal X.prog X.w X.K X.mg X.base k x n F) (hr : Room j X.A) (hk : k <= j) (ha : QDA X (e :: es) g) (hg : Gl X x := by rfl) (hdb : (x == ("__debug__" : Str)) = false := by decide) (he : starEach (e :: es) X.env = (false, eval e X.env) :: starEach es X.env := by rfl) (hpl : (backTo pos (starEach es X.env)).any (·.1) = false := by rfl) : QD X (.Call (.Name x p) (e :: es) [] pos) (x0n F n g) := ⟨y9e C hr hk ha.o hg hdb he hpl⟩
end
section
variable {X : Cx} {a b c e : Expr} {es elts : List Expr} {fa fb fc f : Den} {g : x1v} {pos p p1 p2 tp : Pos} {kt : Nat}
theorem z1c (hm : X.mg "zip" = none) (ha : QDA X [a, b] g) (hg : Gl X "zip" := by rfl) (hs : starEach [a, b] X.env = [(false, eval a X.env), (false, eval b X.env)] := by rfl) (hs2 : starEach [b] X.env = [(false, eval b X.env)] := by rfl) : QDI X (.Tuple elts kt tp) (.Call (.Name "zip" p) [a, b] [] pos) (y50 g) := ⟨z14 hm ha.o hg hs hs2⟩
end
section
variable {X : Cx} {k b : Nat} {e : Expr} {es : List Expr} {pt : x6b} {ps : x7l} {pos : Pos}
theorem x8e  : QDGs X b [] x81 := ⟨y7z ⟩
end
section
variable {X : Cx} {k b : Nat} {e : Expr} {es : List Expr} {pt : x6b} {ps : x7l} {pos : Pos}
theorem x3w (h1 : QDG X b e pt) (h2 : QDGs X b es ps) (hs : (assignEach (e :: es) X.env).map (·.2) = assign e X.env :: (assignEach es X.env).map (·.2) := by rfl) : QDGs X b (e :: es) (x2t pt ps) := ⟨y6n h1.o h2.o hs⟩
end
section
variable {X : Cx} {k b : Nat} {e : Expr} {es : List Expr} {pt : x6b} {ps : x7l} {pos : Pos}
theorem y0z {n : Nat} (hc : X.calm = true) (h : QDGs X b es ps) (hl : ∀ ds ρ ρ', ps ds ρ = some ρ' -> ds.length = n) (hn : (assignEach es X.env).length = n := by rfl) (hst : (assignEach es X.env).findIdx? (·.1) = none := by rfl) : QDG X b (.Tuple es k pos) (y78 ps) := ⟨z3c hc h.o hl hn hst⟩
end
section
variable {X : Cx} {a b c e : Expr} {es : List Expr} {fa fb fc f : Den} {g : x1v} {pos p p1 p2 : Pos}
theorem y6i (hc : X.calm = true) (hm : X.mg "all" = none) (ha : QDA X [a] g) (hg : Gl X "all" := by rfl) (he : starEach [a] X.env = (false, eval a X.env) :: starEach [] X.env := by rfl) (hpl : (backTo pos (starEach [] X.env)).any (·.1) = false := by rfl) : QD X (.Call (.Name "all" p) [a] [] pos) (eB y75 g) := ⟨z6h hc hm ha.o hg he hpl⟩
end
section
variable {X : Cx} {a b c e : Expr} {es : List Expr} {fa fb fc f : Den} {ga gb : x2k} {g : x1v} {pos p p1 p2 pT : Pos}
theorem y4b (T : IT) {t : Str} (hm : X.mg "isinstance" = none) (hmT : X.mg t = none) (hbT : bootBuiltins t = some (.type T.nm)) (ha : QD X a fa) (hg : Gl X "isinstance" := by rfl) (hgT : Gl X t := by rfl) (hnT : t ≠ "__name__" := by decide) (hdT : (t == ("__debug__" : Str)) = false := by decide) (hs : starEach [a, .Name t pT] X.env = (false, eval a X.env) :: starEach [.Name t pT] X.env := by rfl) (hpl : (backTo pos (starEach [.Name t pT] X.env)).any (·.1) = false := by rfl) : QD X (.Call (.Name "isinstance" p) [a, .Name t pT] [] pos) (z39 T fa) := ⟨z5l T hm hmT hbT ha.o hg hgT hnT hdT hs hpl⟩
end
section
variable {X : Cx} {a b c e : Expr} {es : List Expr} {fa fb fc f : Den} {ga gb : x2k} {g : x1v} {pos p p1 p2 pT : Pos}
theorem y3m (ha : QD X a fa) (hb : QD X b fb) (hc : QD X c fc) (hm : lastMarks [.LtE, .Lt] [b, c] = false := by with_unfolding_all rfl) : QD X (.Compare a [.LtE, .Lt] [b, c] pos) (eCh dLe dLt fa fb fc) := ⟨y2o ha.o hb.o hc.o hm⟩
end
section
variable {X : Cx} {a b c e : Expr} {es : List Expr} {fa fb fc f : Den} {ga gb : x2k} {g : x1v} {pos p p1 p2 pT : Pos}
theorem x6p (ha : QD X a fa) (hb : QD X b fb) : QDT X (.Compare a [.IsNot] [b] pos) (x2y (e2 x5w fa fb)) := ⟨y7c ha.o hb.o⟩
end
section
variable {X : Cx} {a b c e : Expr} {es : List Expr} {fa fb fc f : Den} {ga gb : x2k} {g : x1v} {pos p p1 p2 pT : Pos}
theorem z6q (ha : QD X a fa) : QD X (.UnaryOp .USub a pos) (z3u fa) := ⟨z4q ha.o⟩
end
section
variable {X : Cx} {a b c e : Expr} {es : List Expr} {fa fb fc f : Den} {ga gb : x2k} {g : x1v} {pos p p1 p2 pT : Pos}
theorem y4d (ha : QD X a fa) (hb : QD X b fb) : QD X (.BinOp a .Add b pos) (y6m fa fb) := ⟨z5b ha.o hb.o⟩
end
section
variable {X : Cx} {a b c e : Expr} {es : List Expr} {fa fb fc f : Den} {ga gb : x2k} {g : x1v} {pos p p1 p2 pT : Pos}
theorem x8f  : QDO X none x8i := ⟨y9c ⟩
end
section
variable {X : Cx} {a b c e : Expr} {es : List Expr} {fa fb fc f : Den} {ga gb : x2k} {g : x1v} {pos p p1 p2 pT : Pos}
theorem x8d (h : QD X e f) : QDO X (some e) (x8a f) := ⟨y9x h.o⟩
end
section
variable {X : Cx} {a b c e : Expr} {es : List Expr} {fa fb fc f : Den} {ga gb : x2k} {g : x1v} {pos p p1 p2 pT : Pos}
theorem y9t {lo hi : Option Expr} {fl fh : z0u} (ha : QD X a fa) (hl : QDO X lo fl) (hh : QDO X hi fh) : QD X (.Subscript a (.Slice lo hi none p2) pos) (eSl fa fl fh) := ⟨z84 ha.o hl.o hh.o⟩
end
section
variable {X : Cx} {k b n : Nat} {a c e tg : Expr} {es : List Expr} {pt : x6b} {ps : x7l} {pos : Pos} {fa fb f : Den}
theorem y5v (he : QD X e f) (hg : QDG X 0 tg pt) (hs : swapsWithSole [tg] e pos.line X.env = pure false := by rfl) (hw : swappedStores [tg] e X.env = pure none := by rfl) (h1 : (assignEach [tg] X.env).map (·.2) = [assign tg X.env] := by rfl) : QDS X (.Assign [tg] e pos) (z2i f pt) := ⟨z31 he.o hg.o hs hw h1⟩
end
section
variable {X : Cx} {a b c e : Expr} {es : List Expr} {fa fb fc f : Den} {ga gb : x2k} {g : x1v} {pos p p1 p2 cpos apos : Pos}
theorem z35 {x : Str} {i : Int} (h : ∃ t, X.mg x = some (.int i t)) (hg : Gl X x := by rfl) (hd : (x == ("__debug__" : Str)) = false := by decide) : QD X (.Name x pos) (eC (.int i)) := ⟨z33 h hg hd⟩
end
section
variable {X : Cx} {a b c e : Expr} {es : List Expr} {fa fb fc f : Den} {ga gb : x2k} {g : x1v} {pos p p1 p2 cpos apos : Pos}
theorem y1u (ha : QD X a fa) (hb : QD X b fb) (hc : QD X c fc) (hm : lastMarks [.LtE, .LtE] [b, c] = false := by with_unfolding_all rfl) : QDT X (.Compare a [.LtE, .LtE] [b, c] pos) (x2y (eCh dLe dLe fa fb fc)) := ⟨y18 ha.o hb.o hc.o hm⟩
end
section
variable {X : Cx} {a b c e : Expr} {es : List Expr} {fa fb fc f : Den} {ga gb : x2k} {g : x1v} {pos p p1 p2 cpos apos : Pos}
theorem y6o {i : Nat} {x : Str} (h : QE X (.Name x p1) (x9i i)) (ha : QD X e f) (hbase : attributeBase (.Name x p1) "extend" X.env (eval (.Name x p1) X.env) = eval (.Name x p1) X.env := by rfl) (hfew : ((backTo cpos (starEach [e] X.env)).all (fun x => !x.1) && (backToKw cpos (keywordEach [] X.env)).all (fun x => x.1.isSome)
      && decide ([e].length + ([] : List Keyword).length + (if ([] : List Keyword).isEmpty then 0 else 1) < 30)) = true := by rfl) (hline : (apos.endLine == cpos.line) = true := by rfl) (hs : starEach [e] X.env = (false, eval e X.env) :: starEach [] X.env := by rfl) (hplain : (backTo cpos (starEach [] X.env)).any (·.1) = false := by rfl) : QD X (.Call (.Attribute (.Name x p1) "extend" apos) [e] [] cpos) (z6w i f) := ⟨y5w h.o ha.o hbase hfew hline hs hplain⟩
end
section
variable {X : Cx} {a b c e : Expr} {es : List Expr} {fa fb fc f : Den} {ga gb gc : x2k} {g : x1v} {qa qb : y4h} {s : x22} {pos p p1 p2 cpos apos : Pos}
theorem y68 {st : Stmt} : QDS X st y7k := ⟨y71 ⟩
end
section
variable {X : Cx} {a b c e : Expr} {es elts : List Expr} {fa fb fc f : Den} {g : x1v} {pos p p1 p2 tp : Pos} {kt : Nat}
theorem y7w (hm : X.mg "enumerate" = none) (ha : QDA X [a] g) (hg : Gl X "enumerate" := by rfl) (hs : starEach [a] X.env = [(false, eval a X.env)] := by rfl) : QDI X (.Tuple elts kt tp) (.Call (.Name "enumerate" p) [a] [] pos) (y6r g) := ⟨y7v hm ha.o hg hs⟩
end
section
variable {Y : Cx} {e : Expr} {es : List Expr} {g : x1v}
theorem z25 {R nn kx x y : Str} {L : List Str} {F : List D -> Option (D × Nat)} {Fx : List D -> Option Str} {j k n iy ie ik : Nat} {np kp vp apos hpos pos yp fp cpos spos : Pos} (hU : y5a Y.K Y.mg R L) (CX : y5e Y.prog Y.w Y.K Y.mg Y.base k x n Fx) (hr : Room j Y.A) (hk : k <= j) (ha : QDA Y.nox (e :: es) g) (hy : QDS Y.nox (.Assign [.Name y yp] (.Call (.Name x fp) (e :: es) [] cpos) spos) (x30 iy (x0n F n g))) (hN : Y.N.Nodup) (hie : Y.N[ie]? = some nn) (hik : Y.N[ik]? = some kx) (hst : Y.stack = Y.env :: Y.outer := by rfl) (hfm : Y.env.frame = some Y.env.locals := by rfl) (hne : Y.env.scope.names.lookup nn = some .local := by rfl) (hnk : Y.env.scope.names.lookup kx = some .local := by rfl) (hg : Gl Y R := by rfl) (hgx : Gl Y x := by rfl) (hdx : (x == ("__debug__" : Str)) = false := by decide) (hdb : (R == ("__debug__" : Str)) = false := by decide) (hdn : (nn == ("__debug__" : Str)) = false := by decide) (hcn : (nn == ("__classdict__" : Str)) = false := by decide) (hsw : swapsWith (.Name nn vp) (some (.Name kx kp)) apos.line Y.env = pure false := by rfl) (hsc : swapsWith (.Call (.Name x fp) (e :: es) [] cpos) (some (.Name y yp)) spos.line Y.env = pure false := by rfl) (he : starEach (e :: es) Y.env = (false, eval e Y.env) :: starEach es Y.env := by rfl) (hpl : (backTo cpos (starEach es Y.env)).any (·.1) = false := by rfl) : QDS Y.nox (.Try [.Assign [.Name y yp] (.Call (.Name x fp) (e :: es) [] cpos) spos] [.ExceptHandler (some (.Name R np)) (some nn) [.Assign [.Name kx kp] (.Name nn vp) apos] hpos] [] [] pos) (z3q L F Fx n g iy ie ik) := ⟨z17 hU CX hr hk ha.o hy.o hN hie hik hst hfm hne hnk hg hgx hdx hdb hdn hcn hsw hsc he hpl⟩
end
section
variable {X : Cx} {a b c e : Expr} {es : List Expr} {fa fb fc f : Den} {ga gb : x2k} {g : x1v} {pos p p1 p2 pT cpos apos : Pos}
theorem y03 {L : List Str} {nm : Str} (hC : IsC X.K X.mg L nm) (hm : X.mg "isinstance" = none) (ha : QD X a fa) (hg : Gl X "isinstance" := by rfl) (hgT : Gl X nm := by rfl) (hdT : (nm == ("__debug__" : Str)) = false := by decide) (hs : starEach [a, .Name nm pT] X.env = (false, eval a X.env) :: starEach [.Name nm pT] X.env := by rfl) (hpl : (backTo pos (starEach [.Name nm pT] X.env)).any (·.1) = false := by rfl) : QD X (.Call (.Name "isinstance" p) [a, .Name nm pT] [] pos) (y8i L nm fa) := ⟨z59 hC hm ha.o hg hgT hdT hs hpl⟩
end
section
variable {X : Cx} {a b c e : Expr} {es : List Expr} {fa fb fc f : Den} {ga gb : x2k} {g : x1v} {pos p p1 p2 pT cpos apos : Pos}
theorem z4x (hm : X.mg "isinstance" = none) (hmT : X.mg "ValueError" = none) (ha : QD X a fa) (hg : Gl X "isinstance" := by rfl) (hgT : Gl X "ValueError" := by rfl) (hs : starEach [a, .Name "ValueError" pT] X.env = (false, eval a X.env) :: starEach [.Name "ValueError" pT] X.env := by rfl) (hpl : (backTo pos (starEach [.Name "ValueError" pT] X.env)).any (·.1) = false := by rfl) : QD X (.Call (.Name "isinstance" p) [a, .Name "ValueError" pT] [] pos) (z6v fa) := ⟨z5i hm hmT ha.o hg hgT hs hpl⟩
end
section
variable {X : Cx} {a b c e : Expr} {es : List Expr} {fa fb fc f : Den} {ga gb : x2k} {g : x1v} {pos p p1 p2 pT cpos apos : Pos}
theorem z28 (ha : QD X a fa) (hb : QD X b fb) : QDT X (.Compare a [.Is] [b] pos) (x2y (e2 z41 fa fb)) := ⟨z36 ha.o hb.o⟩
end
section
variable {X : Cx} {a b c e : Expr} {es : List Expr} {fa fb fc f : Den} {ga gb : x2k} {g : x1v} {pos p p1 p2 pT cpos apos : Pos}
theorem z27 {k : Nat} (hr : Room k X.A) (ho : QD X a fa) (ha : QDA X [e] g) (hbase : attributeBase a "count" X.env (eval a X.env) = eval a X.env := by rfl) (hfew : ((backTo cpos (starEach [e] X.env)).all (fun x => !x.1) && (backToKw cpos (keywordEach [] X.env)).all (fun x => x.1.isSome)
      && decide ([e].length + ([] : List Keyword).length + (if ([] : List Keyword).isEmpty then 0 else 1) < 30)) = true := by rfl) (hline : (apos.endLine == cpos.line) = true := by rfl) (hs : starEach [e] X.env = (false, eval e X.env) :: starEach [] X.env := by rfl) (hplain : (backTo cpos (starEach [] X.env)).any (·.1) = false := by rfl) : QD X (.Call (.Attribute a "count" apos) [e] [] cpos) (z6x fa g) := ⟨z2f hr ho.o ha.o hbase hfew hline hs hplain⟩
end
section
variable {X : Cx} {a b c e : Expr} {es : List Expr} {fa fb fc f : Den} {ga gb : x2k} {g : x1v} {pos p p1 p2 pT cpos apos : Pos}
theorem y77 {k : Nat} (hr : Room k X.A) (ho : QD X a fa) (ha : QDA X [e] g) (hbase : attributeBase a "index" X.env (eval a X.env) = eval a X.env := by rfl) (hfew : ((backTo cpos (starEach [e] X.env)).all (fun x => !x.1) && (backToKw cpos (keywordEach [] X.env)).all (fun x => x.1.isSome)
      && decide ([e].length + ([] : List Keyword).length + (if ([] : List Keyword).isEmpty then 0 else 1) < 30)) = true := by rfl) (hline : (apos.endLine == cpos.line) = true := by rfl) (hs : starEach [e] X.env = (false, eval e X.env) :: starEach [] X.env := by rfl) (hplain : (backTo cpos (starEach [] X.env)).any (·.1) = false := by rfl) : QD X (.Call (.Attribute a "index" apos) [e] [] cpos) (y10 fa g) := ⟨y7a hr ho.o ha.o hbase hfew hline hs hplain⟩
end
theorem Cal.mkQ {P : Program} {w : World} {K : PySem.W.Frag} {mg : Str -> Option Value} {base : Heap} {k : Nat} {x : Str} {st : Stmt} {N ps : List Str} {body : x22} (a : At K mg x st ps) (S : FnScope N ps (x08 st))
    (h : ∀ (f : Addr) (cdv : Value) (A : Around) (outer : List Env) (s : Shared) (H : Hp) (E : XK), Room k (A.deeper (envOfC x (x08 st) s.heap.objs.size f cdv)) -> QDSs (y5f CX0 P w K mg base N x (x08 st) f cdv A outer s H E).nox (x0s st) body) :
    Cal P w K mg base (k + 1) x ps.length (fnD N.length body) := Cal.mk a S fun f cdv A outer s H E hr => (h f cdv A outer s H E hr).o
theorem z3l {P : Program} {w : World} {K : PySem.W.Frag} {mg : Str -> Option Value} {base : Heap} {k : Nat} {x : Str} {st : Stmt} {N ps : List Str} {body : x22} {f : Addr} {fd : FuncData} (F : Fun K x x st f fd) (S : FnScope N ps (x08 st))
    (h : ∀ (f : Addr) (cdv : Value) (A : Around) (outer : List Env) (s : Shared) (H : Hp) (E : XK), Room k (A.deeper (envOfC x (x08 st) s.heap.objs.size f cdv)) -> QDSs (y5f CX0 P w K mg base N x (x08 st) f cdv A outer s H E).nox (x0s st) body) :
    FnOk P w K mg base CX0 (k + 1) f fd ps (spD K ps.length (fnD N.length body)) := z54 F S fun f cdv A outer s H E hr => (h f cdv A outer s H E hr).o
end L3
namespace L3
open PySem PySem.Spec PyProof.Rows PySem.W L2
theorem PA.nox {X : Cx} {e : List Expr} {t : TA} (h : PA X.nox e t) : PA X e t := fun pos pins s σ H Q I hw =>
  wpAny_mono (h pos pins s σ H Q (I.wish _) hw) (fun _ _ hh => by obtain ⟨v, H', I', r, q⟩ := hh; exact ⟨v, H', I'.unwish, r, q⟩) fun _ _ z => False.elim z
section
variable {P : Program} {w : World} {K : PySem.W.Frag} {mg : Str -> Option Value} {base : Heap} {N : List Str} {qual : Str} {scope : Scope} {f : Addr} {cd : Value} {A : Around} {outer : List Env} {s₀ : Shared} {H₀ : Hp} {E : XK}
theorem z78 {nm txt : Str} {k j : Nat} {np cpos tpos pos ipos : Pos} {c : Expr} {g : x2k} (hr : Room k (A.deeper (envOfC qual scope s₀.heap.objs.size f cd))) (hC : ∃ C, XNm K mg nm C) (hc : QDT (cxF P w K mg base N qual scope f cd A outer s₀ H₀ E).nox c g)
    (hg : Gl (cxF P w K mg base N qual scope f cd A outer s₀ H₀ E) nm := by rfl) (hdb : (nm == ("__debug__" : Str)) = false := by decide) :
    PSs (cxF P w K mg base N qual scope f cd A outer s₀ H₀ E) [.If c [.Raise (some (.Call (.Name nm np) [.Constant (.str txt) j tpos] [] cpos)) none pos] [] ipos] (tX K (xIf g nm) E) := by
  obtain ⟨C, hC⟩ := hC
  exact y3r (z7h hr.hd hC (PT.nox hc.o) (fun _ _ _ _ _ _ z => z.elim) hg hdb)
theorem z21 {j k n : Nat} {x : Str} {F : List D -> Option Str} {e : Expr} {es : List Expr} {x2n : List Stmt} {g : x1v} {p pos spos : Pos} (Cx' : y5e P w K mg base k x n F) (hr : Room j (A.deeper (envOfC qual scope s₀.heap.objs.size f cd))) (hk : k <= j) (ha : QDA (cxF P w K mg base N qual scope f cd A outer s₀ H₀ E).nox (e :: es) g)
    (hg : Gl (cxF P w K mg base N qual scope f cd A outer s₀ H₀ E) x := by rfl) (hdb : (x == ("__debug__" : Str)) = false := by decide) (he : starEach (e :: es) (envOfC qual scope s₀.heap.objs.size f cd) = (false, eval e (envOfC qual scope s₀.heap.objs.size f cd)) :: starEach es (envOfC qual scope s₀.heap.objs.size f cd) := by rfl)
    (hpl : (backTo pos (starEach es (envOfC qual scope s₀.heap.objs.size f cd))).any (·.1) = false := by rfl) (hs : swapsWith (.Call (.Name x p) (e :: es) [] pos) none spos.line (envOfC qual scope s₀.heap.objs.size f cd) = pure false := by rfl) :
    PSs (cxF P w K mg base N qual scope f cd A outer s₀ H₀ E) (.Expr (.Call (.Name x p) (e :: es) [] pos) spos :: x2n) (tX K (y56 F n g) E) :=
  y3r (z34 (y9v Cx' hr hk (PA.nox ha.o) hg hdb he hpl) hs)
end
theorem z7w {K : Frag} {C : Addr} {v : Value} {b : Bool} (h : mroIn K C v = some b) : (clsIn K C).isSome = true := by
  obtain ⟨cd, a, _⟩ := Option.bind_eq_some_iff.mp h
  rw [a]; rfl
theorem XKls.of {K : Frag} {nm : Str} {C : Addr} (n : nsIn K mainGlobals nm = some (some (.ref C))) (x : XCls K C) (ex : excIn K C bmV "ValueError.__new__" = true) (v : mroIn K C (.type "ValueError") = some true)
    (a1 : mroIn K C (.type "int") = some false) (a2 : mroIn K C (.type "bool") = some false) (a3 : mroIn K C (.type "tuple") = some false) (a4 : mroIn K C (.type "list") = some false) (a5 : mroIn K C (.type "str") = some false) : XKls K nm C :=
  ⟨n, x, ex, v, fun T hT => by
    rcases List.mem_cons.mp hT with rfl | hT
    · exact a1
    rcases List.mem_cons.mp hT with rfl | hT
    · exact a2
    rcases List.mem_cons.mp hT with rfl | hT
    · exact a3
    rcases List.mem_cons.mp hT with rfl | hT
    · exact a4
    rcases List.mem_cons.mp hT with rfl | hT
    · exact a5
    cases hT⟩
theorem y5a.of {K : Frag} {mg : Str -> Option Value} {R nm : Str} {C RA : Addr} (k : XKls K nm C) (x : XCls K RA) (t : typeIn K (.ref RA) = some (.type "type")) (m : mg R = some (.ref RA)) (s : mroIn K C (.ref RA) = some true) : y5a K mg R [nm] :=
  ⟨RA, x, t, m, fun n hn C' e => by
    rcases List.mem_cons.mp hn with rfl | hn
    · have e' := k.ns
      rw [e] at e'
      cases e'
      exact ⟨k, s⟩
    · cases hn⟩
theorem IsC.self {K : Frag} {mg : Str -> Option Value} {nm : Str} {C : Addr} (n : nsIn K mainGlobals nm = some (some (.ref C))) (m : mg nm = some (.ref C)) : IsC K mg [nm] nm :=
  ⟨C, m, fun n' hn B e => by
    rcases List.mem_cons.mp hn with rfl | hn
    · rw [e] at n
      cases n
      exact ⟨fun _ => by unfold isIn; simp, fun z => absurd rfl z⟩
    · cases hn⟩
theorem IsC.other {K : Frag} {mg : Str -> Option Value} {nm n2 : Str} {C D : Addr} (n : nsIn K mainGlobals nm = some (some (.ref C))) (m : mg n2 = some (.ref D)) (hn : nm ≠ n2) (ne : C ≠ D) (t : typeIn K (.ref D) = some (.type "type")) (o : mroIn K D (.type "object") = some true) (s : mroIn K C (.ref D) = some false) : IsC K mg [nm] n2 :=
  ⟨D, m, fun n' hn' B e => by
    rcases List.mem_cons.mp hn' with rfl | hn'
    · rw [e] at n
      cases n
      have s' : subIn K (.ref C) (.ref D) = some false := s
      exact ⟨fun z => absurd z hn, fun _ => by unfold kin_not; rw [z7w o, t, s']; simp [ne]⟩
    · cases hn'⟩
end L3
namespace L3
open PySem PySem.Spec PyProof.Rows L2
theorem x2v {k : Nat} {pt : x6b} {tt : x2k} {te : Den} {deep : Bool} : ∀ (ds : List D) (S : Nat -> Rho) (b : Nat -> Bool) (v : Nat -> D),
    (∀ i (h : i < ds.length), ∃ ρ1 ρ2, pt ds[i] (S i ++ List.replicate k none) = some ρ1 /\ tt ρ1 = some (b i, ρ2) /\
      (if b i = true then ∃ q ρ3, te ρ2 = some (v i, q, ρ3) /\ ¬ (deep = true /\ (v i).isL = true /\ q ≠ 1) /\ ρ3.take (S i).length = S (i + 1) else ρ2.take (S i).length = S (i + 1))) ->
    x67 k pt tt te deep ds (S 0) = some (((List.range ds.length).filter b).map v, S ds.length)
  | [], S, b, v, _ => rfl
  | d :: ds, S, b, v, h => by
    obtain ⟨ρ1, ρ2, h1, h2, h3⟩ := h 0 (by simp)
    have ih := x2v ds (fun i => S (i + 1)) (fun i => b (i + 1)) (fun i => v (i + 1)) (fun i hi => h (i + 1) (by simpa using hi))
    have er : ((List.range (d :: ds).length).filter b).map v = (if b 0 = true then [v 0] else []) ++ ((List.range ds.length).filter fun i => b (i + 1)).map fun i => v (i + 1) := by
      rw [List.length_cons, List.range_succ_eq_map, List.filter_cons, List.filter_map]
      split <;> simp [Function.comp_def]
    rw [er]
    unfold x67
    rw [show pt d (S 0 ++ List.replicate k none) = some ρ1 from h1]
    simp only [h2]
    split at h3
    · rename_i hb
      obtain ⟨q, ρ3, h4, h5, h6⟩ := h3
      simp only [hb, if_true, h4, if_neg h5, h6, ih]
      rfl
    · rename_i hb
      simp only [hb, h3, ih]
      rfl
theorem x4g {pt : x6b} {body : x22} : ∀ (ds : List D) (I : Nat -> Rho -> Prop) (ρ : Rho), (∀ i (h : i < ds.length) ρ, I i ρ -> ∃ ρ1 ρ2, pt ds[i] ρ = some ρ1 /\ (body ρ1 = some (.nx ρ2) \/ body ρ1 = some (.ct ρ2)) /\ I (i + 1) ρ2) -> I 0 ρ -> ∃ ρ', x8t pt body ds ρ = some (.nx ρ') /\ I ds.length ρ'
  | [], I, ρ, _, h0 => ⟨ρ, rfl, h0⟩
  | d :: ds, I, ρ, h, h0 => by
    obtain ⟨ρ1, ρ2, h1, h2, h3⟩ := h 0 (by simp) ρ h0
    obtain ⟨ρ', e, h4⟩ := x4g ds (fun i => I (i + 1)) ρ2 (fun i hi => h (i + 1) (by simpa using hi)) h3
    refine ⟨ρ', ?_, h4⟩
    unfold x8t
    rw [show pt d ρ = some ρ1 from h1]
    rcases h2 with h2 | h2 <;> (simp only [h2]; exact e)
theorem x0j {f g : x22} {ρ ρ1 : Rho} (h : f ρ = some (.nx ρ1)) : x1i f g ρ = g ρ1 := by unfold x1i; rw [h]
theorem x3z {f g : x22} {ρ : Rho} {d : D} {q : Nat} (h : f ρ = some (.rt d q)) : x1i f g ρ = some (.rt d q) := by unfold x1i; rw [h]
theorem x31 {n : Nat} {body : x22} {ds : List D} {d : D} {q : Nat} (h : body (x5t n ds) = some (.rt d q)) : fnD n body ds = some (d, q) := by unfold fnD; rw [h]
theorem x1p {k : Nat} {it : y09} {pt : x6b} {tt : x2k} {te : Den} {deep : Bool} {ρ ρ1 ρ2 : Rho} {ds vs : List D} (hi : it ρ = some (ds, ρ1)) (hc : x67 k pt tt te deep ds ρ1 = some (vs, ρ2)) : x25 k it pt tt te deep ρ = some (.lst vs, if deep = true then 2 else 1, ρ2) := by unfold x25; rw [hi]; simp only [hc]
theorem z2n {i : Nat} {f : Den} {ρ ρ1 : Rho} {d : D} {q : Nat} (h : f ρ = some (d, q, ρ1)) : x30 i f ρ = some (.nx (ρ1.set i (some (d, q)))) := by unfold x30; rw [h]
theorem x2s {f : Den} {ρ ρ1 : Rho} {d : D} {q : Nat} (h : f ρ = some (d, q, ρ1)) : x29 f ρ = some (.rt d q) := by unfold x29; rw [h]
theorem x1y {it : y09} {pt : x6b} {body : x22} {ρ ρ1 : Rho} {ds : List D} (h : it ρ = some (ds, ρ1)) : x5g it pt body ρ = x8t pt body ds ρ1 := by unfold x5g; rw [h]
theorem y2s {g : x2k} {s s' : x22} {ρ ρ1 : Rho} (h : g ρ = some (true, ρ1)) : sIf g s s' ρ = s ρ1 := by unfold sIf; rw [h]; rfl
theorem y0m {g : x2k} {s s' : x22} {ρ ρ1 : Rho} (h : g ρ = some (false, ρ1)) : sIf g s s' ρ = s' ρ1 := by unfold sIf; rw [h]; rfl
theorem x1s {i : Nat} {f : Den} {ρ ρ1 ρ2 : Rho} {d : D} {q : Nat} (h : f ρ = some (d, q, ρ1)) (e : ρ1.set i (some (d, q)) = ρ2) : x30 i f ρ = some (.nx ρ2) := by rw [z2n h, e]
theorem x1d {f : Den} {ρ ρ1 : Rho} {d : D} {q : Nat} (h : f ρ = some (d, q, ρ1)) : x01 f x0e ρ = some ([d], ρ1) := by unfold x01; rw [h]; rfl
theorem x1a {f : Den} {g : x1v} {ρ ρ1 ρ2 : Rho} {d : D} {q : Nat} {ds : List D} (h : f ρ = some (d, q, ρ1)) (h' : g ρ1 = some (ds, ρ2)) : x01 f g ρ = some (d :: ds, ρ2) := by unfold x01; rw [h]; simp only [h']
theorem x37 {g : x1v} {ρ ρ1 : Rho} {ds : List D} (h : g ρ = some ([.lst ds], ρ1)) : x1x g ρ = some (.tup ds, 9, ρ1) := by unfold x1x; rw [h]
theorem x8w {g : x1v} {ρ ρ1 : Rho} {ds : List D} (h : x0q g ρ = some (ds, ρ1)) : x69 g ρ = some (.lst ds, 1, ρ1) := by unfold x69; rw [h]
theorem x0u {F : List D -> Option (D × Nat)} {n : Nat} {g : x1v} {ρ ρ1 : Rho} {ds : List D} {d : D} {q : Nat} (h : g ρ = some (ds, ρ1)) (hl : ds.length = n) (hF : F ds = some (d, q)) : x0n F n g ρ = some (d, q, ρ1) := by unfold x0n; rw [h]; simp only [hl, if_true, hF]
noncomputable def x0o (l : List Nat) : List D := l.map fun i => .int (Int.ofNat i)
noncomputable def x7s (n : Nat) (f : Nat -> Nat -> Nat) (i : Nat) : D := .tup (x0o ((List.range n).map fun j => f i j))
noncomputable def x09 (n : Nat) (f : Nat -> Nat -> Nat) : D := .tup ((List.range n).map fun i => x7s n f i)
noncomputable def x4t (n : Nat) (f : Nat -> Nat -> Nat) (i : Nat) : D := .lst (x0o ((List.range n).map fun j => f i j))
noncomputable def x27 (n : Nat) (f : Nat -> Nat -> Nat) : D := .lst ((List.range n).map fun i => x4t n f i)
@[simp] theorem y9s {n : Nat} {f : Nat -> Nat -> Nat} : (x09 n f).isL = false := rfl
@[simp] theorem y8u {n : Nat} {f : Nat -> Nat -> Nat} {i : Nat} : (x7s n f i).isL = false := rfl
@[simp] theorem z6z {n : Nat} {f : Nat -> Nat -> Nat} : (x27 n f).isL = true := rfl
@[simp] theorem z6y {n : Nat} {f : Nat -> Nat -> Nat} {i : Nat} : (x4t n f i).isL = true := rfl
theorem x1c (l : List Nat) : (x0o l).length = l.length := by simp [x0o]
theorem x5z (l : List Nat) (i : Nat) : (x0o l)[i]? = (l[i]?).map fun x => .int (Int.ofNat x) := by simp [x0o]
theorem x6n {n i : Nat} (h : i < n) : ixN n (Int.ofNat i) = some i := by
  unfold ixN
  rw [if_pos (by exact Int.natCast_nonneg i), if_pos (by show (i : Int) < n; omega)]
  rfl
theorem y7m {α : Type} {xs : List α} {i : Nat} {x : α} (h : xs[i]? = some x) : L2.atI xs (Int.ofNat i) = some x := by
  unfold L2.atI
  rw [x6n (List.getElem?_eq_some_iff.mp h).1]
  exact h
theorem z2x {l : List Nat} {i x : Nat} (h : l[i]? = some x) : L2.atI (x0o l) (Int.ofNat i) = some (.int (Int.ofNat x)) := y7m (by rw [x5z, h]; rfl)
theorem z0h {g : Nat -> D} {n i : Nat} (h : i < n) : L2.atI ((List.range n).map g) (Int.ofNat i) = some (g i) := y7m (by rw [List.getElem?_map, List.getElem?_range h]; rfl)
theorem x1n {g : Nat -> Nat} {n i : Nat} (h : i < n) : L2.atI (x0o ((List.range n).map g)) (Int.ofNat i) = some (.int (Int.ofNat (g i))) := z2x (by rw [List.getElem?_map, List.getElem?_range h]; rfl)
theorem x1o {n : Nat} {f : Nat -> Nat -> Nat} {i : Nat} (h : i < n) : atD (x09 n f) (Int.ofNat i) = some (x7s n f i) := z0h h
theorem x20 {n : Nat} {f : Nat -> Nat -> Nat} {i j : Nat} (h : j < n) : atD (x7s n f i) (Int.ofNat j) = some (.int (Int.ofNat (f i j))) := x1n h
theorem z2h {n : Nat} {f : Nat -> Nat -> Nat} {i : Nat} (h : i < n) : atD (x27 n f) (Int.ofNat i) = some (x4t n f i) := z0h h
theorem z1t {n : Nat} {f : Nat -> Nat -> Nat} {i j : Nat} (h : j < n) : atD (x4t n f i) (Int.ofNat j) = some (.int (Int.ofNat (f i j))) := x1n h
theorem x18 {n : Nat} {f : Nat -> Nat -> Nat} : x8g (x09 n f) = some n := by simp [x09, x8g]
theorem x6u {n : Nat} {f : Nat -> Nat -> Nat} : x8g (x27 n f) = some n := by simp [x27, x8g]
theorem x44 {n : Nat} {f g : Nat -> Nat -> Nat} (h : ∀ a b, a < n -> b < n -> f a b = g a b) : x27 n f = x27 n g := by
  unfold x27 x4t
  refine congrArg D.lst (List.map_congr_left fun a ha => ?_)
  refine congrArg (fun l => D.lst (x0o l)) (List.map_congr_left fun b hb => ?_)
  exact h a b (List.mem_range.mp ha) (List.mem_range.mp hb)
theorem x5a {α : Type} {g : Nat -> α} {n m : Nat} {x : α} : ((List.range n).map g).set m x = (List.range n).map fun a => if a = m then x else g a := by
  apply List.ext_getElem?
  intro i
  by_cases hi : i < n
  · by_cases h : m = i
    · subst h
      rw [List.getElem?_set_self (by simpa using hi), List.getElem?_map, List.getElem?_range hi]
      simp
    · rw [List.getElem?_set_ne h, List.getElem?_map, List.getElem?_map, List.getElem?_range hi]
      simp
      exact fun z => absurd z.symm h
  · rw [List.getElem?_eq_none (by simp; omega), List.getElem?_eq_none (by simp; omega)]
theorem x50 {g : Nat -> Nat} {n : Nat} : x0o ((List.range n).map g) = (List.range n).map fun i => .int (Int.ofNat (g i)) := by simp [x0o]
theorem y48 {n : Nat} {f : Nat -> Nat -> Nat} {a b v : Nat} : D.lst (((List.range n).map fun i => x4t n f i).set a (.lst ((x0o ((List.range n).map fun j => f a j)).set b (.int (Int.ofNat v))))) = x27 n fun i j => if i = a /\ j = b then v else f i j := by
  unfold x27
  rw [x5a]
  refine congrArg D.lst (List.map_congr_left fun i hi => ?_)
  by_cases h : i = a
  · subst h
    rw [if_pos rfl, x50, x5a]
    unfold x4t
    rw [x50]
    refine congrArg D.lst (List.map_congr_left fun j hj => ?_)
    by_cases hj : j = b <;> simp [hj]
  · rw [if_neg h]
    unfold x4t
    simp [h]
theorem z3v (n : Nat) : D.lst (List.replicate n [D.int 0]).flatten = x4t n (fun _ _ => 0) 0 := by
  unfold x4t x0o
  congr 1
  simp [List.flatten_replicate_singleton, List.map_const']
theorem y0s : ∀ ds : List D, x5x ds = ds.map toP
  | [] => rfl
  | d :: ds => by rw [x5x, y0s ds]; rfl
noncomputable def lay (d : D) : Bool := x71 d && (toP d).canLay0
theorem z5m {d : D} (h : lay d = true) : x71 d = true := (Bool.and_eq_true_iff.mp h).1
theorem z64 {d : D} (h : lay d = true) : (toP d).canLay0 = true := (Bool.and_eq_true_iff.mp h).2
theorem x7h : ∀ {ds : List D}, (∀ d ∈ ds, lay d = true) -> x8s ds = true
  | [], _ => rfl
  | d :: ds, h => by
    show (x71 d && x8s ds) = true
    rw [z5m (h d List.mem_cons_self), x7h fun x m => h x (List.mem_cons_of_mem _ m)]
    rfl
noncomputable def dep (d : D) : Nat := (toP d).depth
theorem y63 : ∀ {ds : List D}, (∀ d ∈ ds, lay d = true) -> PyData.canLayAll0 (x5x ds) = true
  | [], _ => rfl
  | d :: ds, h => by
    rw [x5x, PyData.canLayAll0, y63 fun x m => h x (List.mem_cons_of_mem _ m), Bool.and_true]
    exact z64 (h d List.mem_cons_self)
theorem y5y {k : Nat} : ∀ {ds : List D}, (∀ d ∈ ds, dep d <= k) -> PyData.depthAll (x5x ds) <= k
  | [], _ => Nat.zero_le _
  | d :: ds, h => by
    rw [x5x, PyData.depthAll]
    exact Nat.max_le.mpr ⟨h d List.mem_cons_self, y5y fun x m => h x (List.mem_cons_of_mem _ m)⟩
noncomputable def Sh (k : Nat) (d : D) : Prop := lay d = true /\ dep d <= k
theorem Sh.int {k : Nat} (i : Int) : Sh k (.int i) := ⟨rfl, Nat.zero_le _⟩
theorem Sh.bl {k : Nat} (i : Bool) : Sh k (.bl i) := ⟨rfl, Nat.zero_le _⟩
theorem Sh.tup {k : Nat} {ds : List D} (h : ∀ d ∈ ds, Sh k d) : Sh (k + 1) (.tup ds) := ⟨Bool.and_eq_true_iff.mpr ⟨x7h fun d m => (h d m).1, y63 fun d m => (h d m).1⟩, Nat.succ_le_succ (y5y fun d m => (h d m).2)⟩
theorem Sh.lst {k : Nat} {ds : List D} (h : ∀ d ∈ ds, Sh k d) : Sh (k + 1) (.lst ds) := ⟨Bool.and_eq_true_iff.mpr ⟨x7h fun d m => (h d m).1, y63 fun d m => (h d m).1⟩, Nat.succ_le_succ (y5y fun d m => (h d m).2)⟩
theorem Sh.ok {k : Nat} {d : D} (h : Sh k d) (hk : k <= 64 := by decide) : okD d = true := by
  show (x71 d && ((toP d).canLay0 && decide ((toP d).depth <= 64))) = true
  rw [z5m h.1, z64 h.1, Bool.true_and, Bool.true_and]
  exact decide_eq_true (Nat.le_trans h.2 hk)
theorem y67 {l : List Nat} {d : D} (m : d ∈ x0o l) : Sh 0 d := by
  obtain ⟨x, _, rfl⟩ := List.mem_map.mp m
  exact .int _
theorem z3s (l : List Nat) : Sh 1 (.lst (x0o l)) := .lst fun _ m => y67 m
theorem z3r (l : List Nat) : Sh 1 (.tup (x0o l)) := .tup fun _ m => y67 m
theorem y7o (n : Nat) (f : Nat -> Nat -> Nat) : Sh 2 (x09 n f) := .tup fun d m => by
  obtain ⟨x, _, rfl⟩ := List.mem_map.mp m
  exact z3r _
theorem x6c : ∀ l l' : List Nat, PyData.eqvAll (x5x (x0o l)) (x5x (x0o l')) = decide (l = l')
  | [], [] => rfl
  | [], _ :: _ => rfl
  | _ :: _, [] => rfl
  | x :: l, y :: l' => by
    show (((x : Int) == (y : Int)) && PyData.eqvAll (x5x (x0o l)) (x5x (x0o l'))) = _
    rw [x6c l l']
    by_cases h : x = y
    · subst h; simp
    · have : ((x : Int) == (y : Int)) = false := by simp; omega
      rw [this]
      simp [h]
theorem z4p (l l' : List Nat) : eqD (.lst (x0o l)) (.lst (x0o l')) = decide (l = l') := x6c l l'
theorem z30 (l l' : List Nat) : eqD (.tup (x0o l)) (.tup (x0o l')) = decide (l = l') := x6c l l'
theorem y64 (i j : Int) : eqD (.int i) (.int j) = decide (i = j) := by
  show (i == j) = _
  rw [Bool.beq_eq_decide_eq]
theorem y2u (i j : Nat) : eqD (.int (Int.ofNat i)) (.int (Int.ofNat j)) = decide (i = j) := by
  rw [y64]
  exact decide_eq_decide.mpr ⟨fun h => Int.ofNat.inj h, fun h => by rw [h]⟩
theorem z0c (i j : Bool) : eqD (.bl i) (.bl j) = decide (i = j) := by
  show (i == j) = _
  rw [Bool.beq_eq_decide_eq]
theorem z77 (l l' : List Nat) : dEq (.lst (x0o l)) (.lst (x0o l')) = some (.bl (decide (l = l'))) := by unfold dEq; rw [if_pos ⟨(z3s l).ok, (z3s l').ok⟩, z4p]
theorem z7d (l l' : List Nat) : dNe (.lst (x0o l)) (.lst (x0o l')) = some (.bl (!decide (l = l'))) := by unfold dNe; rw [if_pos ⟨(z3s l).ok, (z3s l').ok⟩, z4p]
theorem y79 (i j : Int) : dEq (.int i) (.int j) = some (.bl (decide (i = j))) := by unfold dEq; rw [if_pos ⟨(Sh.int (k := 0) i).ok, (Sh.int (k := 0) j).ok⟩, y64]
theorem x5r (i j : Nat) : dEq (.int (Int.ofNat i)) (.int (Int.ofNat j)) = some (.bl (decide (i = j))) := by unfold dEq; rw [if_pos ⟨(Sh.int (k := 0) _).ok, (Sh.int (k := 0) _).ok⟩, y2u]
theorem x4j (i j : Nat) : dNe (.int (Int.ofNat i)) (.int (Int.ofNat j)) = some (.bl (!decide (i = j))) := by unfold dNe; rw [if_pos ⟨(Sh.int (k := 0) _).ok, (Sh.int (k := 0) _).ok⟩, y2u]
theorem y7e (i j : Bool) : dNe (.bl i) (.bl j) = some (.bl (!decide (i = j))) := by unfold dNe; rw [if_pos ⟨(Sh.bl (k := 0) i).ok, (Sh.bl (k := 0) j).ok⟩, z0c]
theorem x6s {α : Type} {p : α -> Bool} : ∀ {l : List α} {j : Nat} {x : α}, l[j]? = some x -> p x = true -> (∀ i y, i < j -> l[i]? = some y -> p y = false) -> l.findIdx? p = some j
  | [], j, x, h, _, _ => by simp at h
  | a :: l, 0, x, h, hp, _ => by
    simp at h; subst h
    simp [List.findIdx?_cons, hp]
  | a :: l, j + 1, x, h, hp, hn => by
    have h0 : p a = false := hn 0 a (Nat.succ_pos _) rfl
    have ih := x6s (l := l) (j := j) (x := x) (by simpa using h) hp fun i y hi hy => hn (i + 1) y (Nat.succ_lt_succ hi) (by simpa using hy)
    simp [List.findIdx?_cons, h0, ih]
structure Lad (n : Nat) (f : Nat -> Nat -> Nat) : Prop where
  lo : 0 < n
  hi : n <= 8
  cl : ∀ i j, i < n -> j < n -> f i j < n
  idem : ∀ i, i < n -> f i i = i
  comm : ∀ i j, i < n -> j < n -> f i j = f j i
  assoc : ∀ i j k, i < n -> j < n -> k < n -> f (f i j) k = f i (f j k)
  bot : ∃ z, z < n /\ ∀ j, j < n -> f z j = j
noncomputable def z7n (n : Nat) (f : Nat -> Nat -> Nat) : Bool :=
  decide (0 < n) && decide (n <= 8) && ((List.range n).all fun i => (List.range n).all fun j => decide (f i j < n)) && ((List.range n).all fun i => decide (f i i = i)) && ((List.range n).all fun i => (List.range n).all fun j => decide (f i j = f j i)) &&
  ((List.range n).all fun i => (List.range n).all fun j => (List.range n).all fun k => decide (f (f i j) k = f i (f j k))) && ((List.range n).any fun z => (List.range n).all fun j => decide (f z j = j))
theorem y3f {n : Nat} {f : Nat -> Nat -> Nat} (h : z7n n f = true) : Lad n f := by
  unfold z7n at h
  simp only [Bool.and_eq_true, decide_eq_true_eq, List.all_eq_true, List.any_eq_true, List.mem_range] at h
  obtain ⟨⟨⟨⟨⟨⟨h1, h2⟩, h3⟩, h4⟩, h5⟩, h6⟩, z, hz, h7⟩ := h
  exact ⟨h1, h2, fun i j hi hj => h3 i hi j hj, h4, fun i j hi hj => h5 i hi j hj, fun i j k hi hj hk => h6 i hi j hj k hk, z, hz, h7⟩
theorem Lad.ren {n : Nat} {f : Nat -> Nat -> Nat} (L : Lad n f) {π ι : Nat -> Nat} (h1 : ∀ i, i < n -> π i < n) (h2 : ∀ i, i < n -> ι i < n) (h3 : ∀ i, i < n -> ι (π i) = i) (h4 : ∀ i, i < n -> π (ι i) = i) : Lad n fun a b => π (f (ι a) (ι b)) := by
  obtain ⟨l1, l2, cl, idem, comm, assoc, z, hz, bot⟩ := L
  refine ⟨l1, l2, fun i j hi hj => h1 _ (cl _ _ (h2 i hi) (h2 j hj)), fun i hi => ?_, fun i j hi hj => ?_, fun i j k hi hj hk => ?_, π z, h1 z hz, fun j hj => ?_⟩
  · show π (f (ι i) (ι i)) = i
    rw [idem _ (h2 i hi), h4 i hi]
  · show π (f (ι i) (ι j)) = π (f (ι j) (ι i))
    rw [comm _ _ (h2 i hi) (h2 j hj)]
  · show π (f (ι (π (f (ι i) (ι j)))) (ι k)) = π (f (ι i) (ι (π (f (ι j) (ι k)))))
    rw [h3 _ (cl _ _ (h2 i hi) (h2 j hj)), h3 _ (cl _ _ (h2 j hj) (h2 k hk)), assoc _ _ _ (h2 i hi) (h2 j hj) (h2 k hk)]
  · show π (f (ι (π z)) (ι j)) = j
    rw [h3 z hz, bot _ (h2 j hj), h4 j hj]
noncomputable def x3d (p : Nat -> Nat -> Nat) (n : Nat) : Nat -> List Nat
  | 0 => List.range n
  | k + 1 => (x3d p n k).eraseIdx (p k (x3d p n k).length)
noncomputable def drawn (p : Nat -> Nat -> Nat) (n k : Nat) : Nat := (x3d p n k).getD (p k (x3d p n k).length) 0
theorem x79 : ∀ (l : List Nat) (j : Nat), (x0o l).eraseIdx j = x0o (l.eraseIdx j)
  | [], _ => rfl
  | _ :: _, 0 => rfl
  | a :: l, j + 1 => congrArg (D.int (Int.ofNat a) :: ·) (x79 l j)
theorem x55 {p : Nat -> Nat -> Nat} {n : Nat} (hp : ∀ k m, 0 < m -> p k m < m) : ∀ k, k <= n -> (x3d p n k).length = n - k
  | 0, _ => by simp [x3d]
  | k + 1, h => by
    have ih := x55 hp k (Nat.le_of_succ_le h)
    have := hp k (n - k) (by omega)
    rw [x3d, List.length_eraseIdx, ih, if_pos this]
    omega
theorem x9p : ∀ {l : List Nat} {j : Nat} (h : j < l.length), (l[j] :: l.eraseIdx j).Perm l
  | a :: l, 0, _ => List.Perm.refl _
  | a :: l, j + 1, h => (List.Perm.swap a (l[j]'(by simpa using h)) (l.eraseIdx j)).trans (List.Perm.cons a (x9p (by simpa using h)))
theorem y1i {p : Nat -> Nat -> Nat} {n : Nat} (hp : ∀ k m, 0 < m -> p k m < m) : ∀ k, k <= n -> (((List.range k).map (drawn p n)) ++ x3d p n k).Perm (List.range n)
  | 0, _ => by simp [x3d]
  | k + 1, h => by
    have ih := y1i hp k (Nat.le_of_succ_le h)
    have hl := x55 hp k (by omega : k <= n)
    have hj : p k (x3d p n k).length < (x3d p n k).length := by rw [hl]; exact hp k _ (by omega)
    refine List.Perm.trans ?_ ih
    rw [List.range_succ, List.map_append, List.append_assoc]
    refine List.Perm.append_left _ ?_
    have e : drawn p n k = (x3d p n k)[p k (x3d p n k).length] := by unfold drawn; rw [List.getD_eq_getElem?_getD, List.getElem?_eq_getElem hj]; rfl
    show (drawn p n k :: (x3d p n (k + 1))).Perm _
    rw [e, x3d]
    exact x9p hj
theorem x63 {p : Nat -> Nat -> Nat} {n : Nat} (hp : ∀ k m, 0 < m -> p k m < m) : ((List.range n).map (drawn p n)).Perm (List.range n) := by
  have h := y1i hp n (Nat.le_refl n)
  have hl := x55 hp n (Nat.le_refl n)
  rw [Nat.sub_self] at hl
  rw [List.length_eq_zero_iff.mp hl, List.append_nil] at h
  exact h
theorem y0u {p : Nat -> Nat -> Nat} {n : Nat} (hp : ∀ k m, 0 < m -> p k m < m) {i : Nat} (h : i < n) : drawn p n i < n := by
  have m : drawn p n i ∈ (List.range n).map (drawn p n) := List.mem_map.mpr ⟨i, List.mem_range.mpr h, rfl⟩
  exact List.mem_range.mp ((x63 hp).mem_iff.mp m)
noncomputable def x34 (p : Nat -> Nat -> Nat) (n a : Nat) : Nat := ((List.range n).map (drawn p n)).idxOf a
theorem x77 {p : Nat -> Nat -> Nat} {n : Nat} (hp : ∀ k m, 0 < m -> p k m < m) {a : Nat} (h : a < n) : x34 p n a < n := by
  have m : a ∈ (List.range n).map (drawn p n) := (x63 hp).mem_iff.mpr (List.mem_range.mpr h)
  have := List.idxOf_lt_length_of_mem m
  rw [List.length_map, List.length_range] at this
  exact this
theorem x5d {p : Nat -> Nat -> Nat} {n : Nat} (hp : ∀ k m, 0 < m -> p k m < m) {a : Nat} (h : a < n) : drawn p n (x34 p n a) = a := by
  have m : a ∈ (List.range n).map (drawn p n) := (x63 hp).mem_iff.mpr (List.mem_range.mpr h)
  have := List.getElem_idxOf (List.idxOf_lt_length_of_mem m)
  rw [List.getElem_map, List.getElem_range] at this
  exact this
theorem x53 {p : Nat -> Nat -> Nat} {n : Nat} (hp : ∀ k m, 0 < m -> p k m < m) {i : Nat} (h : i < n) : x34 p n (drawn p n i) = i := by
  have nd : ((List.range n).map (drawn p n)).Nodup := (x63 hp).nodup_iff.mpr List.nodup_range
  have hi : i < ((List.range n).map (drawn p n)).length := by simpa using h
  have := nd.idxOf_getElem i hi
  rw [List.getElem_map, List.getElem_range] at this
  exact this
end L3
namespace L3
open PySem PySem.Spec PyProof.Rows L2
theorem y3j {i n : Nat} {tt : x2k} {te : Den} {ρ : Rho} {deep : Bool} (hi : ρ.length = i) (b : Nat -> Bool) (v : Nat -> D) (q : Nat -> Nat) (ht : ∀ j, j < n -> tt (ρ ++ [some (.int (Int.ofNat j), 9)]) = some (b j, ρ ++ [some (.int (Int.ofNat j), 9)]))
    (he : ∀ j, j < n -> b j = true -> te (ρ ++ [some (.int (Int.ofNat j), 9)]) = some (v j, q j, ρ ++ [some (.int (Int.ofNat j), 9)])) (hd : deep = true -> ∀ j, (v j).isL = true -> q j = 1 := by intro h; cases h) :
    x67 1 (x0h i) tt te deep (x0v n) ρ = some (((List.range n).filter b).map v, ρ) := by
  have h := x2v (k := 1) (pt := x0h i) (tt := tt) (te := te) (deep := deep) (x0v n) (fun _ => ρ) b v (fun j hj => ?_)
  · rw [x0d] at h
    exact h
  · rw [x0d] at hj
    refine ⟨ρ ++ [some (.int (Int.ofNat j), 9)], _, ?_, ht j hj, ?_⟩
    · have : (x0v n)[j]'(by rw [x0d]; exact hj) = .int (Int.ofNat j) := by simp [x0v]
      rw [this]
      unfold x0h
      rw [if_pos (by simp [hi])]
      subst hi
      simp [List.set_append]
    · by_cases hb : b j = true
      · rw [if_pos hb]
        exact ⟨q j, _, he j hj hb, fun ⟨h1, h2, h3⟩ => h3 (hd h1 j h2), by simp⟩
      · rw [if_neg hb]
        simp
theorem x9q {z : Nat} : ∀ n : Nat, (List.range n).filter (fun w => decide (w = z)) = if z < n then [z] else []
  | 0 => by simp
  | n + 1 => by
    rw [List.range_succ, List.filter_append, x9q n]
    by_cases h : n = z
    · subst h; simp
    · have : ¬ (n = z) := h
      by_cases h2 : z < n
      · rw [if_pos h2, if_pos (by omega)]; simp [h]
      · rw [if_neg h2, if_neg (by omega)]; simp [h]
theorem y1a {n : Nat} {g : Nat -> Nat} : (List.range n).map g = List.range n ↔ ∀ j, j < n -> g j = j := by
  constructor
  · intro h j hj
    have := congrArg (fun l => l[j]?) h
    simpa [hj] using this
  · intro h
    have e := List.map_congr_left (l := List.range n) (f := g) (g := id) fun a ha => h a (List.mem_range.mp ha)
    rw [e, List.map_id]
namespace Lad
variable {n : Nat} {f : Nat -> Nat -> Nat} (L : Lad n f)
include L
theorem bot_uniq {z x : Nat} (hz : z < n) (bz : ∀ j, j < n -> f z j = j) (hx : x < n) (bx : ∀ j, j < n -> f x j = j) : x = z := by
  have h1 := bx z hz
  have h2 := bz x hx
  rw [L.comm x z hx hz] at h1
  omega
theorem fold_lt : ∀ {l : List Nat} {a : Nat}, a < n -> (∀ x ∈ l, x < n) -> l.foldl f a < n
  | [], a, ha, _ => ha
  | y :: l, a, ha, h => fold_lt (l := l) (L.cl a y ha (h y List.mem_cons_self)) fun x m => h x (List.mem_cons_of_mem _ m)
theorem y6s : ∀ {l : List Nat} {a x : Nat}, a < n -> x < n -> (∀ x ∈ l, x < n) -> f x a = a -> f x (l.foldl f a) = l.foldl f a
  | [], a, x, _, _, _, e => e
  | y :: l, a, x, ha, hx, h, e => by
    have hy := h y List.mem_cons_self
    refine y6s (l := l) (L.cl a y ha hy) hx (fun x m => h x (List.mem_cons_of_mem _ m)) ?_
    rw [<- L.assoc x a y hx ha hy, e]
theorem fold_mem : ∀ {l : List Nat} {a x : Nat}, a < n -> (∀ x ∈ l, x < n) -> x ∈ l -> f x (l.foldl f a) = l.foldl f a
  | y :: l, a, x, ha, h, m => by
    have hy := h y List.mem_cons_self
    have hl : ∀ x ∈ l, x < n := fun x m => h x (List.mem_cons_of_mem _ m)
    rcases List.mem_cons.mp m with rfl | m
    · refine y6s L (l := l) (L.cl a x ha hy) hy hl ?_
      rw [L.comm a x ha hy, <- L.assoc x x a hy hy ha, L.idem x hy]
    · exact fold_mem (l := l) (L.cl a y ha hy) hl m
end Lad
end L3
namespace L3
open PySem PySem.Spec PyProof.Rows L2
theorem x40 {pt : x6b} {body : x22} {d : D} {q : Nat} : ∀ (ds : List D) (I : Rho -> Prop) (ok : Nat -> Bool) (ρ : Rho),
    (∀ i (h : i < ds.length) ρ, I ρ -> ∃ ρ1, pt ds[i] ρ = some ρ1 /\ (ok i = true -> ∃ ρ2, body ρ1 = some (.nx ρ2) /\ I ρ2) /\ (ok i = false -> body ρ1 = some (.rt d q))) -> I ρ ->
    ((List.range ds.length).all ok = true -> ∃ ρ', x8t pt body ds ρ = some (.nx ρ') /\ I ρ') /\ ((List.range ds.length).all ok = false -> x8t pt body ds ρ = some (.rt d q))
  | [], I, ok, ρ, _, h0 => ⟨fun _ => ⟨ρ, rfl, h0⟩, fun h => by simp at h⟩
  | x :: ds, I, ok, ρ, h, h0 => by
    obtain ⟨ρ1, h1, h2, h3⟩ := h 0 (by simp) ρ h0
    have e1 : pt x ρ = some ρ1 := h1
    have er : (List.range (x :: ds).length).all ok = (ok 0 && (List.range ds.length).all fun i => ok (i + 1)) := by
      rw [List.length_cons, List.range_succ_eq_map, List.all_cons, List.all_map]; rfl
    rw [er]
    cases hk : ok 0 with
    | false =>
      refine ⟨fun z => by simp at z, fun _ => ?_⟩
      unfold x8t
      simp only [e1, h3 hk]
    | true =>
      obtain ⟨ρ2, h4, h5⟩ := h2 hk
      obtain ⟨i1, i2⟩ := x40 ds I (fun i => ok (i + 1)) ρ2 (fun i hi => h (i + 1) (by simpa using hi)) h5
      rw [Bool.true_and]
      unfold x8t
      simp only [e1, h4]
      exact ⟨i1, i2⟩
theorem range_all {n : Nat} {p : Nat -> Bool} : (List.range n).all p = true ↔ ∀ i, i < n -> p i = true := by
  rw [List.all_eq_true]
  exact ⟨fun h i hi => h i (List.mem_range.mpr hi), fun h i hi => h i (List.mem_range.mp hi)⟩
theorem y7l {l : List Nat} {i : Nat} (h : i < (x0o l).length) : (x0o l)[i] = .int (Int.ofNat (l.getD i 0)) := by
  have h' : i < l.length := by rw [x1c] at h; exact h
  simp [x0o, h']
theorem y8l {l : List Nat} {i : Nat} (h : i < l.length) : l.getD i 0 ∈ l := by
  rw [List.getD_eq_getElem?_getD, List.getElem?_eq_getElem h]
  exact List.getElem_mem h
theorem z7q {i : Nat} {te : Den} {ρ : Rho} {deep : Bool} (l : List Nat) (hi : ρ.length = i) (v : Nat -> D) (q : Nat -> Nat)
    (he : ∀ x, x ∈ l -> te (ρ ++ [some (.int (Int.ofNat x), 9)]) = some (v x, q x, ρ ++ [some (.int (Int.ofNat x), 9)])) (hd : deep = true -> ∀ j, (v j).isL = true -> q j = 1 := by intro h; cases h) :
    x67 1 (x0h i) x1f te deep (x0o l) ρ = some (l.map v, ρ) := by
  have h := x2v (k := 1) (pt := x0h i) (tt := x1f) (te := te) (deep := deep) (x0o l) (fun _ => ρ) (fun _ => true) (fun j => v (l.getD j 0)) (fun j hj => ?_)
  · rw [x1c, show (List.range l.length).filter (fun _ => true) = List.range l.length by simp] at h
    rw [h]
    have e : (List.range l.length).map (fun j => v (l.getD j 0)) = l.map v := by
      apply List.ext_getElem?
      intro k
      by_cases hk : k < l.length
      · simp [hk]
      · rw [List.getElem?_eq_none (by simp; omega), List.getElem?_eq_none (by simp; omega)]
    rw [e]
  · have hj' : j < l.length := by rw [x1c] at hj; exact hj
    refine ⟨ρ ++ [some (.int (Int.ofNat (l.getD j 0)), 9)], _, ?_, rfl, ?_⟩
    · rw [y7l hj]
      unfold x0h
      rw [if_pos (by simp [hi])]
      subst hi
      simp [List.set_append]
    · rw [if_pos rfl]
      exact ⟨q _, _, he _ (y8l hj'), fun ⟨h1, h2, h3⟩ => h3 (hd h1 _ h2), by simp⟩
theorem x6q {g : D -> D -> Option D} {fa fb : Den} {ρ ρ1 ρ2 : Rho} {x y d : D} {q q' : Nat} (ha : fa ρ = some (x, q, ρ1)) (hb : fb ρ1 = some (y, q', ρ2)) (hg : g x y = some d) : e2 g fa fb ρ = some (d, 9, ρ2) := by unfold e2; rw [ha]; simp only [hb, hg]
theorem x4l {f : Den} {ρ ρ1 : Rho} {b : Bool} {q : Nat} (h : f ρ = some (.bl b, q, ρ1)) : x2y f ρ = some (b, ρ1) := by unfold x2y; rw [h]
theorem z3d {b : List D -> Option D} {g : x1v} {ρ ρ1 : Rho} {ds : List D} {d : D} (h : g ρ = some (ds, ρ1)) (hd : b ds = some d) : eB b g ρ = some (d, 9, ρ1) := by unfold eB; rw [h]; simp only [hd]
noncomputable def x04 (n : Nat) (r : Nat -> Nat) : D := .tup (x0o ((List.range n).map r))
@[simp] theorem z5j {n : Nat} {r : Nat -> Nat} : (x04 n r).isL = false := rfl
theorem x2o {n i : Nat} {r : Nat -> Nat} (h : i < n) : atD (x04 n r) (Int.ofNat i) = some (.int (Int.ofNat (r i))) := x1n h
theorem z7t (l l' : List Nat) : dEq (.tup (x0o l)) (.tup (x0o l')) = some (.bl (decide (l = l'))) := by unfold dEq; rw [if_pos ⟨(z3r l).ok, (z3r l').ok⟩, z30]
theorem z2o {n : Nat} {r s : Nat -> Nat} (h : ∀ i, i < n -> r i = s i) : x04 n r = x04 n s := congrArg (fun l => D.tup (x0o l)) (List.map_congr_left fun i hi => h i (List.mem_range.mp hi))
theorem y82 {n : Nat} {r s : Nat -> Nat} (h : ∀ i, i < n -> r i = s i) : dEq (x04 n r) (x04 n s) = some (.bl true) := by rw [z2o h]; unfold x04; rw [z7t]; simp
theorem x99 {n : Nat} (g : Nat -> Nat) : D.tup ((List.range n).map fun i => .int (Int.ofNat (g i))) = x04 n g := by unfold x04; rw [x50]
theorem y5n (n : Nat) (a b : Nat -> Nat) : ((x0o ((List.range n).map a)).zip (x0o ((List.range n).map b))).map (fun x => D.tup [x.1, x.2]) = (List.range n).map fun j => .tup [.int (Int.ofNat (a j)), .int (Int.ofNat (b j))] := by
  rw [x50, x50, List.zip_map', List.map_map]
  rfl
theorem z45 {i n : Nat} {tt : x2k} {te : Den} {ρ : Rho} {deep : Bool} (hi : ρ.length = i) (a b : Nat -> Nat) (ok : Nat -> Bool) (v : Nat -> D) (q : Nat -> Nat)
    (ht : ∀ j, j < n -> tt (ρ ++ [some (.int (Int.ofNat (a j)), 9), some (.int (Int.ofNat (b j)), 9)]) = some (ok j, ρ ++ [some (.int (Int.ofNat (a j)), 9), some (.int (Int.ofNat (b j)), 9)]))
    (he : ∀ j, j < n -> ok j = true -> te (ρ ++ [some (.int (Int.ofNat (a j)), 9), some (.int (Int.ofNat (b j)), 9)]) = some (v j, q j, ρ ++ [some (.int (Int.ofNat (a j)), 9), some (.int (Int.ofNat (b j)), 9)]))
    (hd : deep = true -> ∀ j, (v j).isL = true -> q j = 1 := by intro h; cases h) :
    x67 2 (y78 (x2t (x0h i) (x2t (x0h (i + 1)) x81))) tt te deep ((List.range n).map fun j => .tup [.int (Int.ofNat (a j)), .int (Int.ofNat (b j))]) ρ = some (((List.range n).filter ok).map v, ρ) := by
  have h := x2v (k := 2) (pt := y78 (x2t (x0h i) (x2t (x0h (i + 1)) x81))) (tt := tt) (te := te) (deep := deep) ((List.range n).map fun j => .tup [.int (Int.ofNat (a j)), .int (Int.ofNat (b j))]) (fun _ => ρ) ok v (fun j hj => ?_)
  · rw [List.length_map, List.length_range] at h
    exact h
  · rw [List.length_map, List.length_range] at hj
    refine ⟨ρ ++ [some (.int (Int.ofNat (a j)), 9), some (.int (Int.ofNat (b j)), 9)], _, ?_, ht j hj, ?_⟩
    · subst hi
      simp [-Int.ofNat_eq_natCast, List.set_append]
    · by_cases hb : ok j = true
      · rw [if_pos hb]
        exact ⟨q j, _, he j hj hb, fun ⟨h1, h2, h3⟩ => h3 (hd h1 j h2), by simp⟩
      · rw [if_neg hb]
        simp
namespace Lad
variable {n : Nat} {f : Nat -> Nat -> Nat} (L : Lad n f)
include L
theorem le_trans {x y z : Nat} (hx : x < n) (hy : y < n) (hz : z < n) (h1 : f x y = y) (h2 : f y z = z) : f x z = z := by
  rw [<- h2, <- L.assoc x y z hx hy hz, h1]
theorem le_anti {x y : Nat} (hx : x < n) (hy : y < n) (h1 : f x y = y) (h2 : f y x = x) : x = y := by
  rw [L.comm y x hy hx, h1] at h2; exact h2.symm
theorem le_l {x y : Nat} (hx : x < n) (hy : y < n) : f x (f x y) = f x y := by rw [<- L.assoc x x y hx hx hy, L.idem x hx]
theorem le_r {x y : Nat} (hx : x < n) (hy : y < n) : f y (f x y) = f x y := by rw [L.comm x y hx hy]; exact L.le_l hy hx
theorem lub {x y z : Nat} (hx : x < n) (hy : y < n) (hz : z < n) (h1 : f x z = z) (h2 : f y z = z) : f (f x y) z = z := by rw [L.assoc x y z hx hy hz, h2, h1]
omit L
include L
variable {z : Nat} (hz : z < n) (bz : ∀ j, j < n -> f z j = j) {r s : Nat -> Nat} (hr : ∀ i, i < n -> r i < n)
include hz bz hr
end Lad
end L3
namespace L3
open PySem PySem.Spec PyProof.Rows L2
theorem z93 {α : Type} {us : List α} (h : us.length = 1) : ∃ a, us = [a] := match us, h with | [a], _ => ⟨a, rfl⟩
theorem z8u {α : Type} {us : List α} (h : us.length = 2) : ∃ a b, us = [a, b] := by
  cases us with
  | nil => cases h
  | cons a us =>
    obtain ⟨b, hh⟩ := z93 (Nat.succ.inj h)
    exact ⟨a, b, by rw [hh]⟩
theorem z9n {α : Type} {us : List α} (h : us.length = 3) : ∃ a b c, us = [a, b, c] := by
  cases us with
  | nil => cases h
  | cons a us =>
    obtain ⟨b, c, hh⟩ := z8u (Nat.succ.inj h)
    exact ⟨a, b, c, by rw [hh]⟩
theorem y6v {pt : x6b} {body : x22} {d : D} {ds : List D} {ρ ρ1 ρ2 : Rho} (h1 : pt d ρ = some ρ1) (h2 : body ρ1 = some (.nx ρ2)) : x8t pt body (d :: ds) ρ = x8t pt body ds ρ2 := by
  show (match pt d ρ with | none => none | some ρ1 => _) = _
  simp only [h1, h2]
namespace Lad
variable {n : Nat} {f : Nat -> Nat -> Nat} (L : Lad n f) {p : Nat}
include L
end Lad
end L3
namespace My
open PySem PySem.Spec PyProof.Rows L2 L3
noncomputable def top (i : Nat) : Stmt := PySem.Challenge.pw_ladderhall_k90_maps.main.body.getD i (.Pass ⟨0, 0, 0, 0⟩)
structure Bt (mg : Str -> Option Value) : Prop where
  m_ValueError : mg "ValueError" = none
  m_all : mg "all" = none
  m_bool : mg "bool" = none
  m_enumerate : mg "enumerate" = none
  m_int : mg "int" = none
  m_isinstance : mg "isinstance" = none
  m_len : mg "len" = none
  m_list : mg "list" = none
  m_max : mg "max" = none
  m_range : mg "range" = none
  m_tuple : mg "tuple" = none
  m_zip : mg "zip" = none
  k_MOST_WORTHS : ∃ t, mg "MOST_WORTHS" = some (.int 16 t)
structure Xt (K : PySem.W.Frag) (mg : Str -> Option Value) : Prop where
  u : y5a K mg "RiseError" ["NoMap"]
  x : ∃ C, XNm K mg "NoMap" C
  i_NoHouse : IsC K mg ["NoMap"] "NoHouse"
  i_NoMap : IsC K mg ["NoMap"] "NoMap"
  i_NoPlace : IsC K mg ["NoMap"] "NoPlace"
  i_NoRule : IsC K mg ["NoMap"] "NoRule"
  i_NoStep : IsC K mg ["NoMap"] "NoStep"
  i_TooGreat : IsC K mg ["NoMap"] "TooGreat"
section
variable {P : Program} {w : World} {K : PySem.W.Frag} {mg : Str -> Option Value} {base : Heap}
noncomputable def x8u : x22 := x1i (sIf (x2y (e2 dLt (x06 1) (x0z 0))) (x29 (x1l 0 (x06 1))) (x4f))
  (x1i (sIf (x2y (e2 dEq (x06 0) (x7a (x0e)))) (x29 (eC (.int 0))) (x4f))
  (x29 (e2 x4x (e2 y58 (x1l 0 (e2 z0g (x06 1) (x0z 0))) (eC (.int 31))) (x06 1))))
noncomputable def x4e : List D -> Option (D × Nat) := fnD 2 x8u
theorem y2a : FnScope ["_law_script", "_law_k"] ["_law_script", "_law_k"] (x08 (top 33)) := ⟨rfl, rfl, rfl, by decide +kernel, rfl, by decide +kernel, by decide +kernel⟩
theorem y2n (B : Bt mg)  (a : At K mg "_law_cell" (top 33) ["_law_script", "_law_k"]) : Cal P w K mg base 1 "_law_cell" 2 x4e :=
  Cal.mkQ (k := 0) a y2a fun f cdv A outer s H E hr =>
    x0a (x2d (y2e (x02 (qv 1 rfl (Or.inl rfl))) (x0t B.m_len (qv 0 rfl (Or.inl rfl)))) (x0c (x0k (x1g (qv 0 rfl (Or.inl rfl)) (x02 (qv 1 rfl (Or.inl rfl)))))) (x1j))
    (x0a (x2d (x8k hr (x02 (qv 0 rfl (Or.inl rfl))) (x3j (x03))) (x0c (x0k (x0f))) (x1j))
    (x0c (x0k (x2z (x7t (x1g (qv 0 rfl (Or.inl rfl)) (x9r (x02 (qv 1 rfl (Or.inl rfl))) (x0t B.m_len (qv 0 rfl (Or.inl rfl))))) (x0f)) (x02 (qv 1 rfl (Or.inl rfl)))))))
noncomputable def x8j : x22 := x1i (x30 3 (e2 z0g (e2 y58 (e2 x4x (x0n x4e 2 (x01 (x06 0) (x01 (x06 1) (x0e)))) (e2 y58 (eC (.int 6151)) (e2 x4x (x06 1) (eC (.int 1))))) (eC (.int 40692))) (eC (.int 2147483399))))
  (x29 (e2 z0g (e2 z0g (e2 x4x (e2 y58 (x06 3) (x06 3)) (e2 z5d (x06 3) (eC (.int 31)))) (eC (.int 2147483629))) (x06 2)))
noncomputable def x0g : List D -> Option (D × Nat) := fnD 4 x8j
theorem x7z : FnScope ["_law_script", "_law_k", "_law_many", "_law_drawn"] ["_law_script", "_law_k", "_law_many"] (x08 (top 34)) := ⟨rfl, rfl, rfl, by decide +kernel, rfl, by decide +kernel, by decide +kernel⟩
theorem y3c (B : Bt mg) (c__law_cell : Cal P w K mg base 1 "_law_cell" 2 x4e) (a : At K mg "_law_pick" (top 34) ["_law_script", "_law_k", "_law_many"]) : Cal P w K mg base 2 "_law_pick" 3 x0g :=
  Cal.mkQ (k := 1) a x7z fun f cdv A outer s H E hr =>
    x0a (x16 (i := 3) x7z.nd rfl (Or.inl rfl) (x9r (x7t (x2z (x0b c__law_cell hr (by decide) (x00 (x02 (qv 0 rfl (Or.inl rfl))) (x00 (x02 (qv 1 rfl (Or.inl rfl))) (x03) x05) x05)) (x7t (x0f) (x2z (x02 (qv 1 rfl (Or.inl rfl))) (x0f)))) (x0f)) (x0f)))
    (x0c (x0k (x9r (x9r (x2z (x7t (x02 (qv 3 rfl (Or.inl rfl))) (x02 (qv 3 rfl (Or.inl rfl)))) (y7j (x02 (qv 3 rfl (Or.inl rfl))) (x0f))) (x0f)) (x02 (qv 2 rfl (Or.inl rfl))))))
noncomputable def y22 : x22 := x29 (x25 1 (x0q (x01 (x06 0) (x0e))) (x0h 1) (x1f) (x25 1 (x0q (x01 (x06 0) (x0e))) (x0h 2) (x1f) (eB z4a (x01 (x06 1) (x01 (x06 2) (x0e)))) false) false)
noncomputable def x1b : List D -> Option (D × Nat) := fnD 1 y22
theorem y0k : FnScope ["_law_many"] ["_law_many"] (x08 (top 35)) := ⟨rfl, rfl, rfl, by decide +kernel, rfl, by decide +kernel, by decide +kernel⟩
theorem y24 (B : Bt mg)  (a : At K mg "_law_chain" (top 35) ["_law_many"]) : Cal P w K mg base 1 "_law_chain" 1 x1b :=
  Cal.mkQ (k := 0) a y0k fun f cdv A outer s H E hr =>
    x0c (x0k (x2r (k := 1) (N' := ["_law_many", "_law_one"]) false rfl ⟨rfl, by decide +kernel, rfl, rfl, rfl⟩ (x0m B.m_range (x00 (x02 (qv 0 rfl (Or.inr (Or.inl rfl)))) (x03) x05)) (fun _ _ _ _ => x0i (i := 1) (show 1 <= 1 by decide) (show List.Nodup (["_law_many", "_law_one"] : List Str) by decide +kernel) rfl (Or.inr rfl) (Or.inl rfl)) (fun _ _ _ _ => x1r) (fun _ _ _ _ => x2r (k := 1) (N' := ["_law_many", "_law_one", "_law_other"]) false rfl ⟨rfl, by decide +kernel, rfl, rfl, rfl⟩ (x0m B.m_range (x00 (x02 (qv 0)) (x03) x05)) (fun _ _ _ _ => x0i (i := 2) (show 2 <= 2 by decide) (show List.Nodup (["_law_many", "_law_one", "_law_other"] : List Str) by decide +kernel) rfl (Or.inl rfl) (Or.inr rfl)) (fun _ _ _ _ => x1r) (fun _ _ _ _ => y6e rfl B.m_max PyProof.Rows.boot_max (x00 (x02 (qv 1)) (x00 (x02 (qv 2)) (x03) x05) x05)))))
noncomputable def x9g : x22 := x1i (x30 2 (x0z 1))
  (x1i (x30 3 (x7a (x0e)))
  (x1i (x5g (x0q (x01 (e2 y58 (x0z 0) (x06 2)) (x0e))) (x0h 4) (x1i (x30 5 (x7a (x0e)))
  (x1i (x5g (x0q (x01 (e2 y58 (x0z 0) (x06 2)) (x0e))) (x0h 6) (x1i (x30 7 (eIx (x1l 0 (e2 z5d (x06 4) (x06 2))) (e2 z5d (x06 6) (x06 2))))
  (y0x (z1j 5 (x01 (e2 x4x (e2 y58 (x06 7) (x06 2)) (eIx (x1l 1 (e2 z0g (x06 4) (x06 2))) (e2 z0g (x06 6) (x06 2)))) (x0e))))))
  (y0x (z1j 3 (x01 (x06 5) (x0e)))))))
  (x29 (x06 3))))
noncomputable def x0y : List D -> Option (D × Nat) := fnD 8 x9g
theorem x1w : FnScope ["_law_one", "_law_other", "_law_many", "_law_made", "_law_here", "_law_row", "_law_there", "_law_first"] ["_law_one", "_law_other"] (x08 (top 36)) := ⟨rfl, rfl, rfl, by decide +kernel, rfl, by decide +kernel, by decide +kernel⟩
theorem x9b (B : Bt mg)  (a : At K mg "_law_couples" (top 36) ["_law_one", "_law_other"]) : Cal P w K mg base 1 "_law_couples" 2 x0y :=
  Cal.mkQ (k := 0) a x1w fun f cdv A outer s H E hr =>
    x0a (x16 (i := 2) x1w.nd rfl (Or.inl rfl) (x0t B.m_len (qv 1 rfl (Or.inl rfl))))
    (x0a (x16 (i := 3) x1w.nd rfl (Or.inl rfl) (x3j (x03)))
    (x0a (x2c PassesOwn.never rfl (x0m B.m_range (x00 (x7t (x0t B.m_len (qv 0 rfl (Or.inl rfl))) (x02 (qv 2 rfl (Or.inl rfl)))) (x03) x28)) (x0i (i := 4) (show 0 <= 4 by decide) x1w.nd rfl (Or.inl rfl)) (x0a (x16 (i := 5) x1w.nd rfl (Or.inl rfl) (x3j (x03)))
    (x0a (x2c PassesOwn.never rfl (x0m B.m_range (x00 (x7t (x0t B.m_len (qv 0 rfl (Or.inl rfl))) (x02 (qv 2 rfl (Or.inl rfl)))) (x03) x28)) (x0i (i := 6) (show 0 <= 6 by decide) x1w.nd rfl (Or.inl rfl)) (x0a (x16 (i := 7) x1w.nd rfl (Or.inl rfl) (x42 (x1g (qv 0 rfl (Or.inl rfl)) (y7j (x02 (qv 4 rfl (Or.inl rfl))) (x02 (qv 2 rfl (Or.inl rfl))))) (y7j (x02 (qv 6 rfl (Or.inl rfl))) (x02 (qv 2 rfl (Or.inl rfl))))))
    (x0c (x66 (x73 (qv 5 rfl (Or.inl rfl)) (x00 (x2z (x7t (x02 (qv 7 rfl (Or.inl rfl))) (x02 (qv 2 rfl (Or.inl rfl)))) (x42 (x1g (qv 1 rfl (Or.inl rfl)) (x9r (x02 (qv 4 rfl (Or.inl rfl))) (x02 (qv 2 rfl (Or.inl rfl))))) (x9r (x02 (qv 6 rfl (Or.inl rfl))) (x02 (qv 2 rfl (Or.inl rfl)))))) (x03) x28))))))
    (x0c (x66 (x73 (qv 3 rfl (Or.inl rfl)) (x00 (x02 (qv 5 rfl (Or.inl rfl))) (x03) x05)))))))
    (x0c (x0k (x02 (qv 3 rfl (Or.inl rfl)))))))
noncomputable def x6g : x22 := x1i (x30 1 (x7a (x0e)))
  (x1i (x5g (x0q (x01 (e2 x4x (x06 0) (eC (.int 2))) (x0e))) (x0h 2) (x1i (x30 3 (x7a (x0e)))
  (x1i (x5g (x0q (x01 (e2 x4x (x06 0) (eC (.int 2))) (x0e))) (x0h 4) (y0x (z1j 3 (x01 (eIf (y54 (x2y (e2 dIn (eC (.int 0)) (x88 (x01 (x06 2) (x01 (x06 4) (x0e)))))) (x2y (e2 dEq (x06 2) (x06 4)))) (eB z4a (x01 (x06 2) (x01 (x06 4) (x0e)))) (e2 x4x (x06 0) (eC (.int 1)))) (x0e)))))
  (y0x (z1j 1 (x01 (x06 3) (x0e)))))))
  (x29 (x06 1)))
noncomputable def x10 : List D -> Option (D × Nat) := fnD 5 x6g
theorem x1m : FnScope ["_law_many", "_law_made", "_law_one", "_law_row", "_law_other"] ["_law_many"] (x08 (top 37)) := ⟨rfl, rfl, rfl, by decide +kernel, rfl, by decide +kernel, by decide +kernel⟩
theorem x6j (B : Bt mg)  (a : At K mg "_law_side_by_side" (top 37) ["_law_many"]) : Cal P w K mg base 1 "_law_side_by_side" 1 x10 :=
  Cal.mkQ (k := 0) a x1m fun f cdv A outer s H E hr =>
    x0a (x16 (i := 1) x1m.nd rfl (Or.inl rfl) (x3j (x03)))
    (x0a (x2c PassesOwn.never rfl (x0m B.m_range (x00 (x2z (x02 (qv 0 rfl (Or.inl rfl))) (x0f)) (x03) x28)) (x0i (i := 2) (show 0 <= 2 by decide) x1m.nd rfl (Or.inl rfl)) (x0a (x16 (i := 3) x1m.nd rfl (Or.inl rfl) (x3j (x03)))
    (x0a (x2c PassesOwn.never rfl (x0m B.m_range (x00 (x2z (x02 (qv 0 rfl (Or.inl rfl))) (x0f)) (x03) x28)) (x0i (i := 4) (show 0 <= 4 by decide) x1m.nd rfl (Or.inl rfl)) (x0c (x66 (x73 (qv 3 rfl (Or.inl rfl)) (x00 (y44 (y3k (x8l (z0s hr (x0f) (x5n (x00 (x02 (qv 2 rfl (Or.inl rfl))) (x00 (x02 (qv 4 rfl (Or.inl rfl))) (x03) x05) x05))) (x6f (x8k hr (x02 (qv 2 rfl (Or.inl rfl))) (x02 (qv 4 rfl (Or.inl rfl))))))) (y6e rfl B.m_max PyProof.Rows.boot_max (x00 (x02 (qv 2 rfl (Or.inl rfl))) (x00 (x02 (qv 4 rfl (Or.inl rfl))) (x03) x05) x05)) (x2z (x02 (qv 0 rfl (Or.inl rfl))) (x0f))) (x03) y9p)))))
    (x0c (x66 (x73 (qv 1 rfl (Or.inl rfl)) (x00 (x02 (qv 3 rfl (Or.inl rfl))) (x03) x05)))))))
    (x0c (x0k (x02 (qv 1 rfl (Or.inl rfl))))))
noncomputable def x8n : x22 := x1i (x30 2 (x0n x0g 3 (x01 (x06 0) (x01 (x06 1) (x01 (eC (.int 9)) (x0e))))))
  (x1i (sIf (x2y (e2 dLt (x06 2) (eC (.int 3)))) (x29 (x0n x1b 1 (x01 (e2 x4x (eC (.int 1)) (x0n x0g 3 (x01 (x06 0) (x01 (e2 x4x (x06 1) (eC (.int 1))) (x01 (eC (.int 5)) (x0e)))))) (x0e)))) (x4f))
  (x1i (sIf (x2y (e2 dLt (x06 2) (eC (.int 5)))) (x29 (x0n x0y 2 (x01 (x0n x1b 1 (x01 (eC (.int 2)) (x0e))) (x01 (x0n x1b 1 (x01 (eIx (x7a (x01 (eC (.int 2)) (x01 (eC (.int 3)) (x01 (eC (.int 4)) (x0e))))) (x0n x0g 3 (x01 (x06 0) (x01 (e2 x4x (x06 1) (eC (.int 1))) (x01 (eC (.int 3)) (x0e)))))) (x0e))) (x0e))))) (x4f))
  (x1i (sIf (x2y (e2 dLt (x06 2) (eC (.int 7)))) (x29 (x0n x10 1 (x01 (x0n x0g 3 (x01 (x06 0) (x01 (e2 x4x (x06 1) (eC (.int 1))) (x01 (eC (.int 5)) (x0e))))) (x0e)))) (x4f))
  (x1i (sIf (x2y (e2 dEq (x06 2) (eC (.int 7)))) (x29 (x0n x0y 2 (x01 (x0n x1b 1 (x01 (eC (.int 2)) (x0e))) (x01 (x0n x0y 2 (x01 (x0n x1b 1 (x01 (eC (.int 2)) (x0e))) (x01 (x0n x1b 1 (x01 (eC (.int 2)) (x0e))) (x0e)))) (x0e))))) (x4f))
  (x1i (x30 3 (x7a (x01 (x7a (x01 (eC (.int 0)) (x01 (eC (.int 1)) (x01 (eC (.int 2)) (x01 (eC (.int 3)) (x01 (eC (.int 4)) (x0e))))))) (x01 (x7a (x01 (eC (.int 1)) (x01 (eC (.int 1)) (x01 (eC (.int 2)) (x01 (eC (.int 4)) (x01 (eC (.int 4)) (x0e))))))) (x01 (x7a (x01 (eC (.int 2)) (x01 (eC (.int 2)) (x01 (eC (.int 2)) (x01 (eC (.int 4)) (x01 (eC (.int 4)) (x0e))))))) (x01 (x7a (x01 (eC (.int 3)) (x01 (eC (.int 4)) (x01 (eC (.int 4)) (x01 (eC (.int 3)) (x01 (eC (.int 4)) (x0e))))))) (x01 (x7a (x01 (eC (.int 4)) (x01 (eC (.int 4)) (x01 (eC (.int 4)) (x01 (eC (.int 4)) (x01 (eC (.int 4)) (x0e))))))) (x0e))))))))
  (x29 (x06 3)))))))
noncomputable def x4d : List D -> Option (D × Nat) := fnD 4 x8n
theorem x5q : FnScope ["_law_script", "_law_at", "_law_kind", "_law_rows"] ["_law_script", "_law_at"] (x08 (top 38)) := ⟨rfl, rfl, rfl, by decide +kernel, rfl, by decide +kernel, by decide +kernel⟩
theorem y3o (B : Bt mg) (c__law_pick : Cal P w K mg base 2 "_law_pick" 3 x0g) (c__law_chain : Cal P w K mg base 1 "_law_chain" 1 x1b) (c__law_couples : Cal P w K mg base 1 "_law_couples" 2 x0y) (c__law_side_by_side : Cal P w K mg base 1 "_law_side_by_side" 1 x10) (a : At K mg "_law_base" (top 38) ["_law_script", "_law_at"]) : Cal P w K mg base 3 "_law_base" 2 x4d :=
  Cal.mkQ (k := 2) a x5q fun f cdv A outer s H E hr =>
    x0a (x16 (i := 2) x5q.nd rfl (Or.inl rfl) (x0b c__law_pick hr (by decide) (x00 (x02 (qv 0 rfl (Or.inl rfl))) (x00 (x02 (qv 1 rfl (Or.inl rfl))) (x00 (x0f) (x03) x07) x05) x05)))
    (x0a (x2d (y2e (x02 (qv 2 rfl (Or.inl rfl))) (x0f)) (x0c (x0k (x0b c__law_chain hr (by decide) (x00 (x2z (x0f) (x0b c__law_pick hr (by decide) (x00 (x02 (qv 0 rfl (Or.inl rfl))) (x00 (x2z (x02 (qv 1 rfl (Or.inl rfl))) (x0f)) (x00 (x0f) (x03) x07) x28) x05))) (x03) x28)))) (x1j))
    (x0a (x2d (y2e (x02 (qv 2 rfl (Or.inl rfl))) (x0f)) (x0c (x0k (x0b c__law_couples hr (by decide) (x00 (x0b c__law_chain hr (by decide) (x00 (x0f) (x03) x07)) (x00 (x0b c__law_chain hr (by decide) (x00 (x42 (x3j (x00 (x0f) (x00 (x0f) (x00 (x0f) (x03) x07) x07) x07)) (x0b c__law_pick hr (by decide) (x00 (x02 (qv 0 rfl (Or.inl rfl))) (x00 (x2z (x02 (qv 1 rfl (Or.inl rfl))) (x0f)) (x00 (x0f) (x03) x07) x28) x05))) (x03) x5s)) (x03) x0l) x0l)))) (x1j))
    (x0a (x2d (y2e (x02 (qv 2 rfl (Or.inl rfl))) (x0f)) (x0c (x0k (x0b c__law_side_by_side hr (by decide) (x00 (x0b c__law_pick hr (by decide) (x00 (x02 (qv 0 rfl (Or.inl rfl))) (x00 (x2z (x02 (qv 1 rfl (Or.inl rfl))) (x0f)) (x00 (x0f) (x03) x07) x28) x05)) (x03) x0l)))) (x1j))
    (x0a (x2d (x8k hr (x02 (qv 2 rfl (Or.inl rfl))) (x0f)) (x0c (x0k (x0b c__law_couples hr (by decide) (x00 (x0b c__law_chain hr (by decide) (x00 (x0f) (x03) x07)) (x00 (x0b c__law_couples hr (by decide) (x00 (x0b c__law_chain hr (by decide) (x00 (x0f) (x03) x07)) (x00 (x0b c__law_chain hr (by decide) (x00 (x0f) (x03) x07)) (x03) x0l) x0l)) (x03) x0l) x0l)))) (x1j))
    (x0a (x16 (i := 3) x5q.nd rfl (Or.inl rfl) (x3j (x00 (x3j (x00 (x0f) (x00 (x0f) (x00 (x0f) (x00 (x0f) (x00 (x0f) (x03) x07) x07) x07) x07) x07)) (x00 (x3j (x00 (x0f) (x00 (x0f) (x00 (x0f) (x00 (x0f) (x00 (x0f) (x03) x07) x07) x07) x07) x07)) (x00 (x3j (x00 (x0f) (x00 (x0f) (x00 (x0f) (x00 (x0f) (x00 (x0f) (x03) x07) x07) x07) x07) x07)) (x00 (x3j (x00 (x0f) (x00 (x0f) (x00 (x0f) (x00 (x0f) (x00 (x0f) (x03) x07) x07) x07) x07) x07)) (x00 (x3j (x00 (x0f) (x00 (x0f) (x00 (x0f) (x00 (x0f) (x00 (x0f) (x03) x07) x07) x07) x07) x07)) (x03) x91) x91) x91) x91) x91)))
    (x0c (x0k (x02 (qv 3 rfl (Or.inl rfl))))))))))
noncomputable def x74 : x22 := x1i (x30 2 (x0n x4d 2 (x01 (x06 0) (x01 (x06 1) (x0e)))))
  (x1i (x30 3 (x69 (x01 (x0z 2) (x0e))))
  (x1i (x30 4 (x25 1 (x0q (x01 (x0z 2) (x0e))) (x0h 8) (x1f) (y7t 3 (x01 (x0n x0g 3 (x01 (x06 0) (x01 (e2 x4x (e2 x4x (x06 1) (eC (.int 2))) (x06 8)) (x01 (x0z 3) (x0e))))) (x0e))) false))
  (x1i (x30 5 (x25 1 (x7b (x06 2)) (x0h 8) (x1f) (x9d (x7a (x01 (eC (.int 0)) (x0e))) (x0z 2)) true))
  (x1i (x5g (x0q (x01 (x0z 2) (x0e))) (x0h 6) (x5g (x0q (x01 (x0z 2) (x0e))) (x0h 7) (x9l 5 (qIx 4 (y3a 6)) (qIx 4 (y3a 7)) (x1l 4 (eIx (x1l 2 (x06 6)) (x06 7))))))
  (x29 (x1x (x01 (x25 1 (x7b (x06 5)) (x0h 8) (x1f) (x1x (x01 (x06 8) (x0e))) false) (x0e))))))))
noncomputable def x3e : List D -> Option (D × Nat) := fnD 8 x74
theorem x26 : FnScope ["_law_script", "_law_at", "_law_base_here", "_law_left", "_law_name", "_law_made", "_law_one", "_law_other"] ["_law_script", "_law_at"] (x08 (top 39)) := ⟨rfl, rfl, rfl, by decide +kernel, rfl, by decide +kernel, by decide +kernel⟩
theorem y0l (B : Bt mg) (c__law_base : Cal P w K mg base 3 "_law_base" 2 x4d) (c__law_pick : Cal P w K mg base 2 "_law_pick" 3 x0g) (a : At K mg "_law_ladder" (top 39) ["_law_script", "_law_at"]) : Cal P w K mg base 4 "_law_ladder" 2 x3e :=
  Cal.mkQ (k := 3) a x26 fun f cdv A outer s H E hr =>
    x0a (x16 (i := 2) x26.nd rfl (Or.inr rfl) (x0b c__law_base hr (by decide) (x00 (x02 (qv 0 rfl (Or.inr (Or.inl rfl)))) (x00 (x02 (qv 1 rfl (Or.inr (Or.inl rfl)))) (x03) x05) x05)))
    (x0a (x16 (i := 3) x26.nd rfl (Or.inr rfl) (y0t rfl B.m_list PyProof.Rows.boot_list B.m_range (x00 (x0t B.m_len (qv 2 rfl (Or.inr (Or.inl rfl)))) (x03) x0l)))
    (x0a (x6o (i := 4) (k := 1) (N' := ["_law_script", "_law_at", "_law_base_here", "_law_left", "_law_name", "_law_made", "_law_one", "_law_other", "_law_k"]) false x26.nd rfl (Or.inl rfl) rfl rfl ⟨rfl, by decide +kernel, rfl, rfl, rfl⟩ (x0m B.m_range (x00 (x0t B.m_len (qv 2 rfl (Or.inr (Or.inl rfl)))) (x03) x0l)) (fun _ _ _ _ => x0i (i := 8) (show 8 <= 8 by decide) (show List.Nodup (["_law_script", "_law_at", "_law_base_here", "_law_left", "_law_name", "_law_made", "_law_one", "_law_other", "_law_k"] : List Str) by decide +kernel) rfl (Or.inl rfl) (Or.inr rfl)) (fun _ _ _ _ => x1r) (fun _ _ _ _ => z0m (qv 3) (x00 (x0b c__law_pick hr (by decide) (x00 (x02 (qv 0)) (x00 (x2z (x2z (x02 (qv 1)) (x0f)) (x02 (qv 8))) (x00 (x0t B.m_len (qv 3)) (x03) x0l) x28) x05)) (x03) x0l)))
    (x0a (x6o (i := 5) (k := 1) (N' := ["_law_script", "_law_at", "_law_base_here", "_law_left", "_law_name", "_law_made", "_law_one", "_law_other", "_law_row"]) true x26.nd rfl (Or.inl rfl) rfl rfl ⟨rfl, by decide +kernel, rfl, rfl, rfl⟩ (x4i (x02 (qv 2 rfl (Or.inr (Or.inl rfl))))) (fun _ _ _ _ => x0i (i := 8) (show 8 <= 8 by decide) (show List.Nodup (["_law_script", "_law_at", "_law_base_here", "_law_left", "_law_name", "_law_made", "_law_one", "_law_other", "_law_row"] : List Str) by decide +kernel) rfl (Or.inl rfl) (Or.inr rfl)) (fun _ _ _ _ => x1r) (fun _ _ _ _ => y60 (x3j (x00 (x0f) (x03) x07)) (x0t B.m_len (qv 2))))
    (x0a (x2c PassesOwn.never rfl (x0m B.m_range (x00 (x0t B.m_len (qv 2 rfl (Or.inr (Or.inl rfl)))) (x03) x0l)) (x0i (i := 6) (show 0 <= 6 by decide) x26.nd rfl (Or.inl rfl)) (x0c (x2c PassesOwn.never rfl (x0m B.m_range (x00 (x0t B.m_len (qv 2 rfl (Or.inr (Or.inl rfl)))) (x03) x0l)) (x0i (i := 7) (show 0 <= 7 by decide) x26.nd rfl (Or.inl rfl)) (x0c (y3s (qv 5 rfl (Or.inl rfl)) (y89 (qv 4 rfl (Or.inl rfl)) (y46 (qv 6 rfl (Or.inl rfl)))) (y89 (qv 4 rfl (Or.inl rfl)) (y46 (qv 7 rfl (Or.inl rfl)))) (x1g (qv 4 rfl (Or.inl rfl)) (x42 (x1g (qv 2 rfl (Or.inr (Or.inl rfl))) (x02 (qv 6 rfl (Or.inl rfl)))) (x02 (qv 7 rfl (Or.inl rfl))))))))))
    (x0c (x0k (x32 B.m_tuple PyProof.Rows.boot_tuple (x00 (x2r (k := 1) (N' := ["_law_script", "_law_at", "_law_base_here", "_law_left", "_law_name", "_law_made", "_law_one", "_law_other", "_law_row"]) false rfl ⟨rfl, by decide +kernel, rfl, rfl, rfl⟩ (x4i (x02 (qv 5 rfl (Or.inl rfl)))) (fun _ _ _ _ => x0i (i := 8) (show 8 <= 8 by decide) (show List.Nodup (["_law_script", "_law_at", "_law_base_here", "_law_left", "_law_name", "_law_made", "_law_one", "_law_other", "_law_row"] : List Str) by decide +kernel) rfl (Or.inl rfl) (Or.inr rfl)) (fun _ _ _ _ => x1r) (fun _ _ _ _ => x32 B.m_tuple PyProof.Rows.boot_tuple (x00 (x02 (qv 8)) (x03) x05))) (x03) x1u))))))))
noncomputable def x7o : x22 := x29 (x25 1 (x0q (x01 (x0z 0) (x0e))) (x0h 2) (x2y (e2 dEq (eIx (x1l 0 (x06 2)) (x06 1)) (x06 1))) (x06 2) false)
noncomputable def x3v : List D -> Option (D × Nat) := fnD 2 x7o
theorem y0o : FnScope ["_law_ladder_here", "_law_worth"] ["_law_ladder_here", "_law_worth"] (x08 (top 42)) := ⟨rfl, rfl, rfl, by decide +kernel, rfl, by decide +kernel, by decide +kernel⟩
theorem y1p (B : Bt mg)  (a : At K mg "_law_under" (top 42) ["_law_ladder_here", "_law_worth"]) : Cal P w K mg base 1 "_law_under" 2 x3v :=
  Cal.mkQ (k := 0) a y0o fun f cdv A outer s H E hr =>
    x0c (x0k (x2r (k := 1) (N' := ["_law_ladder_here", "_law_worth", "_law_one"]) false rfl ⟨rfl, by decide +kernel, rfl, rfl, rfl⟩ (x0m B.m_range (x00 (x0t B.m_len (qv 0 rfl (Or.inr (Or.inl rfl)))) (x03) x0l)) (fun _ _ _ _ => x0i (i := 2) (show 2 <= 2 by decide) (show List.Nodup (["_law_ladder_here", "_law_worth", "_law_one"] : List Str) by decide +kernel) rfl (Or.inl rfl) (Or.inr rfl)) (fun _ _ _ _ => y0g (x8k hr (x42 (x1g (qv 0) (x02 (qv 2))) (x02 (qv 1))) (x02 (qv 1)))) (fun _ _ _ _ => x02 (qv 2))))
noncomputable def x97 : x22 := x1i (x30 2 (x0n x3v 2 (x01 (x06 0) (x01 (x06 1) (x0e)))))
  (x29 (x1x (x01 (x25 1 (x0q (x01 (x0z 0) (x0e))) (x0h 3) (x1f) (eIf (x2y (e2 dIn (x06 3) (x06 2))) (eC (.int 0)) (eC (.int 1))) false) (x0e))))
noncomputable def x3s : List D -> Option (D × Nat) := fnD 3 x97
theorem x7y : FnScope ["_law_ladder_here", "_law_worth", "_law_under_here"] ["_law_ladder_here", "_law_worth"] (x08 (top 43)) := ⟨rfl, rfl, rfl, by decide +kernel, rfl, by decide +kernel, by decide +kernel⟩
theorem y2l (B : Bt mg) (c__law_under : Cal P w K mg base 1 "_law_under" 2 x3v) (a : At K mg "_law_over" (top 43) ["_law_ladder_here", "_law_worth"]) : Cal P w K mg base 2 "_law_over" 2 x3s :=
  Cal.mkQ (k := 1) a x7y fun f cdv A outer s H E hr =>
    x0a (x16 (i := 2) x7y.nd rfl (Or.inr rfl) (x0b c__law_under hr (by decide) (x00 (x02 (qv 0 rfl (Or.inl rfl))) (x00 (x02 (qv 1 rfl (Or.inl rfl))) (x03) x05) x05)))
    (x0c (x0k (x32 B.m_tuple PyProof.Rows.boot_tuple (x00 (x2r (k := 1) (N' := ["_law_ladder_here", "_law_worth", "_law_under_here", "_law_one"]) false rfl ⟨rfl, by decide +kernel, rfl, rfl, rfl⟩ (x0m B.m_range (x00 (x0t B.m_len (qv 0 rfl (Or.inl rfl))) (x03) x0l)) (fun _ _ _ _ => x0i (i := 3) (show 3 <= 3 by decide) (show List.Nodup (["_law_ladder_here", "_law_worth", "_law_under_here", "_law_one"] : List Str) by decide +kernel) rfl (Or.inl rfl) (Or.inr rfl)) (fun _ _ _ _ => x1r) (fun _ _ _ _ => y44 (z0s hr (x02 (qv 3)) (x02 (qv 2))) (x0f) (x0f))) (x03) x1u))))
noncomputable abbrev x6e : x22 := x5g (x0q (x01 (x0z 2) (x0e))) (x0h 11) (x9l 7 (qIx 9 (y3a 10)) (qIx 9 (y3a 11)) (x1l 9 (eIx (x1l 2 (x06 10)) (x06 11))))
noncomputable abbrev x46 : x22 := x9l 7 (qIx 9 (y3a 10)) (qIx 9 (y3a 11)) (x1l 9 (eIx (x1l 2 (x06 10)) (x06 11)))
noncomputable def y01 : x22 := x1i (x30 3 (x0n x0g 3 (x01 (x06 0) (x01 (x06 1) (x01 (eC (.int 4)) (x0e))))))
  (x1i (x30 4 (x0n x3s 2 (x01 (x06 2) (x01 (x0n x0g 3 (x01 (x06 0) (x01 (e2 x4x (x06 1) (eC (.int 1))) (x01 (x0z 2) (x0e))))) (x0e)))))
  (x1i (x30 5 (x0n x3s 2 (x01 (x06 2) (x01 (x0n x0g 3 (x01 (x06 0) (x01 (e2 x4x (x06 1) (eC (.int 2))) (x01 (x0z 2) (x0e))))) (x0e)))))
  (x1i (x30 6 (x88 (x01 (x88 (x01 (eC (.int 0)) (x01 (eC (.int 1)) (x0e)))) (x01 (x88 (x01 (eC (.int 1)) (x01 (eC (.int 1)) (x0e)))) (x0e)))))
  (x1i (sIf (x2y (e2 dEq (x06 3) (eC (.int 0)))) (x29 (x88 (x01 (x06 6) (x01 (x06 4) (x0e))))) (x4f))
  (x1i (sIf (x2y (e2 dLt (x06 3) (eC (.int 3)))) (x1i (x30 7 (x1x (x01 (x25 1 (x7b (x0n x0y 2 (x01 (x06 6) (x01 (x06 6) (x0e))))) (x0h 12) (x1f) (x1x (x01 (x06 12) (x0e))) false) (x0e))))
  (x29 (x88 (x01 (x06 7) (x01 (x1x (x01 (x25 2 (y50 (x01 (x06 4) (x01 (x06 5) (x0e)))) (y78 (x2t (x0h 12) (x2t (x0h 13) (x81)))) (x1f) (e2 x4x (e2 y58 (eC (.int 2)) (x06 12)) (x06 13)) false) (x0e))) (x0e)))))) (x4f))
  (x1i (x30 8 (x69 (x01 (x0z 2) (x0e))))
  (x1i (x30 9 (x25 1 (x0q (x01 (x0z 2) (x0e))) (x0h 12) (x1f) (y7t 8 (x01 (x0n x0g 3 (x01 (x06 0) (x01 (e2 x4x (e2 x4x (x06 1) (eC (.int 3))) (x06 12)) (x01 (x0z 8) (x0e))))) (x0e))) false))
  (x1i (x30 7 (x25 1 (x7b (x06 2)) (x0h 12) (x1f) (x9d (x7a (x01 (eC (.int 0)) (x0e))) (x0z 2)) true))
  (x1i (x5g (x0q (x01 (x0z 2) (x0e))) (x0h 10) (x5g (x0q (x01 (x0z 2) (x0e))) (x0h 11) (x9l 7 (qIx 9 (y3a 10)) (qIx 9 (y3a 11)) (x1l 9 (eIx (x1l 2 (x06 10)) (x06 11))))))
  (x29 (x88 (x01 (x1x (x01 (x25 1 (x7b (x06 7)) (x0h 12) (x1f) (x1x (x01 (x06 12) (x0e))) false) (x0e))) (x01 (x1x (x01 (x06 9) (x0e))) (x0e))))))))))))))
noncomputable def x3r : List D -> Option (D × Nat) := fnD 12 y01
theorem x1z : FnScope ["_law_script", "_law_at", "_law_ladder_here", "_law_way", "_law_first", "_law_second", "_law_two", "_law_rows", "_law_left", "_law_name", "_law_one", "_law_other"] ["_law_script", "_law_at", "_law_ladder_here"] (x08 (top 44)) := ⟨rfl, rfl, rfl, by decide +kernel, rfl, by decide +kernel, by decide +kernel⟩
theorem y4x (B : Bt mg) (c__law_pick : Cal P w K mg base 2 "_law_pick" 3 x0g) (c__law_over : Cal P w K mg base 2 "_law_over" 2 x3s) (c__law_couples : Cal P w K mg base 1 "_law_couples" 2 x0y) (a : At K mg "_law_map" (top 44) ["_law_script", "_law_at", "_law_ladder_here"]) : Cal P w K mg base 3 "_law_map" 3 x3r :=
  Cal.mkQ (k := 2) a x1z fun f cdv A outer s H E hr =>
    x0a (x16 (i := 3) x1z.nd rfl (Or.inl rfl) (x0b c__law_pick hr (by decide) (x00 (x02 (qv 0 rfl (Or.inr (Or.inl rfl)))) (x00 (x02 (qv 1 rfl (Or.inr (Or.inl rfl)))) (x00 (x0f) (x03) x07) x05) x05)))
    (x0a (x16 (i := 4) x1z.nd rfl (Or.inl rfl) (x0b c__law_over hr (by decide) (x00 (x02 (qv 2 rfl (Or.inr (Or.inl rfl)))) (x00 (x0b c__law_pick hr (by decide) (x00 (x02 (qv 0 rfl (Or.inr (Or.inl rfl)))) (x00 (x2z (x02 (qv 1 rfl (Or.inr (Or.inl rfl)))) (x0f)) (x00 (x0t B.m_len (qv 2 rfl (Or.inr (Or.inl rfl)))) (x03) x0l) x28) x05)) (x03) x0l) x05)))
    (x0a (x16 (i := 5) x1z.nd rfl (Or.inl rfl) (x0b c__law_over hr (by decide) (x00 (x02 (qv 2 rfl (Or.inr (Or.inl rfl)))) (x00 (x0b c__law_pick hr (by decide) (x00 (x02 (qv 0 rfl (Or.inr (Or.inl rfl)))) (x00 (x2z (x02 (qv 1 rfl (Or.inr (Or.inl rfl)))) (x0f)) (x00 (x0t B.m_len (qv 2 rfl (Or.inr (Or.inl rfl)))) (x03) x0l) x28) x05)) (x03) x0l) x05)))
    (x0a (x16 (i := 6) x1z.nd rfl (Or.inl rfl) (x5n (x00 (x5n (x00 (x0f) (x00 (x0f) (x03) x07) x07)) (x00 (x5n (x00 (x0f) (x00 (x0f) (x03) x07) x07)) (x03) y3v) y3v)))
    (x0a (x2d (x8k hr (x02 (qv 3 rfl (Or.inl rfl))) (x0f)) (x0c (x0k (x5n (x00 (x02 (qv 6 rfl (Or.inl rfl))) (x00 (x02 (qv 4 rfl (Or.inl rfl))) (x03) x05) x05)))) (x1j))
    (x0a (x2d (y2e (x02 (qv 3 rfl (Or.inl rfl))) (x0f)) (x0a (x16 (i := 7) x1z.nd rfl (Or.inl rfl) (x32 B.m_tuple PyProof.Rows.boot_tuple (x00 (x2r (k := 1) (N' := ["_law_script", "_law_at", "_law_ladder_here", "_law_way", "_law_first", "_law_second", "_law_two", "_law_rows", "_law_left", "_law_name", "_law_one", "_law_other", "_law_row"]) false rfl ⟨rfl, by decide +kernel, rfl, rfl, rfl⟩ (x4i (x0b c__law_couples hr (by decide) (x00 (x02 (qv 6 rfl (Or.inl rfl))) (x00 (x02 (qv 6 rfl (Or.inl rfl))) (x03) x05) x05))) (fun _ _ _ _ => x0i (i := 12) (show 12 <= 12 by decide) (show List.Nodup (["_law_script", "_law_at", "_law_ladder_here", "_law_way", "_law_first", "_law_second", "_law_two", "_law_rows", "_law_left", "_law_name", "_law_one", "_law_other", "_law_row"] : List Str) by decide +kernel) rfl (Or.inl rfl) (Or.inr rfl)) (fun _ _ _ _ => x1r) (fun _ _ _ _ => x32 B.m_tuple PyProof.Rows.boot_tuple (x00 (x02 (qv 12)) (x03) x05))) (x03) x1u)))
    (x0c (x0k (x5n (x00 (x02 (qv 7 rfl (Or.inl rfl))) (x00 (x32 B.m_tuple PyProof.Rows.boot_tuple (x00 (x2r (k := 2) (N' := ["_law_script", "_law_at", "_law_ladder_here", "_law_way", "_law_first", "_law_second", "_law_two", "_law_rows", "_law_left", "_law_name", "_law_one", "_law_other", "_law_mine", "_law_yours"]) false rfl ⟨rfl, by decide +kernel, rfl, rfl, rfl⟩ (z1c B.m_zip (x00 (x02 (qv 4 rfl (Or.inl rfl))) (x00 (x02 (qv 5 rfl (Or.inl rfl))) (x03) x05) x05)) (fun _ _ _ _ => y0z (n := 2) rfl (x3w (x0i (i := 12) (show 12 <= 12 by decide) (show List.Nodup (["_law_script", "_law_at", "_law_ladder_here", "_law_way", "_law_first", "_law_second", "_law_two", "_law_rows", "_law_left", "_law_name", "_law_one", "_law_other", "_law_mine", "_law_yours"] : List Str) by decide +kernel) rfl (Or.inl rfl) (Or.inr rfl)) (x3w (x0i (i := 13) (show 12 <= 13 by decide) (show List.Nodup (["_law_script", "_law_at", "_law_ladder_here", "_law_way", "_law_first", "_law_second", "_law_two", "_law_rows", "_law_left", "_law_name", "_law_one", "_law_other", "_law_mine", "_law_yours"] : List Str) by decide +kernel) rfl (Or.inl rfl) (Or.inr rfl)) (x8e))) y0i) (fun _ _ _ _ => x1r) (fun _ _ _ _ => x2z (x7t (x0f) (x02 (qv 12))) (x02 (qv 13)))) (x03) x1u)) (x03) x0l) x05))))) (x1j))
    (x0a (x16 (i := 8) x1z.nd rfl (Or.inr rfl) (y0t rfl B.m_list PyProof.Rows.boot_list B.m_range (x00 (x0t B.m_len (qv 2 rfl (Or.inr (Or.inl rfl)))) (x03) x0l)))
    (x0a (x6o (i := 9) (k := 1) (N' := ["_law_script", "_law_at", "_law_ladder_here", "_law_way", "_law_first", "_law_second", "_law_two", "_law_rows", "_law_left", "_law_name", "_law_one", "_law_other", "_law_k"]) false x1z.nd rfl (Or.inl rfl) rfl rfl ⟨rfl, by decide +kernel, rfl, rfl, rfl⟩ (x0m B.m_range (x00 (x0t B.m_len (qv 2 rfl (Or.inr (Or.inl rfl)))) (x03) x0l)) (fun _ _ _ _ => x0i (i := 12) (show 12 <= 12 by decide) (show List.Nodup (["_law_script", "_law_at", "_law_ladder_here", "_law_way", "_law_first", "_law_second", "_law_two", "_law_rows", "_law_left", "_law_name", "_law_one", "_law_other", "_law_k"] : List Str) by decide +kernel) rfl (Or.inl rfl) (Or.inr rfl)) (fun _ _ _ _ => x1r) (fun _ _ _ _ => z0m (qv 8) (x00 (x0b c__law_pick hr (by decide) (x00 (x02 (qv 0)) (x00 (x2z (x2z (x02 (qv 1)) (x0f)) (x02 (qv 12))) (x00 (x0t B.m_len (qv 8)) (x03) x0l) x28) x05)) (x03) x0l)))
    (x0a (x6o (i := 7) (k := 1) (N' := ["_law_script", "_law_at", "_law_ladder_here", "_law_way", "_law_first", "_law_second", "_law_two", "_law_rows", "_law_left", "_law_name", "_law_one", "_law_other", "_law_row"]) true x1z.nd rfl (Or.inl rfl) rfl rfl ⟨rfl, by decide +kernel, rfl, rfl, rfl⟩ (x4i (x02 (qv 2 rfl (Or.inr (Or.inl rfl))))) (fun _ _ _ _ => x0i (i := 12) (show 12 <= 12 by decide) (show List.Nodup (["_law_script", "_law_at", "_law_ladder_here", "_law_way", "_law_first", "_law_second", "_law_two", "_law_rows", "_law_left", "_law_name", "_law_one", "_law_other", "_law_row"] : List Str) by decide +kernel) rfl (Or.inl rfl) (Or.inr rfl)) (fun _ _ _ _ => x1r) (fun _ _ _ _ => y60 (x3j (x00 (x0f) (x03) x07)) (x0t B.m_len (qv 2))))
    (x0a (x2c PassesOwn.never rfl (x0m B.m_range (x00 (x0t B.m_len (qv 2 rfl (Or.inr (Or.inl rfl)))) (x03) x0l)) (x0i (i := 10) (show 0 <= 10 by decide) x1z.nd rfl (Or.inl rfl)) (x0c (x2c PassesOwn.never rfl (x0m B.m_range (x00 (x0t B.m_len (qv 2 rfl (Or.inr (Or.inl rfl)))) (x03) x0l)) (x0i (i := 11) (show 0 <= 11 by decide) x1z.nd rfl (Or.inl rfl)) (x0c (y3s (qv 7 rfl (Or.inl rfl)) (y89 (qv 9 rfl (Or.inl rfl)) (y46 (qv 10 rfl (Or.inl rfl)))) (y89 (qv 9 rfl (Or.inl rfl)) (y46 (qv 11 rfl (Or.inl rfl)))) (x1g (qv 9 rfl (Or.inl rfl)) (x42 (x1g (qv 2 rfl (Or.inr (Or.inl rfl))) (x02 (qv 10 rfl (Or.inl rfl)))) (x02 (qv 11 rfl (Or.inl rfl))))))))))
    (x0c (x0k (x5n (x00 (x32 B.m_tuple PyProof.Rows.boot_tuple (x00 (x2r (k := 1) (N' := ["_law_script", "_law_at", "_law_ladder_here", "_law_way", "_law_first", "_law_second", "_law_two", "_law_rows", "_law_left", "_law_name", "_law_one", "_law_other", "_law_row"]) false rfl ⟨rfl, by decide +kernel, rfl, rfl, rfl⟩ (x4i (x02 (qv 7 rfl (Or.inl rfl)))) (fun _ _ _ _ => x0i (i := 12) (show 12 <= 12 by decide) (show List.Nodup (["_law_script", "_law_at", "_law_ladder_here", "_law_way", "_law_first", "_law_second", "_law_two", "_law_rows", "_law_left", "_law_name", "_law_one", "_law_other", "_law_row"] : List Str) by decide +kernel) rfl (Or.inl rfl) (Or.inr rfl)) (fun _ _ _ _ => x1r) (fun _ _ _ _ => x32 B.m_tuple PyProof.Rows.boot_tuple (x00 (x02 (qv 12)) (x03) x05))) (x03) x1u)) (x00 (x32 B.m_tuple PyProof.Rows.boot_tuple (x00 (x02 (qv 9 rfl (Or.inl rfl))) (x03) x05)) (x03) x0l) x0l)))))))))))))
noncomputable def y3g : x22 := x1i (x30 1 (x7a (x01 (y8i ["NoMap"] "NoHouse" (x06 0)) (x01 (y8i ["NoMap"] "NoMap" (x06 0)) (x01 (y8i ["NoMap"] "NoPlace" (x06 0)) (x01 (y8i ["NoMap"] "NoRule" (x06 0)) (x0e)))))))
  (x1i (y0x (z6w 1 (x7a (x01 (y8i ["NoMap"] "NoStep" (x06 0)) (x01 (y8i ["NoMap"] "TooGreat" (x06 0)) (x0e))))))
  (x1i (sIf (y54 (x2y (e2 dNe (z6x (x06 1) (x01 (eC (.bl true)) (x0e))) (eC (.int 1)))) (x45 (x8q (z6v (x06 0))))) (x29 (eC (.str "wrong"))) (x4f))
  (x29 (eIx (x7a (x01 (eC (.str "no house")) (x01 (eC (.str "no map")) (x01 (eC (.str "no place")) (x01 (eC (.str "no rule")) (x01 (eC (.str "no step")) (x01 (eC (.str "too great")) (x0e)))))))) (y10 (x06 1) (x01 (eC (.bl true)) (x0e)))))))
noncomputable def x4y : List D -> Option (D × Nat) := fnD 2 y3g
theorem x7u : FnScope ["_law_kept", "_law_kinds"] ["_law_kept"] (x08 (top 45)) := ⟨rfl, rfl, rfl, by decide +kernel, rfl, by decide +kernel, by decide +kernel⟩
theorem y2m (B : Bt mg) (T : Xt K mg)  (a : At K mg "_law_word" (top 45) ["_law_kept"]) : Cal P w K mg base 1 "_law_word" 1 x4y :=
  Cal.mkQ (k := 0) a x7u fun f cdv A outer s H E hr =>
    x0a (x16 (i := 1) x7u.nd rfl (Or.inl rfl) (x3j (x00 (y03 T.i_NoHouse B.m_isinstance (x02 (qv 0 rfl (Or.inl rfl)))) (x00 (y03 T.i_NoMap B.m_isinstance (x02 (qv 0 rfl (Or.inl rfl)))) (x00 (y03 T.i_NoPlace B.m_isinstance (x02 (qv 0 rfl (Or.inl rfl)))) (x00 (y03 T.i_NoRule B.m_isinstance (x02 (qv 0 rfl (Or.inl rfl)))) (x03) x0l) x0l) x0l) x0l)))
    (x0a (x66 (y6o (qv 1 rfl (Or.inl rfl)) (x3j (x00 (y03 T.i_NoStep B.m_isinstance (x02 (qv 0 rfl (Or.inl rfl)))) (x00 (y03 T.i_TooGreat B.m_isinstance (x02 (qv 0 rfl (Or.inl rfl)))) (x03) x0l) x0l))))
    (x0a (x2d (y3k (x8l (x6v hr (z27 hr (x02 (qv 1 rfl (Or.inl rfl))) (x00 (x3y) (x03) x07)) (x0f)) (x6f (x4m (x4h (z4x B.m_isinstance B.m_ValueError (x02 (qv 0 rfl (Or.inl rfl))))))))) (x0c (x0k (x7x))) (x1j))
    (x0c (x0k (x42 (x3j (x00 (x7x) (x00 (x7x) (x00 (x7x) (x00 (x7x) (x00 (x7x) (x00 (x7x) (x03) x07) x07) x07) x07) x07) x07)) (y77 hr (x02 (qv 1 rfl (Or.inl rfl))) (x00 (x3y) (x03) x07)))))))
noncomputable def x9u : x22 := x29 (y7r (z39 .int (x06 0)) (z70 (z39 .bool (x06 0))))
noncomputable def x4r : List D -> Option (D × Nat) := fnD 1 x9u
theorem y35 : FnScope ["thing"] ["thing"] (x08 (top 9)) := ⟨rfl, rfl, rfl, by decide +kernel, rfl, by decide +kernel, by decide +kernel⟩
theorem y4r (B : Bt mg)  (a : At K mg "is_whole" (top 9) ["thing"]) : Cal P w K mg base 1 "is_whole" 1 x4r :=
  Cal.mkQ (k := 0) a y35 fun f cdv A outer s H E hr =>
    x0c (x0k (y42 (y4b .int B.m_isinstance B.m_int PyProof.Rows.boot_int (x02 (qv 0 rfl (Or.inl rfl)))) (y4c (z4m (y4b .bool B.m_isinstance B.m_bool PyProof.Rows.boot_bool (x02 (qv 0 rfl (Or.inl rfl))))))))
noncomputable def x6a : x22 := x29 (y7r (x0n x4r 1 (x01 (x06 0) (x0e))) (eCh dLe dLt (eC (.int 0)) (x06 0) (x06 1)))
noncomputable def x2l : List D -> Option (D × Nat) := fnD 2 x6a
theorem x8r : FnScope ["thing", "many"] ["thing", "many"] (x08 (top 10)) := ⟨rfl, rfl, rfl, by decide +kernel, rfl, by decide +kernel, by decide +kernel⟩
theorem x9c (B : Bt mg) (c_is_whole : Cal P w K mg base 1 "is_whole" 1 x4r) (a : At K mg "is_number_of" (top 10) ["thing", "many"]) : Cal P w K mg base 2 "is_number_of" 2 x2l :=
  Cal.mkQ (k := 1) a x8r fun f cdv A outer s H E hr =>
    x0c (x0k (y42 (x0b c_is_whole hr (by decide) (x00 (x02 (qv 0 rfl (Or.inl rfl))) (x03) x05)) (y4c (y3m (x0f) (x02 (qv 0 rfl (Or.inl rfl))) (x02 (qv 1 rfl (Or.inl rfl)))))))
noncomputable def x6d : x22 := x1i (sIf (y54 (x45 (x8q (z39 .tuple (x06 0)))) (x2y (e2 dNe (x0z 0) (x06 1)))) (x29 (eC (.bl false))) (x4f))
  (x29 (eB y75 (x01 (x25 1 (x7b (x06 0)) (x0h 3) (x1f) (x0n x2l 2 (x01 (x06 3) (x01 (x06 2) (x0e)))) false) (x0e))))
noncomputable def x1k : List D -> Option (D × Nat) := fnD 3 x6d
theorem y17 : FnScope ["thing", "length", "many"] ["thing", "length", "many"] (x08 (top 11)) := ⟨rfl, rfl, rfl, by decide +kernel, rfl, by decide +kernel, by decide +kernel⟩
theorem y36 (B : Bt mg) (c_is_number_of : Cal P w K mg base 2 "is_number_of" 2 x2l) (a : At K mg "is_row_of" (top 11) ["thing", "length", "many"]) : Cal P w K mg base 3 "is_row_of" 3 x1k :=
  Cal.mkQ (k := 2) a y17 fun f cdv A outer s H E hr =>
    x0a (x2d (y3k (x8l (x4m (x4h (y4b .tuple B.m_isinstance B.m_tuple PyProof.Rows.boot_tuple (x02 (qv 0 rfl (Or.inl rfl)))))) (x6f (x6v hr (x0t B.m_len (qv 0 rfl (Or.inl rfl))) (x02 (qv 1 rfl (Or.inl rfl))))))) (x0c (x0k (x3y))) (x1j))
    (x0c (x0k (y6i rfl B.m_all (x00 (x2r (k := 1) (N' := ["thing", "length", "many", "part"]) false rfl ⟨rfl, by decide +kernel, rfl, rfl, rfl⟩ (x4i (x02 (qv 0 rfl (Or.inl rfl)))) (fun _ _ _ _ => x0i (i := 3) (show 3 <= 3 by decide) (show List.Nodup (["thing", "length", "many", "part"] : List Str) by decide +kernel) rfl (Or.inl rfl) (Or.inr rfl)) (fun _ _ _ _ => x1r) (fun _ _ _ _ => x0b c_is_number_of hr (by decide) (x00 (x02 (qv 3)) (x00 (x02 (qv 2)) (x03) x05) x05))) (x03) x1u))))
noncomputable abbrev x58 : x22 := x5g (x0q (x01 (x06 3) (x0e))) (x0h 5) (sIf (x2y (e2 dNe (x1l 2 (eIx (x1l 0 (x06 4)) (x06 5))) (eIx (x1l 1 (x1l 2 (x06 4))) (x1l 2 (x06 5))))) (x29 (eC (.bl false))) (x4f))
noncomputable abbrev x57 : x22 := sIf (x2y (e2 dNe (x1l 2 (eIx (x1l 0 (x06 4)) (x06 5))) (eIx (x1l 1 (x1l 2 (x06 4))) (x1l 2 (x06 5))))) (x29 (eC (.bl false))) (x4f)
noncomputable def x3l : x22 := x1i (x30 3 (x0z 0))
  (x1i (x5g (x0q (x01 (x06 3) (x0e))) (x0h 4) (x5g (x0q (x01 (x06 3) (x0e))) (x0h 5) (sIf (x2y (e2 dNe (x1l 2 (eIx (x1l 0 (x06 4)) (x06 5))) (eIx (x1l 1 (x1l 2 (x06 4))) (x1l 2 (x06 5))))) (x29 (eC (.bl false))) (x4f))))
  (x29 (eC (.bl true))))
noncomputable def x1e : List D -> Option (D × Nat) := fnD 6 x3l
theorem x1q : FnScope ["ladder", "other", "table", "many", "x", "y"] ["ladder", "other", "table"] (x08 (top 24)) := ⟨rfl, rfl, rfl, by decide +kernel, rfl, by decide +kernel, by decide +kernel⟩
theorem x5i (B : Bt mg)  (a : At K mg "leads_joins_to_joins" (top 24) ["ladder", "other", "table"]) : Cal P w K mg base 1 "leads_joins_to_joins" 3 x1e :=
  Cal.mkQ (k := 0) a x1q fun f cdv A outer s H E hr =>
    x0a (x16 (i := 3) x1q.nd rfl (Or.inl rfl) (x0t B.m_len (qv 0 rfl (Or.inl rfl))))
    (x0a (x2c PassesOwn.never rfl (x0m B.m_range (x00 (x02 (qv 3 rfl (Or.inl rfl))) (x03) x05)) (x0i (i := 4) (show 0 <= 4 by decide) x1q.nd rfl (Or.inl rfl)) (x0c (x2c PassesOwn.never rfl (x0m B.m_range (x00 (x02 (qv 3 rfl (Or.inl rfl))) (x03) x05)) (x0i (i := 5) (show 0 <= 5 by decide) x1q.nd rfl (Or.inl rfl)) (x0c (x2d (x6v hr (x1g (qv 2 rfl (Or.inl rfl)) (x42 (x1g (qv 0 rfl (Or.inl rfl)) (x02 (qv 4 rfl (Or.inl rfl)))) (x02 (qv 5 rfl (Or.inl rfl))))) (x42 (x1g (qv 1 rfl (Or.inl rfl)) (x1g (qv 2 rfl (Or.inl rfl)) (x02 (qv 4 rfl (Or.inl rfl))))) (x1g (qv 2 rfl (Or.inl rfl)) (x02 (qv 5 rfl (Or.inl rfl)))))) (x0c (x0k (x3y))) (x1j))))))
    (x0c (x0k (x3y))))
noncomputable def x4k : x22 := x29 (z18 (x01 (x06 0) (x0e)))
noncomputable def x1h : List D -> Option (D × Nat) := fnD 1 x4k
theorem x8y : FnScope ["many"] ["many"] (x08 (top 18)) := ⟨rfl, rfl, rfl, by decide +kernel, rfl, by decide +kernel, by decide +kernel⟩
theorem x9k (B : Bt mg)  (a : At K mg "row_of_least" (top 18) ["many"]) : Cal P w K mg base 1 "row_of_least" 1 x1h :=
  Cal.mkQ (k := 0) a x8y fun f cdv A outer s H E hr =>
    x0c (x0k (z2l rfl B.m_tuple PyProof.Rows.boot_tuple B.m_range (x00 (x02 (qv 0 rfl (Or.inl rfl))) (x03) x05)))
noncomputable def x9y : x22 := x29 (y3z (x06 0) (x01 (x0n x1h 1 (x01 (x0z 0) (x0e))) (x0e)))
noncomputable def x3a : List D -> Option (D × Nat) := fnD 1 x9y
theorem y3e : FnScope ["ladder"] ["ladder"] (x08 (top 20)) := ⟨rfl, rfl, rfl, by decide +kernel, rfl, by decide +kernel, by decide +kernel⟩
theorem y52 (B : Bt mg) (c_row_of_least : Cal P w K mg base 1 "row_of_least" 1 x1h) (a : At K mg "least_of" (top 20) ["ladder"]) : Cal P w K mg base 2 "least_of" 1 x3a :=
  Cal.mkQ (k := 1) a y3e fun f cdv A outer s H E hr =>
    x0c (x0k (y9b hr (x02 (qv 0 rfl (Or.inl rfl))) (x00 (x0b c_row_of_least hr (by decide) (x00 (x0t B.m_len (qv 0 rfl (Or.inl rfl))) (x03) x0l)) (x03) x0l)))
noncomputable def y49 : x22 := x1i (sIf (x45 (x8q (x0n x1k 3 (x01 (x06 2) (x01 (x0z 0) (x01 (x0z 1) (x0e))))))) (x29 (eC (.bl false))) (x4f))
  (x29 (y7r (x0n x1e 3 (x01 (x06 0) (x01 (x06 1) (x01 (x06 2) (x0e))))) (e2 dEq (x1l 2 (x0n x3a 1 (x01 (x06 0) (x0e)))) (x0n x3a 1 (x01 (x06 1) (x0e))))))
noncomputable def x2x : List D -> Option (D × Nat) := fnD 3 y49
theorem y7b : FnScope ["ladder", "other", "thing"] ["ladder", "other", "thing"] (x08 (top 28)) := ⟨rfl, rfl, rfl, by decide +kernel, rfl, by decide +kernel, by decide +kernel⟩
theorem y9w (B : Bt mg) (c_is_row_of : Cal P w K mg base 3 "is_row_of" 3 x1k) (c_leads_joins_to_joins : Cal P w K mg base 1 "leads_joins_to_joins" 3 x1e) (c_least_of : Cal P w K mg base 2 "least_of" 1 x3a) (a : At K mg "is_map" (top 28) ["ladder", "other", "thing"]) : Cal P w K mg base 4 "is_map" 3 x2x :=
  Cal.mkQ (k := 3) a y7b fun f cdv A outer s H E hr =>
    x0a (x2d (x4m (x4h (x0b c_is_row_of hr (by decide) (x00 (x02 (qv 2 rfl (Or.inl rfl))) (x00 (x0t B.m_len (qv 0 rfl (Or.inl rfl))) (x00 (x0t B.m_len (qv 1 rfl (Or.inl rfl))) (x03) x0l) x0l) x05)))) (x0c (x0k (x3y))) (x1j))
    (x0c (x0k (y42 (x0b c_leads_joins_to_joins hr (by decide) (x00 (x02 (qv 0 rfl (Or.inl rfl))) (x00 (x02 (qv 1 rfl (Or.inl rfl))) (x00 (x02 (qv 2 rfl (Or.inl rfl))) (x03) x05) x05) x05)) (y4c (y3l hr (x1g (qv 2 rfl (Or.inl rfl)) (x0b c_least_of hr (by decide) (x00 (x02 (qv 0 rfl (Or.inl rfl))) (x03) x05))) (x0b c_least_of hr (by decide) (x00 (x02 (qv 1 rfl (Or.inl rfl))) (x03) x05)))))))
noncomputable def x5k : x22 := sIf (x45 (x8q (x0n x2x 3 (x01 (x06 0) (x01 (x06 1) (x01 (x06 2) (x0e))))))) (y7k) (x4f)
noncomputable def x2q : List D -> Option (D × Nat) := fnD 3 x5k
theorem x5e : FnScope ["ladder", "other", "thing"] ["ladder", "other", "thing"] (x08 (top 29)) := ⟨rfl, rfl, rfl, by decide +kernel, rfl, by decide +kernel, by decide +kernel⟩
theorem x92 (B : Bt mg) (c_is_map : Cal P w K mg base 4 "is_map" 3 x2x) (a : At K mg "refuse_no_map" (top 29) ["ladder", "other", "thing"]) : Cal P w K mg base 5 "refuse_no_map" 3 x2q :=
  Cal.mkQ (k := 4) a x5e fun f cdv A outer s H E hr =>
    x0c (x2d (x4m (x4h (x0b c_is_map hr (by decide) (x00 (x02 (qv 0 rfl (Or.inl rfl))) (x00 (x02 (qv 1 rfl (Or.inl rfl))) (x00 (x02 (qv 2 rfl (Or.inl rfl))) (x03) x05) x05) x05)))) (x0c (y68)) (x1j))
noncomputable def x5j : y8r := xIf (x45 (x8q (x0n x2x 3 (x01 (x06 0) (x01 (x06 1) (x01 (x06 2) (x0e))))))) "NoMap"
noncomputable def x2i : List D -> Option Str := fnX 3 x5j
theorem x86 (B : Bt mg) (T : Xt K mg) (c_is_map : Cal P w K mg base 4 "is_map" 3 x2x) (a : At K mg "refuse_no_map" (top 29) ["ladder", "other", "thing"]) : y5e P w K mg base 5 "refuse_no_map" 3 x2i :=
  y5e.mk (k := 4) a x5e fun f cdv A outer s H E hr =>
    z78 hr T.x (x4m (x4h (x0b c_is_map hr (by decide) (x00 (x02 (qv 0 rfl (Or.inl rfl))) (x00 (x02 (qv 1 rfl (Or.inl rfl))) (x00 (x02 (qv 2 rfl (Or.inl rfl))) (x03) x05) x05) x05))))
noncomputable def x7q : x22 := x1i (x30 2 (x0n x3a 1 (x01 (x06 0) (x0e))))
  (x1i (x5g (x7b (x06 1)) (x0h 3) (x30 2 (eIx (x1l 0 (x06 2)) (x06 3))))
  (x29 (x06 2)))
noncomputable def x38 : List D -> Option (D × Nat) := fnD 4 x7q
theorem x41 : FnScope ["ladder", "worths", "joined", "worth"] ["ladder", "worths"] (x08 (top 22)) := ⟨rfl, rfl, rfl, by decide +kernel, rfl, by decide +kernel, by decide +kernel⟩
theorem y1s (B : Bt mg) (c_least_of : Cal P w K mg base 2 "least_of" 1 x3a) (a : At K mg "joined_all" (top 22) ["ladder", "worths"]) : Cal P w K mg base 3 "joined_all" 2 x38 :=
  Cal.mkQ (k := 2) a x41 fun f cdv A outer s H E hr =>
    x0a (x16 (i := 2) x41.nd rfl (Or.inl rfl) (x0b c_least_of hr (by decide) (x00 (x02 (qv 0 rfl (Or.inl rfl))) (x03) x05)))
    (x0a (x2c PassesOwn.never rfl (x4i (x02 (qv 1 rfl (Or.inl rfl)))) (x0i (i := 3) (show 0 <= 3 by decide) x41.nd rfl (Or.inl rfl)) (x0c (x16 (i := 2) x41.nd rfl (Or.inl rfl) (x42 (x1g (qv 0 rfl (Or.inl rfl)) (x02 (qv 2 rfl (Or.inl rfl)))) (x02 (qv 3 rfl (Or.inl rfl)))))))
    (x0c (x0k (x02 (qv 2 rfl (Or.inl rfl))))))
noncomputable def x9v : x22 := x29 (e2 dEq (eIx (x1l 0 (x06 1)) (x06 2)) (x06 2))
noncomputable def x4p : List D -> Option (D × Nat) := fnD 3 x9v
theorem y2w : FnScope ["ladder", "one", "other"] ["ladder", "one", "other"] (x08 (top 21)) := ⟨rfl, rfl, rfl, by decide +kernel, rfl, by decide +kernel, by decide +kernel⟩
theorem y4p (B : Bt mg)  (a : At K mg "is_below" (top 21) ["ladder", "one", "other"]) : Cal P w K mg base 1 "is_below" 3 x4p :=
  Cal.mkQ (k := 0) a y2w fun f cdv A outer s H E hr =>
    x0c (x0k (y3l hr (x42 (x1g (qv 0 rfl (Or.inl rfl)) (x02 (qv 1 rfl (Or.inl rfl)))) (x02 (qv 2 rfl (Or.inl rfl)))) (x02 (qv 2 rfl (Or.inl rfl)))))
noncomputable def x98 : x22 := x29 (x25 2 (y6r (x01 (x06 1) (x0e))) (y78 (x2t (x0h 3) (x2t (x0h 4) (x81)))) (x8q (x0n x4p 3 (x01 (x06 0) (x01 (x06 4) (x01 (x06 2) (x0e)))))) (x06 3) false)
noncomputable def x3p : List D -> Option (D × Nat) := fnD 3 x98
theorem y16 : FnScope ["ladder", "table", "worth"] ["ladder", "table", "worth"] (x08 (top 25)) := ⟨rfl, rfl, rfl, by decide +kernel, rfl, by decide +kernel, by decide +kernel⟩
theorem y2y (B : Bt mg) (c_is_below : Cal P w K mg base 1 "is_below" 3 x4p) (a : At K mg "led_below" (top 25) ["ladder", "table", "worth"]) : Cal P w K mg base 2 "led_below" 3 x3p :=
  Cal.mkQ (k := 1) a y16 fun f cdv A outer s H E hr =>
    x0c (x0k (x2r (k := 2) (N' := ["ladder", "table", "worth", "x", "led"]) false rfl ⟨rfl, by decide +kernel, rfl, rfl, rfl⟩ (y7w B.m_enumerate (x00 (x02 (qv 1 rfl (Or.inl rfl))) (x03) x05)) (fun _ _ _ _ => y0z (n := 2) rfl (x3w (x0i (i := 3) (show 3 <= 3 by decide) (show List.Nodup (["ladder", "table", "worth", "x", "led"] : List Str) by decide +kernel) rfl (Or.inl rfl) (Or.inr rfl)) (x3w (x0i (i := 4) (show 3 <= 4 by decide) (show List.Nodup (["ladder", "table", "worth", "x", "led"] : List Str) by decide +kernel) rfl (Or.inl rfl) (Or.inr rfl)) (x8e))) y0i) (fun _ _ _ _ => y0g (x4h (x0b c_is_below hr (by decide) (x00 (x02 (qv 0)) (x00 (x02 (qv 4)) (x00 (x02 (qv 2)) (x03) x05) x05) x05)))) (fun _ _ _ _ => x02 (qv 3))))
noncomputable def y1v : x22 := x1i (y0x (x0n x2q 3 (x01 (x06 0) (x01 (x06 1) (x01 (x06 2) (x0e))))))
  (x29 (x1x (x01 (x25 1 (x0q (x01 (x0z 1) (x0e))) (x0h 3) (x1f) (x0n x38 2 (x01 (x06 0) (x01 (x0n x3p 3 (x01 (x06 1) (x01 (x06 2) (x01 (x06 3) (x0e))))) (x0e)))) false) (x0e))))
noncomputable def x49 : List D -> Option (D × Nat) := fnD 3 y1v
theorem x9m : FnScope ["ladder", "other", "mapping"] ["ladder", "other", "mapping"] (x08 (top 30)) := ⟨rfl, rfl, rfl, by decide +kernel, rfl, by decide +kernel, by decide +kernel⟩
theorem y61 (B : Bt mg) (c_refuse_no_map : Cal P w K mg base 5 "refuse_no_map" 3 x2q) (c_joined_all : Cal P w K mg base 3 "joined_all" 2 x38) (c_led_below : Cal P w K mg base 2 "led_below" 3 x3p) (a : At K mg "back_of" (top 30) ["ladder", "other", "mapping"]) : Cal P w K mg base 6 "back_of" 3 x49 :=
  Cal.mkQ (k := 5) a x9m fun f cdv A outer s H E hr =>
    x0a (x66 (x0b c_refuse_no_map hr (by decide) (x00 (x02 (qv 0 rfl (Or.inr (Or.inl rfl)))) (x00 (x02 (qv 1 rfl (Or.inr (Or.inl rfl)))) (x00 (x02 (qv 2 rfl (Or.inr (Or.inl rfl)))) (x03) x05) x05) x05)))
    (x0c (x0k (x32 B.m_tuple PyProof.Rows.boot_tuple (x00 (x2r (k := 1) (N' := ["ladder", "other", "mapping", "worth"]) false rfl ⟨rfl, by decide +kernel, rfl, rfl, rfl⟩ (x0m B.m_range (x00 (x0t B.m_len (qv 1 rfl (Or.inr (Or.inl rfl)))) (x03) x0l)) (fun _ _ _ _ => x0i (i := 3) (show 3 <= 3 by decide) (show List.Nodup (["ladder", "other", "mapping", "worth"] : List Str) by decide +kernel) rfl (Or.inl rfl) (Or.inr rfl)) (fun _ _ _ _ => x1r) (fun _ _ _ _ => x0b c_joined_all hr (by decide) (x00 (x02 (qv 0)) (x00 (x0b c_led_below hr (by decide) (x00 (x02 (qv 1)) (x00 (x02 (qv 2)) (x00 (x02 (qv 3)) (x03) x05) x05) x05)) (x03) x0l) x05))) (x03) x1u))))
noncomputable def y1m : y8r := y56 x2i 3 (x01 (x06 0) (x01 (x06 1) (x01 (x06 2) (x0e))))
noncomputable def x3o : List D -> Option Str := fnX 3 y1m
theorem y4o (B : Bt mg) (T : Xt K mg)  (cx_refuse_no_map : y5e P w K mg base 5 "refuse_no_map" 3 x2i) (a : At K mg "back_of" (top 30) ["ladder", "other", "mapping"]) : y5e P w K mg base 6 "back_of" 3 x3o :=
  y5e.mk (k := 5) a x9m fun f cdv A outer s H E hr =>
    z21 cx_refuse_no_map hr (by decide) (x00 (x02 (qv 0 rfl (Or.inr (Or.inl rfl)))) (x00 (x02 (qv 1 rfl (Or.inr (Or.inl rfl)))) (x00 (x02 (qv 2 rfl (Or.inr (Or.inl rfl)))) (x03) x05) x05) x05)
noncomputable def x6l : x22 := x1i (x30 3 (eC .non))
  (x1i (x30 4 (eC .non))
  (x1i (z3q ["NoMap"] x49 x3o 3 (x01 (x06 0) (x01 (x06 1) (x01 (x06 2) (x0e)))) 4 5 3)
  (x1i (sIf (x2y (e2 z41 (x06 3) (eC .non))) (x29 (x06 4)) (x4f))
  (x29 (x0n x4y 1 (x01 (x06 3) (x0e)))))))
noncomputable def x24 : List D -> Option (D × Nat) := fnD 6 x6l
theorem x3x : FnScope ["_law_ladder_here", "_law_other", "_law_mapping", "_law_kept", "_law_answer", "e"] ["_law_ladder_here", "_law_other", "_law_mapping"] (x08 (top 47)) := ⟨rfl, rfl, rfl, by decide +kernel, rfl, by decide +kernel, by decide +kernel⟩
theorem y37 (B : Bt mg) (T : Xt K mg) (c_back_of : Cal P w K mg base 6 "back_of" 3 x49) (c__law_word : Cal P w K mg base 1 "_law_word" 1 x4y) (cx_back_of : y5e P w K mg base 6 "back_of" 3 x3o) (a : At K mg "_law_back" (top 47) ["_law_ladder_here", "_law_other", "_law_mapping"]) : Cal P w K mg base 7 "_law_back" 3 x24 :=
  Cal.mkQ (k := 6) a x3x fun f cdv A outer s H E hr =>
    x0a (x16 (i := 3) x3x.nd rfl (Or.inl rfl) (y47))
    (x0a (x16 (i := 4) x3x.nd rfl (Or.inl rfl) (y47))
    (x0a (z25 (ie := 5) (ik := 3) T.u cx_back_of hr (by decide) (x00 (x02 (qv 0 rfl (Or.inl rfl))) (x00 (x02 (qv 1 rfl (Or.inl rfl))) (x00 (x02 (qv 2 rfl (Or.inl rfl))) (x03) x05) x05) x05) (x16 (i := 4) x3x.nd rfl (Or.inl rfl) (x0b c_back_of hr (by decide) (x00 (x02 (qv 0 rfl (Or.inl rfl))) (x00 (x02 (qv 1 rfl (Or.inl rfl))) (x00 (x02 (qv 2 rfl (Or.inl rfl))) (x03) x05) x05) x05))) x3x.nd rfl rfl)
    (x0a (x2d (z28 (x02 (qv 3 rfl (Or.inl rfl))) (y47)) (x0c (x0k (x02 (qv 4 rfl (Or.inl rfl))))) (x1j))
    (x0c (x0k (x0b c__law_word hr (by decide) (x00 (x02 (qv 3 rfl (Or.inl rfl))) (x03) x05)))))))
noncomputable def y6g : x22 := x29 (x1x (x01 (x25 1 (x7b (x06 0)) (x0h 2) (x1f) (x1l 1 (x06 2)) false) (x0e)))
noncomputable def x8z : List D -> Option (D × Nat) := fnD 2 y6g
theorem y7x : FnScope ["first", "then"] ["first", "then"] (x08 (top 26)) := ⟨rfl, rfl, rfl, by decide +kernel, rfl, by decide +kernel, by decide +kernel⟩
theorem z2g (B : Bt mg)  (a : At K mg "after" (top 26) ["first", "then"]) : Cal P w K mg base 1 "after" 2 x8z :=
  Cal.mkQ (k := 0) a y7x fun f cdv A outer s H E hr =>
    x0c (x0k (x32 B.m_tuple PyProof.Rows.boot_tuple (x00 (x2r (k := 1) (N' := ["first", "then", "worth"]) false rfl ⟨rfl, by decide +kernel, rfl, rfl, rfl⟩ (x4i (x02 (qv 0 rfl (Or.inl rfl)))) (fun _ _ _ _ => x0i (i := 2) (show 2 <= 2 by decide) (show List.Nodup (["first", "then", "worth"] : List Str) by decide +kernel) rfl (Or.inl rfl) (Or.inr rfl)) (fun _ _ _ _ => x1r) (fun _ _ _ _ => x1g (qv 1) (x02 (qv 2)))) (x03) x1u)))
noncomputable def x9a : x22 := x29 (x0n x8z 2 (x01 (x06 0) (x01 (x06 1) (x0e))))
noncomputable def x3t : List D -> Option (D × Nat) := fnD 2 x9a
theorem y1g : FnScope ["mapping", "then"] ["mapping", "then"] (x08 (top 31)) := ⟨rfl, rfl, rfl, by decide +kernel, rfl, by decide +kernel, by decide +kernel⟩
theorem y2j (B : Bt mg) (c_after : Cal P w K mg base 1 "after" 2 x8z) (a : At K mg "after_map" (top 31) ["mapping", "then"]) : Cal P w K mg base 2 "after_map" 2 x3t :=
  Cal.mkQ (k := 1) a y1g fun f cdv A outer s H E hr =>
    x0c (x0k (x0b c_after hr (by decide) (x00 (x02 (qv 0 rfl (Or.inl rfl))) (x00 (x02 (qv 1 rfl (Or.inl rfl))) (x03) x05) x05)))
noncomputable def y05 : x22 := x29 (eIx (x25 1 (x0q (x01 (x0z 0) (x0e))) (x0h 1) (x2y (e2 dEq (x5p (x01 (x1l 0 (x06 1)) (x0e))) (x69 (x01 (x0z 0) (x0e))))) (x06 1) false) (eC (.int 0)))
noncomputable def x39 : List D -> Option (D × Nat) := fnD 1 y05
theorem y3h : FnScope ["_law_ladder_here"] ["_law_ladder_here"] (x08 (top 40)) := ⟨rfl, rfl, rfl, by decide +kernel, rfl, by decide +kernel, by decide +kernel⟩
theorem y5b (B : Bt mg)  (a : At K mg "_law_low" (top 40) ["_law_ladder_here"]) : Cal P w K mg base 1 "_law_low" 1 x39 :=
  Cal.mkQ (k := 0) a y3h fun f cdv A outer s H E hr =>
    x0c (x0k (x42 (x2r (k := 1) (N' := ["_law_ladder_here", "_law_worth"]) false rfl ⟨rfl, by decide +kernel, rfl, rfl, rfl⟩ (x0m B.m_range (x00 (x0t B.m_len (qv 0 rfl (Or.inr (Or.inl rfl)))) (x03) x0l)) (fun _ _ _ _ => x0i (i := 1) (show 1 <= 1 by decide) (show List.Nodup (["_law_ladder_here", "_law_worth"] : List Str) by decide +kernel) rfl (Or.inl rfl) (Or.inr rfl)) (fun _ _ _ _ => y0g (x8k hr (y1j B.m_list PyProof.Rows.boot_list (x00 (x1g (qv 0) (x02 (qv 1))) (x03) x5s)) (y0t rfl B.m_list PyProof.Rows.boot_list B.m_range (x00 (x0t B.m_len (qv 0)) (x03) x0l)))) (fun _ _ _ _ => x02 (qv 1))) (x0f)))
noncomputable abbrev y2x : x22 := x1i (x30 4 (x25 1 (x0q (x01 (x06 3) (x0e))) (x0h 5) (x1f) (eIx (x1l 1 (x1l 2 (x06 3))) (x1l 2 (x06 5))) false))
  (sIf (x2y (e2 dNe (x25 1 (x0q (x01 (x06 3) (x0e))) (x0h 5) (x1f) (x1l 2 (eIx (x1l 0 (x06 3)) (x06 5))) false) (x06 4))) (x29 (eC (.bl false))) (x4f))
noncomputable def y06 : x22 := x1i (sIf (x2y (e2 dNe (x1l 2 (x0n x39 1 (x01 (x06 0) (x0e)))) (x0n x39 1 (x01 (x06 1) (x0e))))) (x29 (eC (.bl false))) (x4f))
  (x1i (x5g (x0q (x01 (x0z 0) (x0e))) (x0h 3) (x1i (x30 4 (x25 1 (x0q (x01 (x06 3) (x0e))) (x0h 5) (x1f) (eIx (x1l 1 (x1l 2 (x06 3))) (x1l 2 (x06 5))) false))
  (sIf (x2y (e2 dNe (x25 1 (x0q (x01 (x06 3) (x0e))) (x0h 5) (x1f) (x1l 2 (eIx (x1l 0 (x06 3)) (x06 5))) false) (x06 4))) (x29 (eC (.bl false))) (x4f))))
  (x29 (eC (.bl true))))
noncomputable def x43 : List D -> Option (D × Nat) := fnD 5 y06
theorem x6i : FnScope ["_law_ladder_here", "_law_other", "_law_thing", "_law_one", "_law_due_here"] ["_law_ladder_here", "_law_other", "_law_thing"] (x08 (top 46)) := ⟨rfl, rfl, rfl, by decide +kernel, rfl, by decide +kernel, by decide +kernel⟩
theorem y4n (B : Bt mg) (c__law_low : Cal P w K mg base 1 "_law_low" 1 x39) (a : At K mg "_law_due" (top 46) ["_law_ladder_here", "_law_other", "_law_thing"]) : Cal P w K mg base 2 "_law_due" 3 x43 :=
  Cal.mkQ (k := 1) a x6i fun f cdv A outer s H E hr =>
    x0a (x2d (x6v hr (x1g (qv 2 rfl (Or.inr (Or.inl rfl))) (x0b c__law_low hr (by decide) (x00 (x02 (qv 0 rfl (Or.inr (Or.inl rfl)))) (x03) x05))) (x0b c__law_low hr (by decide) (x00 (x02 (qv 1 rfl (Or.inr (Or.inl rfl)))) (x03) x05))) (x0c (x0k (x3y))) (x1j))
    (x0a (x2c PassesOwn.never rfl (x0m B.m_range (x00 (x0t B.m_len (qv 0 rfl (Or.inr (Or.inl rfl)))) (x03) x0l)) (x0i (i := 3) (show 0 <= 3 by decide) x6i.nd rfl (Or.inr rfl)) (x0a (x6o (i := 4) (k := 1) (N' := ["_law_ladder_here", "_law_other", "_law_thing", "_law_one", "_law_due_here", "_law_k"]) false x6i.nd rfl (Or.inl rfl) rfl rfl ⟨rfl, by decide +kernel, rfl, rfl, rfl⟩ (x0m B.m_range (x00 (x02 (qv 3 rfl (Or.inr (Or.inl rfl)))) (x03) x05)) (fun _ _ _ _ => x0i (i := 5) (show 5 <= 5 by decide) (show List.Nodup (["_law_ladder_here", "_law_other", "_law_thing", "_law_one", "_law_due_here", "_law_k"] : List Str) by decide +kernel) rfl (Or.inl rfl) (Or.inr rfl)) (fun _ _ _ _ => x1r) (fun _ _ _ _ => x42 (x1g (qv 1) (x1g (qv 2) (x02 (qv 3)))) (x1g (qv 2) (x02 (qv 5)))))
    (x0c (x2d (x6v hr (x2r (k := 1) (N' := ["_law_ladder_here", "_law_other", "_law_thing", "_law_one", "_law_due_here", "_law_k"]) false rfl ⟨rfl, by decide +kernel, rfl, rfl, rfl⟩ (x0m B.m_range (x00 (x02 (qv 3 rfl (Or.inr (Or.inl rfl)))) (x03) x05)) (fun _ _ _ _ => x0i (i := 5) (show 5 <= 5 by decide) (show List.Nodup (["_law_ladder_here", "_law_other", "_law_thing", "_law_one", "_law_due_here", "_law_k"] : List Str) by decide +kernel) rfl (Or.inl rfl) (Or.inr rfl)) (fun _ _ _ _ => x1r) (fun _ _ _ _ => x1g (qv 2) (x42 (x1g (qv 0) (x02 (qv 3))) (x02 (qv 5))))) (x02 (qv 4 rfl (Or.inl rfl)))) (x0c (x0k (x3y))) (x1j)))))
    (x0c (x0k (x3y))))
noncomputable def x2u : x22 := x1i (x30 1 (x0z 0))
  (x1i (x5g (x0q (x01 (x06 1) (x0e))) (x0h 2) (x5g (x0q (x01 (x06 1) (x0e))) (x0h 3) (x5g (x0q (x01 (x06 1) (x0e))) (x0h 4) (sIf (x2y (e2 dNe (eIx (x1l 0 (eIx (x1l 0 (x06 2)) (x06 3))) (x06 4)) (eIx (x1l 0 (x06 2)) (eIx (x1l 0 (x06 3)) (x06 4))))) (x29 (eC (.bl false))) (x4f)))))
  (x29 (eC (.bl true))))
noncomputable def x0r : List D -> Option (D × Nat) := fnD 5 x2u
theorem x19 : FnScope ["table", "many", "x", "y", "z"] ["table"] (x08 (top 17)) := ⟨rfl, rfl, rfl, by decide +kernel, rfl, by decide +kernel, by decide +kernel⟩
theorem x48 (B : Bt mg)  (a : At K mg "joins_are_from_either_end" (top 17) ["table"]) : Cal P w K mg base 1 "joins_are_from_either_end" 1 x0r :=
  Cal.mkQ (k := 0) a x19 fun f cdv A outer s H E hr =>
    x0a (x16 (i := 1) x19.nd rfl (Or.inl rfl) (x0t B.m_len (qv 0 rfl (Or.inl rfl))))
    (x0a (x2c PassesOwn.never rfl (x0m B.m_range (x00 (x02 (qv 1 rfl (Or.inl rfl))) (x03) x05)) (x0i (i := 2) (show 0 <= 2 by decide) x19.nd rfl (Or.inl rfl)) (x0c (x2c PassesOwn.never rfl (x0m B.m_range (x00 (x02 (qv 1 rfl (Or.inl rfl))) (x03) x05)) (x0i (i := 3) (show 0 <= 3 by decide) x19.nd rfl (Or.inl rfl)) (x0c (x2c PassesOwn.never rfl (x0m B.m_range (x00 (x02 (qv 1 rfl (Or.inl rfl))) (x03) x05)) (x0i (i := 4) (show 0 <= 4 by decide) x19.nd rfl (Or.inl rfl)) (x0c (x2d (x6v hr (x42 (x1g (qv 0 rfl (Or.inl rfl)) (x42 (x1g (qv 0 rfl (Or.inl rfl)) (x02 (qv 2 rfl (Or.inl rfl)))) (x02 (qv 3 rfl (Or.inl rfl))))) (x02 (qv 4 rfl (Or.inl rfl)))) (x42 (x1g (qv 0 rfl (Or.inl rfl)) (x02 (qv 2 rfl (Or.inl rfl)))) (x42 (x1g (qv 0 rfl (Or.inl rfl)) (x02 (qv 3 rfl (Or.inl rfl)))) (x02 (qv 4 rfl (Or.inl rfl)))))) (x0c (x0k (x3y))) (x1j))))))))
    (x0c (x0k (x3y))))
noncomputable def x8p : x22 := x29 (e2 dIn (x0n x1h 1 (x01 (x0z 0) (x0e))) (x06 0))
noncomputable def x33 : List D -> Option (D × Nat) := fnD 1 x8p
theorem y2f : FnScope ["table"] ["table"] (x08 (top 19)) := ⟨rfl, rfl, rfl, by decide +kernel, rfl, by decide +kernel, by decide +kernel⟩
theorem y3p (B : Bt mg) (c_row_of_least : Cal P w K mg base 1 "row_of_least" 1 x1h) (a : At K mg "has_least" (top 19) ["table"]) : Cal P w K mg base 2 "has_least" 1 x33 :=
  Cal.mkQ (k := 1) a y2f fun f cdv A outer s H E hr =>
    x0c (x0k (z7g hr (x0b c_row_of_least hr (by decide) (x00 (x0t B.m_len (qv 0 rfl (Or.inl rfl))) (x03) x0l)) (x02 (qv 0 rfl (Or.inl rfl)))))
noncomputable def x36 : x22 := x29 (eB y75 (x01 (x25 1 (x0q (x01 (x0z 0) (x0e))) (x0h 1) (x1f) (e2 dEq (eIx (x1l 0 (x06 1)) (x06 1)) (x06 1)) false) (x0e)))
noncomputable def x0x : List D -> Option (D × Nat) := fnD 1 x36
theorem x4n : FnScope ["table"] ["table"] (x08 (top 15)) := ⟨rfl, rfl, rfl, by decide +kernel, rfl, by decide +kernel, by decide +kernel⟩
theorem x4q (B : Bt mg)  (a : At K mg "joins_with_itself_stay" (top 15) ["table"]) : Cal P w K mg base 1 "joins_with_itself_stay" 1 x0x :=
  Cal.mkQ (k := 0) a x4n fun f cdv A outer s H E hr =>
    x0c (x0k (y6i rfl B.m_all (x00 (x2r (k := 1) (N' := ["table", "x"]) false rfl ⟨rfl, by decide +kernel, rfl, rfl, rfl⟩ (x0m B.m_range (x00 (x0t B.m_len (qv 0 rfl (Or.inr (Or.inl rfl)))) (x03) x0l)) (fun _ _ _ _ => x0i (i := 1) (show 1 <= 1 by decide) (show List.Nodup (["table", "x"] : List Str) by decide +kernel) rfl (Or.inl rfl) (Or.inr rfl)) (fun _ _ _ _ => x1r) (fun _ _ _ _ => y3l hr (x42 (x1g (qv 0) (x02 (qv 1))) (x02 (qv 1))) (x02 (qv 1)))) (x03) x1u)))
noncomputable def x3k : x22 := x1i (x5g (x0q (x01 (x0z 0) (x0e))) (x0h 1) (x5g (x0q (x01 (x06 1) (x0e))) (x0h 2) (sIf (x2y (e2 dNe (eIx (x1l 0 (x06 1)) (x06 2)) (eIx (x1l 0 (x06 2)) (x06 1)))) (x29 (eC (.bl false))) (x4f))))
  (x29 (eC (.bl true)))
noncomputable def x17 : List D -> Option (D × Nat) := fnD 3 x3k
theorem x2g : FnScope ["table", "x", "y"] ["table"] (x08 (top 16)) := ⟨rfl, rfl, rfl, by decide +kernel, rfl, by decide +kernel, by decide +kernel⟩
theorem x5h (B : Bt mg)  (a : At K mg "joins_are_either_way" (top 16) ["table"]) : Cal P w K mg base 1 "joins_are_either_way" 1 x17 :=
  Cal.mkQ (k := 0) a x2g fun f cdv A outer s H E hr =>
    x0a (x2c PassesOwn.never rfl (x0m B.m_range (x00 (x0t B.m_len (qv 0 rfl (Or.inl rfl))) (x03) x0l)) (x0i (i := 1) (show 0 <= 1 by decide) x2g.nd rfl (Or.inl rfl)) (x0c (x2c PassesOwn.never rfl (x0m B.m_range (x00 (x02 (qv 1 rfl (Or.inl rfl))) (x03) x05)) (x0i (i := 2) (show 0 <= 2 by decide) x2g.nd rfl (Or.inl rfl)) (x0c (x2d (x6v hr (x42 (x1g (qv 0 rfl (Or.inl rfl)) (x02 (qv 1 rfl (Or.inl rfl)))) (x02 (qv 2 rfl (Or.inl rfl)))) (x42 (x1g (qv 0 rfl (Or.inl rfl)) (x02 (qv 2 rfl (Or.inl rfl)))) (x02 (qv 1 rfl (Or.inl rfl))))) (x0c (x0k (x3y))) (x1j))))))
    (x0c (x0k (x3y)))
noncomputable def x6k : x22 := x1i (sIf (y54 (x45 (x8q (z39 .tuple (x06 0)))) (x45 (x2y (eCh dLe dLe (eC (.int 1)) (x0z 0) (eC (.int 16)))))) (x29 (eC (.bl false))) (x4f))
  (x1i (x30 1 (x0z 0))
  (x1i (sIf (x45 (x8q (eB y75 (x01 (x25 1 (x7b (x06 0)) (x0h 2) (x1f) (x0n x1k 3 (x01 (x06 2) (x01 (x06 1) (x01 (x06 1) (x0e))))) false) (x0e))))) (x29 (eC (.bl false))) (x4f))
  (x1i (sIf (y54 (x45 (x8q (x0n x0x 1 (x01 (x06 0) (x0e))))) (x45 (x8q (x0n x17 1 (x01 (x06 0) (x0e)))))) (x29 (eC (.bl false))) (x4f))
  (x29 (y7r (x0n x0r 1 (x01 (x06 0) (x0e))) (x0n x33 1 (x01 (x06 0) (x0e))))))))
noncomputable def x3u : List D -> Option (D × Nat) := fnD 2 x6k
theorem x7r : FnScope ["thing", "many"] ["thing"] (x08 (top 14)) := ⟨rfl, rfl, rfl, by decide +kernel, rfl, by decide +kernel, by decide +kernel⟩
theorem y2v (B : Bt mg) (c_is_row_of : Cal P w K mg base 3 "is_row_of" 3 x1k) (c_joins_with_itself_stay : Cal P w K mg base 1 "joins_with_itself_stay" 1 x0x) (c_joins_are_either_way : Cal P w K mg base 1 "joins_are_either_way" 1 x17) (c_joins_are_from_either_end : Cal P w K mg base 1 "joins_are_from_either_end" 1 x0r) (c_has_least : Cal P w K mg base 2 "has_least" 1 x33) (a : At K mg "is_ladder" (top 14) ["thing"]) : Cal P w K mg base 4 "is_ladder" 1 x3u :=
  Cal.mkQ (k := 3) a x7r fun f cdv A outer s H E hr =>
    x0a (x2d (y3k (x8l (x4m (x4h (y4b .tuple B.m_isinstance B.m_tuple PyProof.Rows.boot_tuple (x02 (qv 0 rfl (Or.inl rfl)))))) (x6f (x4m (y1u (x0f) (x0t B.m_len (qv 0 rfl (Or.inl rfl))) (z35 B.k_MOST_WORTHS)))))) (x0c (x0k (x3y))) (x1j))
    (x0a (x16 (i := 1) x7r.nd rfl (Or.inr rfl) (x0t B.m_len (qv 0 rfl (Or.inl rfl))))
    (x0a (x2d (x4m (x4h (y6i rfl B.m_all (x00 (x2r (k := 1) (N' := ["thing", "many", "row"]) false rfl ⟨rfl, by decide +kernel, rfl, rfl, rfl⟩ (x4i (x02 (qv 0 rfl (Or.inl rfl)))) (fun _ _ _ _ => x0i (i := 2) (show 2 <= 2 by decide) (show List.Nodup (["thing", "many", "row"] : List Str) by decide +kernel) rfl (Or.inl rfl) (Or.inr rfl)) (fun _ _ _ _ => x1r) (fun _ _ _ _ => x0b c_is_row_of hr (by decide) (x00 (x02 (qv 2)) (x00 (x02 (qv 1)) (x00 (x02 (qv 1)) (x03) x05) x05) x05))) (x03) x1u)))) (x0c (x0k (x3y))) (x1j))
    (x0a (x2d (y3k (x8l (x4m (x4h (x0b c_joins_with_itself_stay hr (by decide) (x00 (x02 (qv 0 rfl (Or.inl rfl))) (x03) x05)))) (x6f (x4m (x4h (x0b c_joins_are_either_way hr (by decide) (x00 (x02 (qv 0 rfl (Or.inl rfl))) (x03) x05))))))) (x0c (x0k (x3y))) (x1j))
    (x0c (x0k (y42 (x0b c_joins_are_from_either_end hr (by decide) (x00 (x02 (qv 0 rfl (Or.inl rfl))) (x03) x05)) (y4c (x0b c_has_least hr (by decide) (x00 (x02 (qv 0 rfl (Or.inl rfl))) (x03) x05)))))))))
noncomputable abbrev z0f : x22 := x1i (x30 8 (x0n x43 3 (x01 (x06 1) (x01 (x06 2) (x01 (x06 7) (x0e))))))
  (sIf (y54 (x2y (e2 dNe (x0n x2x 3 (x01 (x06 1) (x01 (x06 2) (x01 (x06 7) (x0e))))) (x06 8))) (x2y (e2 dEq (e2 dEq (x0n x24 3 (x01 (x06 1) (x01 (x06 2) (x01 (x06 7) (x0e))))) (eC (.str "no map"))) (x06 8)))) (x29 (eC (.bl false))) (x4f))
noncomputable abbrev z0t : x22 := x5g (x0q (x01 (x0z 2) (x0e))) (x0h 12) (x1i (x30 13 (x1l 10 (x06 12)))
  (x1i (x30 14 (e2 dEq (eIx (x1l 2 (x1l 3 (x06 11))) (x06 12)) (x06 12)))
  (sIf (x2y (e2 dNe (x06 14) (e2 dEq (eIx (x1l 1 (x06 11)) (x06 13)) (x06 13)))) (x29 (eC (.bl false))) (x4f))))
noncomputable abbrev z0p : x22 := x1i (x30 13 (x1l 10 (x06 12)))
  (x1i (x30 14 (e2 dEq (eIx (x1l 2 (x1l 3 (x06 11))) (x06 12)) (x06 12)))
  (sIf (x2y (e2 dNe (x06 14) (e2 dEq (eIx (x1l 1 (x06 11)) (x06 13)) (x06 13)))) (x29 (eC (.bl false))) (x4f)))
noncomputable def z5n : x22 := x1i (x30 1 (x0n x3e 2 (x01 (x06 0) (x01 (eC (.int 0)) (x0e)))))
  (x1i (z2i (x0n x3r 3 (x01 (x06 0) (x01 (eC (.int 20)) (x01 (x06 1) (x0e))))) (y78 (x2t (x0h 2) (x2t (x0h 3) (x81)))))
  (x1i (sIf (y54 (x2y (e2 x5w (x0n x3u 1 (x01 (x06 2) (x0e))) (eC (.bl true)))) (x2y (e2 x5w (x0n x2x 3 (x01 (x06 1) (x01 (x06 2) (x01 (x06 3) (x0e))))) (eC (.bl true))))) (x29 (eC (.bl false))) (x4f))
  (x1i (x30 4 (x1x (x01 (x25 1 (x0q (x01 (x0z 1) (x0e))) (x0h 18) (x1f) (x0n x0g 3 (x01 (x06 0) (x01 (e2 x4x (eC (.int 40)) (x06 18)) (x01 (x0z 2) (x0e))))) false) (x0e))))
  (x1i (x30 5 (x0n x0g 3 (x01 (x06 0) (x01 (eC (.int 50)) (x01 (x0z 1) (x0e))))))
  (x1i (x30 6 (y6m (y6m (eSl (x06 3) (x8i) (x8a (x06 5))) (x88 (x01 (x0n x0g 3 (x01 (x06 0) (x01 (eC (.int 51)) (x01 (x0z 2) (x0e))))) (x0e)))) (eSl (x06 3) (x8a (e2 x4x (x06 5) (eC (.int 1)))) (x8i))))
  (x1i (x5g (x7b (x88 (x01 (x06 4) (x01 (x06 6) (x0e))))) (x0h 7) (x1i (x30 8 (x0n x43 3 (x01 (x06 1) (x01 (x06 2) (x01 (x06 7) (x0e))))))
  (sIf (y54 (x2y (e2 dNe (x0n x2x 3 (x01 (x06 1) (x01 (x06 2) (x01 (x06 7) (x0e))))) (x06 8))) (x2y (e2 dEq (e2 dEq (x0n x24 3 (x01 (x06 1) (x01 (x06 2) (x01 (x06 7) (x0e))))) (eC (.str "no map"))) (x06 8)))) (x29 (eC (.bl false))) (x4f))))
  (x1i (x30 9 (eIx (x7a (x01 (x5p (x01 (x06 3) (x0e))) (x01 (y6m (x06 3) (x88 (x01 (eC (.int 0)) (x0e)))) (x01 (eSl (x06 3) (x8a (eC (.int 1))) (x8i)) (x01 (eC .non) (x01 (y6m (eSl (x06 3) (x8i) (x8a (z3u (eC (.int 1))))) (x88 (x01 (x0z 2) (x0e)))) (x0e))))))) (x0n x0g 3 (x01 (x06 0) (x01 (eC (.int 52)) (x01 (eC (.int 5)) (x0e)))))))
  (x1i (sIf (x2y (e2 x5w (x0n x2x 3 (x01 (x06 1) (x01 (x06 2) (x01 (x06 9) (x0e))))) (eC (.bl false)))) (x29 (eC (.bl false))) (x4f))
  (x1i (x30 10 (x0n x24 3 (x01 (x06 1) (x01 (x06 2) (x01 (x06 3) (x0e))))))
  (x1i (x5g (x0q (x01 (x0z 1) (x0e))) (x0h 11) (x5g (x0q (x01 (x0z 2) (x0e))) (x0h 12) (x1i (x30 13 (x1l 10 (x06 12)))
  (x1i (x30 14 (e2 dEq (eIx (x1l 2 (x1l 3 (x06 11))) (x06 12)) (x06 12)))
  (sIf (x2y (e2 dNe (x06 14) (e2 dEq (eIx (x1l 1 (x06 11)) (x06 13)) (x06 13)))) (x29 (eC (.bl false))) (x4f))))))
  (x1i (z2i (x0n x3r 3 (x01 (x06 0) (x01 (eC (.int 60)) (x01 (x06 2) (x0e))))) (y78 (x2t (x0h 15) (x2t (x0h 16) (x81)))))
  (x1i (x30 17 (x0n x3t 2 (x01 (x06 3) (x01 (x06 16) (x0e)))))
  (x1i (sIf (x2y (e2 x5w (x0n x2x 3 (x01 (x06 1) (x01 (x06 15) (x01 (x06 17) (x0e))))) (eC (.bl true)))) (x29 (eC (.bl false))) (x4f))
  (x29 (e2 dEq (x0n x24 3 (x01 (x06 1) (x01 (x06 15) (x01 (x06 17) (x0e))))) (x0n x3t 2 (x01 (x0n x49 3 (x01 (x06 2) (x01 (x06 15) (x01 (x06 16) (x0e))))) (x01 (x06 10) (x0e)))))))))))))))))))
noncomputable def y4s : List D -> Option (D × Nat) := fnD 18 z5n
theorem x3m : FnScope ["_law_script", "_law_ladder_here", "_law_other", "_law_mapping", "_law_drawn", "_law_place", "_law_near", "_law_thing", "_law_due_here", "_law_bad", "_law_back_here", "_law_one", "_law_worth", "_law_goal", "_law_is_let", "_law_last", "_law_then", "_law_both"] ["_law_script"] (x08 (top 48)) := ⟨rfl, rfl, rfl, by decide +kernel, rfl, by decide +kernel, by decide +kernel⟩
theorem z3f (B : Bt mg) (c__law_ladder : Cal P w K mg base 4 "_law_ladder" 2 x3e) (c__law_map : Cal P w K mg base 3 "_law_map" 3 x3r) (c_is_ladder : Cal P w K mg base 4 "is_ladder" 1 x3u) (c_is_map : Cal P w K mg base 4 "is_map" 3 x2x) (c__law_pick : Cal P w K mg base 2 "_law_pick" 3 x0g) (c__law_due : Cal P w K mg base 2 "_law_due" 3 x43) (c__law_back : Cal P w K mg base 7 "_law_back" 3 x24) (c_after_map : Cal P w K mg base 2 "after_map" 2 x3t) (c_back_of : Cal P w K mg base 6 "back_of" 3 x49) {f : Addr} {fd : FuncData} (F : Fun K "law" "law" (top 48) f fd) : FnOk P w K mg base CX0 8 f fd ["_law_script"] (spD K 1 y4s) :=
  z3l (k := 7) F x3m fun f cdv A outer s H E hr =>
    x0a (x16 (i := 1) x3m.nd rfl (Or.inl rfl) (x0b c__law_ladder hr (by decide) (x00 (x02 (qv 0 rfl (Or.inr (Or.inl rfl)))) (x00 (x0f) (x03) x07) x05)))
    (x0a (y5v (x0b c__law_map hr (by decide) (x00 (x02 (qv 0 rfl (Or.inr (Or.inl rfl)))) (x00 (x0f) (x00 (x02 (qv 1 rfl (Or.inl rfl))) (x03) x05) x07) x05)) (y0z (n := 2) rfl (x3w (x0i (i := 2) (show 0 <= 2 by decide) x3m.nd rfl (Or.inr rfl)) (x3w (x0i (i := 3) (show 0 <= 3 by decide) x3m.nd rfl (Or.inl rfl)) (x8e))) y0i))
    (x0a (x2d (y3k (x8l (x6p (x0b c_is_ladder hr (by decide) (x00 (x02 (qv 2 rfl (Or.inr (Or.inl rfl)))) (x03) x05)) (x3y)) (x6f (x6p (x0b c_is_map hr (by decide) (x00 (x02 (qv 1 rfl (Or.inl rfl))) (x00 (x02 (qv 2 rfl (Or.inr (Or.inl rfl)))) (x00 (x02 (qv 3 rfl (Or.inl rfl))) (x03) x05) x05) x05)) (x3y))))) (x0c (x0k (x3y))) (x1j))
    (x0a (x16 (i := 4) x3m.nd rfl (Or.inl rfl) (x32 B.m_tuple PyProof.Rows.boot_tuple (x00 (x2r (k := 1) (N' := ["_law_script", "_law_ladder_here", "_law_other", "_law_mapping", "_law_drawn", "_law_place", "_law_near", "_law_thing", "_law_due_here", "_law_bad", "_law_back_here", "_law_one", "_law_worth", "_law_goal", "_law_is_let", "_law_last", "_law_then", "_law_both", "_law_k"]) false rfl ⟨rfl, by decide +kernel, rfl, rfl, rfl⟩ (x0m B.m_range (x00 (x0t B.m_len (qv 1 rfl (Or.inl rfl))) (x03) x0l)) (fun _ _ _ _ => x0i (i := 18) (show 18 <= 18 by decide) (show List.Nodup (["_law_script", "_law_ladder_here", "_law_other", "_law_mapping", "_law_drawn", "_law_place", "_law_near", "_law_thing", "_law_due_here", "_law_bad", "_law_back_here", "_law_one", "_law_worth", "_law_goal", "_law_is_let", "_law_last", "_law_then", "_law_both", "_law_k"] : List Str) by decide +kernel) rfl (Or.inl rfl) (Or.inr rfl)) (fun _ _ _ _ => x1r) (fun _ _ _ _ => x0b c__law_pick hr (by decide) (x00 (x02 (qv 0)) (x00 (x2z (x0f) (x02 (qv 18))) (x00 (x0t B.m_len (qv 2)) (x03) x0l) x28) x05))) (x03) x1u)))
    (x0a (x16 (i := 5) x3m.nd rfl (Or.inl rfl) (x0b c__law_pick hr (by decide) (x00 (x02 (qv 0 rfl (Or.inr (Or.inl rfl)))) (x00 (x0f) (x00 (x0t B.m_len (qv 1 rfl (Or.inl rfl))) (x03) x0l) x07) x05)))
    (x0a (x16 (i := 6) x3m.nd rfl (Or.inl rfl) (y4d (y4d (y9t (x02 (qv 3 rfl (Or.inl rfl))) (x8f) (x8d (x02 (qv 5 rfl (Or.inl rfl))))) (x5n (x00 (x0b c__law_pick hr (by decide) (x00 (x02 (qv 0 rfl (Or.inr (Or.inl rfl)))) (x00 (x0f) (x00 (x0t B.m_len (qv 2 rfl (Or.inr (Or.inl rfl)))) (x03) x0l) x07) x05)) (x03) x0l))) (y9t (x02 (qv 3 rfl (Or.inl rfl))) (x8d (x2z (x02 (qv 5 rfl (Or.inl rfl))) (x0f))) (x8f))))
    (x0a (x2c PassesOwn.never rfl (x4i (x5n (x00 (x02 (qv 4 rfl (Or.inl rfl))) (x00 (x02 (qv 6 rfl (Or.inl rfl))) (x03) x05) x05))) (x0i (i := 7) (show 0 <= 7 by decide) x3m.nd rfl (Or.inl rfl)) (x0a (x16 (i := 8) x3m.nd rfl (Or.inl rfl) (x0b c__law_due hr (by decide) (x00 (x02 (qv 1 rfl (Or.inl rfl))) (x00 (x02 (qv 2 rfl (Or.inr (Or.inl rfl)))) (x00 (x02 (qv 7 rfl (Or.inl rfl))) (x03) x05) x05) x05)))
    (x0c (x2d (y3k (x8l (x6v hr (x0b c_is_map hr (by decide) (x00 (x02 (qv 1 rfl (Or.inl rfl))) (x00 (x02 (qv 2 rfl (Or.inr (Or.inl rfl)))) (x00 (x02 (qv 7 rfl (Or.inl rfl))) (x03) x05) x05) x05)) (x02 (qv 8 rfl (Or.inl rfl)))) (x6f (x8k hr (y3l hr (x0b c__law_back hr (by decide) (x00 (x02 (qv 1 rfl (Or.inl rfl))) (x00 (x02 (qv 2 rfl (Or.inr (Or.inl rfl)))) (x00 (x02 (qv 7 rfl (Or.inl rfl))) (x03) x05) x05) x05)) (x7x)) (x02 (qv 8 rfl (Or.inl rfl))))))) (x0c (x0k (x3y))) (x1j)))))
    (x0a (x16 (i := 9) x3m.nd rfl (Or.inl rfl) (x42 (x3j (x00 (y1j B.m_list PyProof.Rows.boot_list (x00 (x02 (qv 3 rfl (Or.inl rfl))) (x03) x05)) (x00 (y4d (x02 (qv 3 rfl (Or.inl rfl))) (x5n (x00 (x0f) (x03) x07))) (x00 (y9t (x02 (qv 3 rfl (Or.inl rfl))) (x8d (x0f)) (x8f)) (x00 (y47) (x00 (y4d (y9t (x02 (qv 3 rfl (Or.inl rfl))) (x8f) (x8d (z6q (x0f)))) (x5n (x00 (x0t B.m_len (qv 2 rfl (Or.inr (Or.inl rfl)))) (x03) x0l))) (x03) x28) x07) x5s) x28) x0l)) (x0b c__law_pick hr (by decide) (x00 (x02 (qv 0 rfl (Or.inr (Or.inl rfl)))) (x00 (x0f) (x00 (x0f) (x03) x07) x07) x05))))
    (x0a (x2d (x6p (x0b c_is_map hr (by decide) (x00 (x02 (qv 1 rfl (Or.inl rfl))) (x00 (x02 (qv 2 rfl (Or.inr (Or.inl rfl)))) (x00 (x02 (qv 9 rfl (Or.inl rfl))) (x03) x05) x05) x05)) (x3y)) (x0c (x0k (x3y))) (x1j))
    (x0a (x16 (i := 10) x3m.nd rfl (Or.inl rfl) (x0b c__law_back hr (by decide) (x00 (x02 (qv 1 rfl (Or.inl rfl))) (x00 (x02 (qv 2 rfl (Or.inr (Or.inl rfl)))) (x00 (x02 (qv 3 rfl (Or.inl rfl))) (x03) x05) x05) x05)))
    (x0a (x2c PassesOwn.never rfl (x0m B.m_range (x00 (x0t B.m_len (qv 1 rfl (Or.inl rfl))) (x03) x0l)) (x0i (i := 11) (show 0 <= 11 by decide) x3m.nd rfl (Or.inl rfl)) (x0c (x2c PassesOwn.never rfl (x0m B.m_range (x00 (x0t B.m_len (qv 2 rfl (Or.inr (Or.inl rfl)))) (x03) x0l)) (x0i (i := 12) (show 0 <= 12 by decide) x3m.nd rfl (Or.inl rfl)) (x0a (x16 (i := 13) x3m.nd rfl (Or.inl rfl) (x1g (qv 10 rfl (Or.inl rfl)) (x02 (qv 12 rfl (Or.inl rfl)))))
    (x0a (x16 (i := 14) x3m.nd rfl (Or.inl rfl) (y3l hr (x42 (x1g (qv 2 rfl (Or.inr (Or.inl rfl))) (x1g (qv 3 rfl (Or.inl rfl)) (x02 (qv 11 rfl (Or.inl rfl))))) (x02 (qv 12 rfl (Or.inl rfl)))) (x02 (qv 12 rfl (Or.inl rfl)))))
    (x0c (x2d (x6v hr (x02 (qv 14 rfl (Or.inl rfl))) (y3l hr (x42 (x1g (qv 1 rfl (Or.inl rfl)) (x02 (qv 11 rfl (Or.inl rfl)))) (x02 (qv 13 rfl (Or.inl rfl)))) (x02 (qv 13 rfl (Or.inl rfl))))) (x0c (x0k (x3y))) (x1j))))))))
    (x0a (y5v (x0b c__law_map hr (by decide) (x00 (x02 (qv 0 rfl (Or.inr (Or.inl rfl)))) (x00 (x0f) (x00 (x02 (qv 2 rfl (Or.inr (Or.inl rfl)))) (x03) x05) x07) x05)) (y0z (n := 2) rfl (x3w (x0i (i := 15) (show 0 <= 15 by decide) x3m.nd rfl (Or.inl rfl)) (x3w (x0i (i := 16) (show 0 <= 16 by decide) x3m.nd rfl (Or.inl rfl)) (x8e))) y0i))
    (x0a (x16 (i := 17) x3m.nd rfl (Or.inl rfl) (x0b c_after_map hr (by decide) (x00 (x02 (qv 3 rfl (Or.inl rfl))) (x00 (x02 (qv 16 rfl (Or.inl rfl))) (x03) x05) x05)))
    (x0a (x2d (x6p (x0b c_is_map hr (by decide) (x00 (x02 (qv 1 rfl (Or.inl rfl))) (x00 (x02 (qv 15 rfl (Or.inl rfl))) (x00 (x02 (qv 17 rfl (Or.inl rfl))) (x03) x05) x05) x05)) (x3y)) (x0c (x0k (x3y))) (x1j))
    (x0c (x0k (y3l hr (x0b c__law_back hr (by decide) (x00 (x02 (qv 1 rfl (Or.inl rfl))) (x00 (x02 (qv 15 rfl (Or.inl rfl))) (x00 (x02 (qv 17 rfl (Or.inl rfl))) (x03) x05) x05) x05)) (x0b c_after_map hr (by decide) (x00 (x0b c_back_of hr (by decide) (x00 (x02 (qv 2 rfl (Or.inr (Or.inl rfl)))) (x00 (x02 (qv 15 rfl (Or.inl rfl))) (x00 (x02 (qv 16 rfl (Or.inl rfl))) (x03) x05) x05) x05)) (x00 (x02 (qv 10 rfl (Or.inl rfl))) (x03) x05) x0l))))))))))))))))))
end
noncomputable abbrev scr (ns : List Int) : D := .lst (ns.map D.int)
noncomputable def y93 (ns : List Int) (k : Int) : Int := if k < ns.length then ns.getD k.toNat 0 else if ns = [] then 0 else ns.getD (k % ns.length).toNat 0 * 31 + k
theorem z0o {ns : List Int} {k : Int} (h0 : 0 <= k) (h : k < ns.length) : L2.atI (ns.map D.int) k = some (.int (ns.getD k.toNat 0)) := by
  obtain ⟨m, rfl⟩ : ∃ m : Nat, k = Int.ofNat m := ⟨k.toNat, by show k = (k.toNat : Int); omega⟩
  have hk : m < ns.length := by have : (m : Int) < ns.length := h; omega
  apply y7m
  rw [List.getElem?_map, List.getElem?_eq_getElem hk]
  simp [hk]
theorem z6r (ns : List Int) : Sh 1 (scr ns) := .lst fun d m => by
  obtain ⟨x, _, rfl⟩ := List.mem_map.mp m
  exact .int _
theorem z0v (ns : List Int) : dEq (scr ns) (.lst []) = some (.bl (decide (ns = []))) := by
  unfold dEq
  rw [if_pos ⟨(z6r ns).ok, (z3s []).ok⟩]
  cases ns <;> rfl
theorem z1e (ns : List Int) (k : Int) (h0 : 0 <= k) : x4e [scr ns, .int k] = some (.int (y93 ns k), 9) := by
  unfold x4e x8u y93
  by_cases h : k < ns.length
  · simp [h, z0o h0 h, x8g, atD]
  · by_cases hn : ns = []
    · subst hn
      have h' : ¬ k < 0 := by omega
      simp [h', x8g, z0v]
    · have hp : (0 : Int) < ns.length := by have := List.length_pos_iff.mpr hn; omega
      have h1 := Int.emod_nonneg k (Int.ne_of_gt hp)
      have h2 := Int.emod_lt_of_pos k hp
      have h3 := z0o h1 h2
      have hp' := List.length_pos_iff.mpr hn
      simp [h, x8g, atD, z0v, hn, hp', h3]
noncomputable def x7w (ns : List Int) (k : Int) : Int := (y93 ns k + 6151 * (k + 1)) * 40692 % 2147483399
noncomputable def x7c (ns : List Int) (k m : Int) : Int := (x7w ns k * x7w ns k + x7w ns k / 31) % 2147483629 % m
theorem x6m (ns : List Int) (k m : Int) (h0 : 0 <= k) (hm : 0 < m) : x0g [scr ns, .int k, .int m] = some (.int (x7c ns k m), 9) := by
  have d0 : 0 <= x7w ns k := Int.emod_nonneg _ (by decide)
  have d1 : x7w ns k < 2147483399 := Int.emod_lt_of_pos _ (by decide)
  have g1 : -18446744073709551616 < x7w ns k := by omega
  have g2 : x7w ns k < 18446744073709551616 := by omega
  have hd : (y93 ns k + 6151 * (k + 1)) * 40692 % 2147483399 = x7w ns k := rfl
  unfold x0g x8j x7c
  simp [z1e ns k h0, hm, hd, g1, g2]
theorem x5y (ns : List Int) (k : Int) {m : Int} (hm : 0 < m) : 0 <= x7c ns k m := Int.emod_nonneg _ (Int.ne_of_gt hm)
theorem x7j (ns : List Int) (k : Int) {m : Int} (hm : 0 < m) : x7c ns k m < m := Int.emod_lt_of_pos _ hm
noncomputable def tf (rows : List (List Nat)) (i j : Nat) : Nat := (rows.getD i []).getD j 0
noncomputable def x3c (rows : List (List Nat)) : D := x27 rows.length (tf rows)
noncomputable def ch (n : Nat) : List (List Nat) := (List.range n).map fun i => (List.range n).map fun j => max i j
noncomputable def cp (a b : List (List Nat)) : List (List Nat) := (List.range (a.length * b.length)).map fun i => (List.range (a.length * b.length)).map fun j => tf a (i / b.length) (j / b.length) * b.length + tf b (i % b.length) (j % b.length)
noncomputable def sb (n : Nat) : List (List Nat) := (List.range (n + 2)).map fun i => (List.range (n + 2)).map fun j => if i = 0 \/ j = 0 \/ i = j then max i j else n + 1
noncomputable def n5 : List (List Nat) := [[0, 1, 2, 3, 4], [1, 1, 2, 4, 4], [2, 2, 2, 4, 4], [3, 4, 4, 3, 4], [4, 4, 4, 4, 4]]
noncomputable def y23 : List (List (List Nat)) := [ch 1, ch 2, ch 3, ch 4, ch 5, cp (ch 2) (ch 2), cp (ch 2) (ch 3), cp (ch 2) (ch 4), sb 0, sb 1, sb 2, sb 3, sb 4, cp (ch 2) (cp (ch 2) (ch 2)), n5]
theorem ch1 : x1b [.int 1] = some (x3c (ch 1), 1) := by rfl
theorem ch2 : x1b [.int 2] = some (x3c (ch 2), 1) := by rfl
theorem ch3 : x1b [.int 3] = some (x3c (ch 3), 1) := by rfl
theorem ch4 : x1b [.int 4] = some (x3c (ch 4), 1) := by rfl
theorem ch5 : x1b [.int 5] = some (x3c (ch 5), 1) := by rfl
theorem sb0 : x10 [.int 0] = some (x3c (sb 0), 0) := by rfl
theorem sb1 : x10 [.int 1] = some (x3c (sb 1), 0) := by rfl
theorem sb2 : x10 [.int 2] = some (x3c (sb 2), 0) := by rfl
theorem sb3 : x10 [.int 3] = some (x3c (sb 3), 0) := by rfl
theorem sb4 : x10 [.int 4] = some (x3c (sb 4), 0) := by rfl
theorem z8i : x0y [x3c (ch 2), x3c (ch 2)] = some (x3c (cp (ch 2) (ch 2)), 0) := by rfl
theorem z96 : x0y [x3c (ch 2), x3c (ch 3)] = some (x3c (cp (ch 2) (ch 3)), 0) := by rfl
theorem z8o : x0y [x3c (ch 2), x3c (ch 4)] = some (x3c (cp (ch 2) (ch 4)), 0) := by rfl
theorem z80 : x0y [x3c (ch 2), x3c (cp (ch 2) (ch 2))] = some (x3c (cp (ch 2) (cp (ch 2) (ch 2))), 0) := by rfl
theorem z2j (ns : List Int) (t : Int) (h0 : 0 <= t) : ∃ rows ∈ y23, ∃ q, x4d [scr ns, .int t] = some (x3c rows, q) := by
  have k0 := x5y ns t (m := 9) (by decide)
  have k1 := x7j ns t (m := 9) (by decide)
  have p0 := x5y ns (t + 1) (m := 5) (by decide)
  have p1 := x7j ns (t + 1) (m := 5) (by decide)
  have r0 := x5y ns (t + 1) (m := 3) (by decide)
  have r1 := x7j ns (t + 1) (m := 3) (by decide)
  have e9 := x6m ns t 9 h0 (by decide)
  have e5 := x6m ns (t + 1) 5 (by omega) (by decide)
  have e3 := x6m ns (t + 1) 3 (by omega) (by decide)
  have mem : ∀ i : Nat, i < 15 -> y23.getD i [] ∈ y23 := fun i hi => by
    rw [List.getD_eq_getElem?_getD, List.getElem?_eq_getElem (show i < y23.length from hi)]
    exact List.getElem_mem _
  have hc : ∀ p : Int, 0 <= p -> p < 5 -> ∃ rows ∈ y23, x1b [.int (1 + p)] = some (x3c rows, 1) := fun p a b => by
    have : p = 0 \/ p = 1 \/ p = 2 \/ p = 3 \/ p = 4 := by omega
    rcases this with rfl | rfl | rfl | rfl | rfl
    · exact ⟨_, mem 0 (by decide), ch1⟩
    · exact ⟨_, mem 1 (by decide), ch2⟩
    · exact ⟨_, mem 2 (by decide), ch3⟩
    · exact ⟨_, mem 3 (by decide), ch4⟩
    · exact ⟨_, mem 4 (by decide), ch5⟩
  have hs : ∀ p : Int, 0 <= p -> p < 5 -> ∃ rows ∈ y23, x10 [.int p] = some (x3c rows, 0) := fun p a b => by
    have : p = 0 \/ p = 1 \/ p = 2 \/ p = 3 \/ p = 4 := by omega
    rcases this with rfl | rfl | rfl | rfl | rfl
    · exact ⟨_, mem 8 (by decide), sb0⟩
    · exact ⟨_, mem 9 (by decide), sb1⟩
    · exact ⟨_, mem 10 (by decide), sb2⟩
    · exact ⟨_, mem 11 (by decide), sb3⟩
    · exact ⟨_, mem 12 (by decide), sb4⟩
  have hp : ∀ r : Int, 0 <= r -> r < 3 -> ∃ x rows1 rows, atD (.lst [.int 2, .int 3, .int 4]) r = some (.int x) /\ x1b [.int x] = some (x3c rows1, 1) /\ rows ∈ y23 /\ x0y [x3c (ch 2), x3c rows1] = some (x3c rows, 0) := fun r a b => by
    have : r = 0 \/ r = 1 \/ r = 2 := by omega
    rcases this with rfl | rfl | rfl
    · exact ⟨2, _, _, rfl, ch2, mem 5 (by decide), z8i⟩
    · exact ⟨3, _, _, rfl, ch3, mem 6 (by decide), z96⟩
    · exact ⟨4, _, _, rfl, ch4, mem 7 (by decide), z8o⟩
  unfold x4d x8n
  generalize x7c ns t 9 = k at *
  generalize x7c ns (t + 1) 5 = p at *
  generalize x7c ns (t + 1) 3 = r at *
  by_cases h3 : k < 3
  · obtain ⟨rows, hm, e⟩ := hc p p0 p1
    exact ⟨rows, hm, 1, by simp [e9, e5, h3, e]⟩
  by_cases h5 : k < 5
  · obtain ⟨x, rows1, rows, ea, e1, hm, e2'⟩ := hp r r0 r1
    exact ⟨rows, hm, 0, by simp [e9, e3, h3, h5, ch2, ea, e1, e2']⟩
  by_cases h7 : k < 7
  · obtain ⟨rows, hm, e⟩ := hs p p0 p1
    exact ⟨rows, hm, 0, by simp [e9, e5, h3, h5, h7, e]⟩
  have : k = 7 \/ k = 8 := by omega
  rcases this with rfl | rfl
  · exact ⟨_, mem 13 (by decide), 0, by simp [e9, y79, ch2, z8i]; exact z80⟩
  · refine ⟨_, mem 14 (by decide), 0, ?_⟩
    simp [e9, y79]
    rfl
theorem z06 : ∀ rows ∈ y23, z7n rows.length (tf rows) = true := by decide +kernel
noncomputable def pk (ns : List Int) (t : Int) (k m : Nat) : Nat := (x7c ns (t + 2 + Int.ofNat k) (Int.ofNat m)).toNat
theorem y59 (ns : List Int) (t : Int) (k m : Nat) (h : 0 < m) : pk ns t k m < m := by
  have h1 := x5y ns (t + 2 + Int.ofNat k) (m := Int.ofNat m) (by show (0 : Int) < m; omega)
  have h2 := x7j ns (t + 2 + Int.ofNat k) (m := Int.ofNat m) (by show (0 : Int) < m; omega)
  have h3 : (Int.ofNat m) = (m : Int) := rfl
  unfold pk
  omega
theorem z4d (ns : List Int) (t : Int) (k m : Nat) (h : 0 < m) : x7c ns (t + 2 + Int.ofNat k) (Int.ofNat m) = Int.ofNat (pk ns t k m) := by
  have h1 := x5y ns (t + 2 + Int.ofNat k) (m := Int.ofNat m) (by show (0 : Int) < m; omega)
  unfold pk
  show _ = ((x7c ns (t + 2 + Int.ofNat k) (Int.ofNat m)).toNat : Int)
  omega
section
variable (ns : List Int) (t : Int) (n : Nat) (B : Nat -> Nat -> Nat) (q : Nat)
theorem y8k (h0 : 0 <= t) (hn : n <= 8) : x67 1 (x0h 8) x1f (y7t 3 (x01 (x0n x0g 3 (x01 (x06 0) (x01 (e2 x4x (e2 x4x (x06 1) (eC (.int 2))) (x06 8)) (x01 (x0z 3) (x0e))))) (x0e))) false (x0v n)
    [some (scr ns, 0), some (.int t, 9), some (x27 n B, q), some (.lst (x0v n), 1), none, none, none, none] =
    some (x0o ((List.range n).map (drawn (pk ns t) n)), [some (scr ns, 0), some (.int t, 9), some (x27 n B, q), some (.lst [], 1), none, none, none, none]) := by
  have hp := y59 ns t
  have h := x2v (k := 1) (pt := x0h 8) (tt := x1f) (te := y7t 3 (x01 (x0n x0g 3 (x01 (x06 0) (x01 (e2 x4x (e2 x4x (x06 1) (eC (.int 2))) (x06 8)) (x01 (x0z 3) (x0e))))) (x0e))) (deep := false) (x0v n)
    (fun k => [some (scr ns, 0), some (.int t, 9), some (x27 n B, q), some (.lst (x0o (x3d (pk ns t) n k)), 1), none, none, none, none]) (fun _ => true) (fun k => .int (Int.ofNat (drawn (pk ns t) n k))) (fun k hk => ?_)
  · rw [x0d] at h
    have hl : x3d (pk ns t) n n = [] := List.length_eq_zero_iff.mp (by rw [x55 hp n (Nat.le_refl n)]; omega)
    rw [hl] at h
    have e1 : (List.range n).filter (fun _ => true) = List.range n := by simp
    rw [e1] at h
    simp only [x0o, List.map_map, Function.comp_def]
    exact h
  · rw [x0d] at hk
    have hl := x55 hp k (Nat.le_of_lt hk)
    have hlp : 0 < (x3d (pk ns t) n k).length := by rw [hl]; omega
    have e := z4d ns t k _ hlp
    have hj := y59 ns t k _ hlp
    have hpk := x6m ns (t + 2 + Int.ofNat k) (Int.ofNat (x3d (pk ns t) n k).length) (by show 0 <= t + 2 + (k : Int); omega) (by show (0 : Int) < ((x3d (pk ns t) n k).length : Int); omega)
    have hs : seqIndex? (Int.ofNat (pk ns t k (x3d (pk ns t) n k).length)) (x0o (x3d (pk ns t) n k)).length = some (pk ns t k (x3d (pk ns t) n k).length) := (y0y (x6n (by rw [x1c]; exact hj))).1
    have hg : (x0o (x3d (pk ns t) n k))[pk ns t k (x3d (pk ns t) n k).length]? = some (.int (Int.ofNat (drawn (pk ns t) n k))) := by
      rw [x5z]
      unfold drawn
      rw [List.getD_eq_getElem?_getD, List.getElem?_eq_getElem hj]
      rfl
    have hb : pk ns t k (x3d (pk ns t) n k).length <= 8 := by omega
    have he : (x0o (x3d (pk ns t) n k)).eraseIdx (pk ns t k (x3d (pk ns t) n k).length) = x0o (x3d (pk ns t) n (k + 1)) := by rw [x3d, x79]
    refine ⟨[some (scr ns, 0), some (.int t, 9), some (x27 n B, q), some (.lst (x0o (x3d (pk ns t) n k)), 1), none, none, none, none, some (.int (Int.ofNat k), 9)], _, by simp [x0v], rfl, ?_⟩
    rw [if_pos rfl]
    refine ⟨9, [some (scr ns, 0), some (.int t, 9), some (x27 n B, q), some (.lst (x0o (x3d (pk ns t) n (k + 1))), 1), none, none, none, none, some (.int (Int.ofNat k), 9)], ?_, by simp, by simp⟩
    have b1 : (-1000 : Int) <= Int.ofNat (pk ns t k (x3d (pk ns t) n k).length) := by show (-1000 : Int) <= (pk ns t k (x3d (pk ns t) n k).length : Int); omega
    have b2 : Int.ofNat (pk ns t k (x3d (pk ns t) n k).length) <= 1000 := by show (pk ns t k (x3d (pk ns t) n k).length : Int) <= 1000; omega
    have hl' : x8g (.lst (x0o (x3d (pk ns t) n k))) = some (x3d (pk ns t) n k).length := by simp [x8g, x1c]
    rw [e] at hpk
    simp [-Int.ofNat_eq_natCast, hl', hpk, hs, hg, he, b1, b2]
theorem z1p (hn : n <= 8) (x : Option (D × Nat)) : x67 1 (x0h 8) x1f (x9d (x7a (x01 (eC (.int 0)) (x0e))) (x0z 2)) true ((List.range n).map fun i => x4t n B i)
    [some (scr ns, 0), some (.int t, 9), some (x27 n B, 0), some (.lst [], 1), x, none, none, none] =
    some ((List.range n).map fun i => x4t n (fun _ _ => 0) i, [some (scr ns, 0), some (.int t, 9), some (x27 n B, 0), some (.lst [], 1), x, none, none, none]) := by
  have h := x2v (k := 1) (pt := x0h 8) (tt := x1f) (te := x9d (x7a (x01 (eC (.int 0)) (x0e))) (x0z 2)) (deep := true) ((List.range n).map fun i => x4t n B i)
    (fun _ => [some (scr ns, 0), some (.int t, 9), some (x27 n B, 0), some (.lst [], 1), x, none, none, none]) (fun _ => true) (fun i => x4t n (fun _ _ => 0) i) (fun k hk => ?_)
  · rw [List.length_map, List.length_range, show (List.range n).filter (fun _ => true) = List.range n by simp] at h
    exact h
  · refine ⟨[some (scr ns, 0), some (.int t, 9), some (x27 n B, 0), some (.lst [], 1), x, none, none, none, some (x4t n B k, 0)], _, by simp [x4t], rfl, ?_⟩
    rw [if_pos rfl]
    refine ⟨1, [some (scr ns, 0), some (.int t, 9), some (x27 n B, 0), some (.lst [], 1), x, none, none, none, some (x4t n B k, 0)], ?_, by simp, by simp⟩
    have z : x4t n (fun _ _ => 0) k = D.lst (List.replicate n [D.int 0]).flatten := (z3v n).symm
    have b1 : (-1000 : Int) <= n := by omega
    have b2 : (n : Int) <= 1000 := by omega
    have b3 : n <= 1000 := by omega
    rw [z]
    simp [x6u, b1, b2, b3]
noncomputable def gst (π ι : Nat -> Nat) (i j a b : Nat) : Nat := if ι a < i \/ (ι a = i /\ ι b < j) then π (B (ι a) (ι b)) else 0
noncomputable abbrev y33 : x22 := x9l 5 (qIx 4 (y3a 6)) (qIx 4 (y3a 7)) (x1l 4 (eIx (x1l 2 (x06 6)) (x06 7)))
section
variable {n B} {π ι : Nat -> Nat} (cl : ∀ i j, i < n -> j < n -> B i j < n) (h1 : ∀ i, i < n -> π i < n) (h2 : ∀ i, i < n -> ι i < n) (h3 : ∀ i, i < n -> ι (π i) = i) (h4 : ∀ i, i < n -> π (ι i) = i)
include cl h1 h2 h3 h4
theorem y69 {f : Nat -> Nat -> Nat} {i j : Nat} (hi : i < n) (hj : j < n) {y : Option (D × Nat)} :
    y33 [some (scr ns, 0), some (.int t, 9), some (x27 n B, 0), some (.lst [], 1), some (.lst (x0o ((List.range n).map π)), 1), some (x27 n f, 2), some (.int (Int.ofNat i), 9), some (.int (Int.ofNat j), 9)] =
    some (.nx [some (scr ns, 0), some (.int t, 9), some (x27 n B, 0), some (.lst [], 1), some (.lst (x0o ((List.range n).map π)), 1), some (x27 n (fun a b => if a = π i /\ b = π j then π (B i j) else f a b), 2), some (.int (Int.ofNat i), 9), some (.int (Int.ofNat j), 9)]) := by
  have a1 := z2h (f := B) hi
  have a2 := z1t (f := B) (i := i) hj
  have a3 : atD (.lst (x0o ((List.range n).map π))) (Int.ofNat (B i j)) = some (.int (Int.ofNat (π (B i j)))) := x1n (cl i j hi hj)
  have a4 : atD (.lst (x0o ((List.range n).map π))) (Int.ofNat i) = some (.int (Int.ofNat (π i))) := x1n hi
  have a5 : atD (.lst (x0o ((List.range n).map π))) (Int.ofNat j) = some (.int (Int.ofNat (π j))) := x1n hj
  have a6 : ixN ((List.range n).map fun a => x4t n f a).length (Int.ofNat (π i)) = some (π i) := x6n (by simpa using h1 i hi)
  have a7 : ((List.range n).map fun a => x4t n f a)[π i]? = some (.lst (x0o ((List.range n).map fun b => f (π i) b))) := by rw [List.getElem?_map, List.getElem?_range (h1 i hi)]; rfl
  have a8 : ixN (x0o ((List.range n).map fun b => f (π i) b)).length (Int.ofNat (π j)) = some (π j) := x6n (by simpa [x1c] using h1 j hj)
  have a9 := y48 (n := n) (f := f) (a := π i) (b := π j) (v := π (B i j))
  rw [<- a9]
  show y33 [some (scr ns, 0), some (.int t, 9), some (x27 n B, 0), some (.lst [], 1), some (.lst (x0o ((List.range n).map π)), 1), some (.lst ((List.range n).map fun a => x4t n f a), 2), some (.int (Int.ofNat i), 9), some (.int (Int.ofNat j), 9)] = _
  unfold y33
  simp only [x9l, x1l, eIx, x06, qIx, y3a, List.getElem?_cons_succ, List.getElem?_cons_zero, D.isL, if_true, a1, a2, a3, a4, a5, a6, a7, a8, ne_eq, not_true_eq_false, false_and, and_false, if_false, Bool.false_eq_true, reduceCtorEq, Nat.not_lt_zero, Nat.lt_irrefl, x2e, List.set_cons_succ, List.set_cons_zero]
noncomputable abbrev y45 (f : Nat -> Nat -> Nat) (x y : Option (D × Nat)) : Rho := [some (scr ns, 0), some (.int t, 9), some (x27 n B, 0), some (.lst [], 1), some (.lst (x0o ((List.range n).map π)), 1), some (x27 n f, 2), x, y]
omit cl h1 h2 h3 h4
theorem x3b {i : Nat} (h : i < (x0v n).length) : (x0v n)[i] = .int (Int.ofNat i) := by simp [x0v]
include cl h1 h2 h3 h4
theorem y4f {i j : Nat} (hi : i < n) (hj : j < n) : x27 n (fun a b => if a = π i /\ b = π j then π (B i j) else gst B π ι i j a b) = x27 n (gst B π ι i (j + 1)) := by
  refine x44 fun a b ha hb => ?_
  unfold gst
  by_cases h : a = π i /\ b = π j
  · obtain ⟨rfl, rfl⟩ := h
    rw [if_pos ⟨rfl, rfl⟩, h3 i hi, h3 j hj, if_pos (.inr ⟨rfl, Nat.lt_succ_self _⟩)]
  · rw [if_neg h]
    have : ¬ (ι a = i /\ ι b = j) := fun ⟨e1, e2⟩ => h ⟨by rw [<- e1, h4 a ha], by rw [<- e2, h4 b hb]⟩
    by_cases c : ι a < i \/ ι a = i /\ ι b < j
    · rw [if_pos c, if_pos (by omega)]
    · rw [if_neg c, if_neg (by omega)]
theorem y76 {i : Nat} : x27 n (gst B π ι i n) = x27 n (gst B π ι (i + 1) 0) := by
  refine x44 fun a b ha hb => ?_
  have := h2 b hb
  unfold gst
  by_cases c : ι a < i \/ ι a = i /\ ι b < n
  · rw [if_pos c, if_pos (by omega)]
  · rw [if_neg c, if_neg (by omega)]
theorem y88 (hn : n <= 8) {i : Nat} (hi : i < n) (y : Option (D × Nat)) : ∃ y', x8t (x0h 7) y33 (x0v n) (y45 ns t (n := n) (B := B) (π := π) (gst B π ι i 0) (some (.int (Int.ofNat i), 9)) y) =
    some (.nx (y45 ns t (n := n) (B := B) (π := π) (gst B π ι (i + 1) 0) (some (.int (Int.ofNat i), 9)) y')) := by
  obtain ⟨ρ', e, y', rfl⟩ := x4g (pt := x0h 7) (body := y33) (x0v n) (fun j ρ => ∃ y, ρ = y45 ns t (n := n) (B := B) (π := π) (gst B π ι i j) (some (.int (Int.ofNat i), 9)) y) (y45 ns t (n := n) (B := B) (π := π) (gst B π ι i 0) (some (.int (Int.ofNat i), 9)) y) (fun j hj ρ hh0 => by
    obtain ⟨y, hy⟩ := hh0
    subst hy
    rw [x0d] at hj
    refine ⟨y45 ns t (n := n) (B := B) (π := π) (gst B π ι i j) (some (.int (Int.ofNat i), 9)) (some (.int (Int.ofNat j), 9)), _, by rw [x3b]; simp, .inl (y69 ns t cl h1 h2 h3 h4 hi hj (y := none)), ?_⟩
    rw [y4f cl h1 h2 h3 h4 hi hj]
    exact ⟨_, rfl⟩) ⟨y, rfl⟩
  refine ⟨y', ?_⟩
  rw [e, x0d]
  show some (Out.nx [_, _, _, _, _, some (x27 n (gst B π ι i n), 2), _, _]) = _
  rw [y76 cl h1 h2 h3 h4]
theorem y8f (hn : n <= 8) (x y : Option (D × Nat)) : ∃ x' y', x8t (x0h 6) (x5g (x0q (x01 (x0z 2) x0e)) (x0h 7) y33) (x0v n) (y45 ns t (n := n) (B := B) (π := π) (fun _ _ => 0) x y) =
    some (.nx (y45 ns t (n := n) (B := B) (π := π) (fun a b => π (B (ι a) (ι b))) x' y')) := by
  have z : x27 n (fun _ _ => 0) = x27 n (gst B π ι 0 0) := x44 fun a b _ _ => by unfold gst; rw [if_neg (by omega)]
  have z' : x27 n (gst B π ι n 0) = x27 n (fun a b => π (B (ι a) (ι b))) := x44 fun a b ha _ => by unfold gst; rw [if_pos (.inl (h2 a ha))]
  obtain ⟨ρ', e, x', y', rfl⟩ := x4g (pt := x0h 6) (body := x5g (x0q (x01 (x0z 2) x0e)) (x0h 7) y33) (x0v n) (fun i ρ => ∃ x y, ρ = y45 ns t (n := n) (B := B) (π := π) (gst B π ι i 0) x y) (y45 ns t (n := n) (B := B) (π := π) (gst B π ι 0 0) x y) (fun i hi ρ hh0 => by
    obtain ⟨x, y, hy⟩ := hh0
    subst hy
    rw [x0d] at hi
    obtain ⟨y', hy'⟩ := y88 ns t cl h1 h2 h3 h4 hn hi y
    refine ⟨y45 ns t (n := n) (B := B) (π := π) (gst B π ι i 0) (some (.int (Int.ofNat i), 9)) y, _, by rw [x3b]; simp, .inl (show _ = some (Out.nx (y45 ns t (n := n) (B := B) (π := π) (gst B π ι (i + 1) 0) (some (.int (Int.ofNat i), 9)) y')) from ?_), ⟨_, _, rfl⟩⟩
    have b1 : (-1000 : Int) <= Int.ofNat n := by show (-1000 : Int) <= n; omega
    have b2 : Int.ofNat n <= 1000 := by show (n : Int) <= 1000; omega
    have e : x0q (x01 (x0z 2) x0e) (y45 ns t (n := n) (B := B) (π := π) (gst B π ι i 0) (some (.int (Int.ofNat i), 9)) y) = some (x0v n, y45 ns t (n := n) (B := B) (π := π) (gst B π ι i 0) (some (.int (Int.ofNat i), 9)) y) := by
      simp [-Int.ofNat_eq_natCast, x6u, b1, b2]
      rfl
    unfold x5g
    rw [e]
    exact hy') ⟨x, y, rfl⟩
  refine ⟨x', y', ?_⟩
  show x8t _ _ _ [_, _, _, _, _, some (x27 n (fun _ _ => 0), 2), _, _] = some (.nx [_, _, _, _, _, some (x27 n (fun a b => π (B (ι a) (ι b))), 2), _, _])
  rw [z, <- z']
  rw [x0d] at e
  exact e
end
end
theorem y8v {n : Nat} {f : Nat -> Nat -> Nat} {a b c d e : Option (D × Nat)} {x y : Option (D × Nat)} : x67 1 (x0h 8) x1f (x1x (x01 (x06 8) x0e)) false ((List.range n).map fun i => x4t n f i) [a, b, c, d, e, some (x27 n f, 0), x, y] =
    some ((List.range n).map fun i => x7s n f i, [a, b, c, d, e, some (x27 n f, 0), x, y]) := by
  have h := x2v (k := 1) (pt := x0h 8) (tt := x1f) (te := x1x (x01 (x06 8) x0e)) (deep := false) ((List.range n).map fun i => x4t n f i)
    (fun _ => [a, b, c, d, e, some (x27 n f, 0), x, y]) (fun _ => true) (fun i => x7s n f i) (fun k hk => ?_)
  · rw [List.length_map, List.length_range, show (List.range n).filter (fun _ => true) = List.range n by simp] at h
    exact h
  · refine ⟨[a, b, c, d, e, some (x27 n f, 0), x, y, some (x4t n f k, 0)], _, by simp [x4t], rfl, ?_⟩
    rw [if_pos rfl]
    exact ⟨9, [a, b, c, d, e, some (x27 n f, 0), x, y, some (x4t n f k, 0)], by simp [x4t, x7s], by simp, by simp⟩
theorem x2a {n : Nat} (hn : n <= 1000) {i : Nat} {ρ : Rho} {d : D} {q : Nat} (h : ρ[i]? = some (some (d, q))) (hl : x8g d = some n) : x0q (x01 (x0z i) x0e) ρ = some (x0v n, ρ) := by
  have b1 : (-1000 : Int) <= Int.ofNat n := by show (-1000 : Int) <= n; omega
  have b2 : Int.ofNat n <= 1000 := by show (n : Int) <= 1000; omega
  simp only [x0q, x01, x0z, x0e, h, hl]
  rw [if_pos ⟨b1, b2⟩]
  rfl
theorem z56 (ns : List Int) (t : Int) (h0 : 0 <= t) : ∃ n f, Lad n f /\ x3e [scr ns, .int t] = some (x09 n f, 9) := by
  obtain ⟨rows, hm, q, hb⟩ := z2j ns t h0
  have L := y3f (z06 rows hm)
  unfold x3c at hb
  revert hb L
  generalize rows.length = n
  generalize tf rows = B
  intro hb L
  have hp := y59 ns t
  have hn : n <= 1000 := Nat.le_trans L.hi (by decide)
  refine ⟨n, fun a b => drawn (pk ns t) n (B (x34 (pk ns t) n a) (x34 (pk ns t) n b)), L.ren (fun i hi => y0u hp hi) (fun i hi => x77 hp hi) (fun i hi => x53 hp hi) (fun i hi => x5d hp hi), ?_⟩
  unfold x3e x74
  refine x31 ?_
  have s0 : x5t 8 [scr ns, .int t] = [some (scr ns, 0), some (.int t, 9), none, none, none, none, none, none] := rfl
  rw [s0]
  refine (x0j (ρ1 := [some (scr ns, 0), some (.int t, 9), some (x27 n B, q), none, none, none, none, none]) ?_).trans ?_
  · simp [hb]
  refine (x0j (ρ1 := [some (scr ns, 0), some (.int t, 9), some (x27 n B, q), some (.lst (x0v n), 1), none, none, none, none]) ?_).trans ?_
  · exact x1s (x8w (x2a hn rfl x6u)) rfl
  refine (x0j (ρ1 := [some (scr ns, 0), some (.int t, 9), some (x27 n B, q), some (.lst [], 1), some (.lst (x0o ((List.range n).map (drawn (pk ns t) n))), 1), none, none, none]) ?_).trans ?_
  · exact x1s (x1p (x2a hn rfl x6u) (y8k ns t n B q h0 L.hi)) rfl
  refine (x0j (ρ1 := [some (scr ns, 0), some (.int t, 9), some (x27 n B, 0), some (.lst [], 1), some (.lst (x0o ((List.range n).map (drawn (pk ns t) n))), 1), some (x27 n (fun _ _ => 0), 2), none, none]) ?_).trans ?_
  · have e : x7b (x06 2) [some (scr ns, 0), some (.int t, 9), some (x27 n B, q), some (.lst [], 1), some (.lst (x0o ((List.range n).map (drawn (pk ns t) n))), 1), none, none, none] = some ((List.range n).map fun i => x4t n B i, [some (scr ns, 0), some (.int t, 9), some (x27 n B, 0), some (.lst [], 1), some (.lst (x0o ((List.range n).map (drawn (pk ns t) n))), 1), none, none, none]) := by
      by_cases hq : q = 0
      · subst hq; simp [x27, hn]
      · simp [x27, hn, hq]
    exact x1s (x1p e (z1p ns t n B L.hi _)) rfl
  obtain ⟨x', y', hf⟩ := y8f ns t (n := n) (B := B) (π := drawn (pk ns t) n) (ι := x34 (pk ns t) n) L.cl (fun i hi => y0u hp hi) (fun i hi => x77 hp hi) (fun i hi => x53 hp hi) (fun i hi => x5d hp hi) L.hi none none
  refine (x0j ((x1y (x2a hn rfl x6u)).trans hf)).trans ?_
  refine x2s (ρ1 := [some (scr ns, 0), some (.int t, 9), some (x27 n B, 0), some (.lst [], 1), some (.lst (x0o ((List.range n).map (drawn (pk ns t) n))), 1), some (x27 n (fun a b => drawn (pk ns t) n (B (x34 (pk ns t) n a) (x34 (pk ns t) n b))), 0), x', y']) ?_
  have e : x7b (x06 5) (y45 ns t (n := n) (B := B) (π := drawn (pk ns t) n) (fun a b => drawn (pk ns t) n (B (x34 (pk ns t) n a) (x34 (pk ns t) n b))) x' y') = some ((List.range n).map fun i => x4t n (fun a b => drawn (pk ns t) n (B (x34 (pk ns t) n a) (x34 (pk ns t) n b))) i, [some (scr ns, 0), some (.int t, 9), some (x27 n B, 0), some (.lst [], 1), some (.lst (x0o ((List.range n).map (drawn (pk ns t) n))), 1), some (x27 n (fun a b => drawn (pk ns t) n (B (x34 (pk ns t) n a) (x34 (pk ns t) n b))), 0), x', y']) := by
    simp [x27, hn]
  have e2 := x1p (k := 1) (pt := x0h 8) (tt := x1f) (te := x1x (x01 (x06 8) x0e)) (deep := false) e y8v
  exact x37 (x1d e2)
section
variable {n : Nat} {f : Nat -> Nat -> Nat}
theorem y30 {x w : Nat} (hx : x < n) (hw : w < n) : x4p [x09 n f, .int (Int.ofNat x), .int (Int.ofNat w)] = some (.bl (decide (f x w = w)), 9) := by
  unfold x4p x9v
  simp [-Int.ofNat_eq_natCast, x1o hx, x20 hw, x5r]
end
section
variable {n : Nat} {f : Nat -> Nat -> Nat}
theorem y9z (hn : n <= 1000) {w : Nat} (hw : w < n) : x3v [x09 n f, .int (Int.ofNat w)] = some (.lst (x0o ((List.range n).filter fun x => decide (f x w = w))), 1) := by
  unfold x3v x7o
  refine x31 (x2s (x1p (deep := false) (ρ2 := [some (x09 n f, 9), some (.int (Int.ofNat w), 9)]) (x2a hn rfl x18) ?_))
  refine y3j (i := 2) (ρ := [some (x09 n f, 9), some (.int (Int.ofNat w), 9)]) (deep := false) rfl (fun x => decide (f x w = w)) (fun x => .int (Int.ofNat x)) (fun _ => 9) (fun j hj => ?_) (fun j hj _ => ?_)
  · simp [-Int.ofNat_eq_natCast, x1o hj, x20 hw, x5r]
  · simp [-Int.ofNat_eq_natCast]
variable (L : Lad n f) {z : Nat} (hz : z < n) (bz : ∀ j, j < n -> f z j = j)
include L hz bz
theorem z5z {w : Nat} (hw : w < n) : decide ((List.range n).map (fun j => f w j) = List.range n) = decide (w = z) := by
  rw [decide_eq_decide, y1a]
  exact ⟨fun h => L.bot_uniq hz bz hw h, fun h => by subst h; exact bz⟩
theorem z0l (hn : n <= 1000) : x39 [x09 n f] = some (.int (Int.ofNat z), 9) := by
  unfold x39 y05
  refine x31 (x2s (ρ1 := [some (x09 n f, 9)]) ?_)
  have hc : x25 1 (x0q (x01 (x0z 0) (x0e))) (x0h 1) (x2y (e2 dEq (x5p (x01 (x1l 0 (x06 1)) (x0e))) (x69 (x01 (x0z 0) (x0e))))) (x06 1) false (x5t 1 [x09 n f]) = some (.lst (x0o [z]), 1, [some (x09 n f, 9)]) := by
    refine (x1p (deep := false) (ρ2 := [some (x09 n f, 9)]) (x2a hn rfl x18) (y3j rfl (fun x => decide (x = z)) (fun x => .int (Int.ofNat x)) (fun _ => 9) (fun j hj => ?_) (fun j hj _ => ?_))).trans ?_
    · have e1 : x5p (x01 (x1l 0 (x06 1)) x0e) ([some (x09 n f, 9)] ++ [some (.int (Int.ofNat j), 9)]) = some (.lst (x0o ((List.range n).map fun k => f j k)), 1, [some (x09 n f, 9), some (.int (Int.ofNat j), 9)]) := by
        simp [-Int.ofNat_eq_natCast, x1o hj, x7s]
      have e2' : x69 (x01 (x0z 0) x0e) [some (x09 n f, 9), some (.int (Int.ofNat j), 9)] = some (.lst (x0o (List.range n)), 1, [some (x09 n f, 9), some (.int (Int.ofNat j), 9)]) := x8w (x2a hn rfl x18)
      unfold x2y e2
      rw [e1]
      simp only [e2', z77, z5z L hz bz hj]
      rfl
    · simp [-Int.ofNat_eq_natCast]
    · rw [x9q, if_pos hz]
      rfl
  unfold eIx
  rw [hc]
  simp [-Int.ofNat_eq_natCast, atD, x0o, L2.atI, ixN]
end
section
variable {n : Nat} {f : Nat -> Nat -> Nat}
variable (L : Lad n f) {z : Nat} (hz : z < n) (bz : ∀ j, j < n -> f z j = j)
include L hz bz
theorem y0c (hn : n <= 1000) : x3a [x09 n f] = some (.int (Int.ofNat z), 9) := by
  have b1 : (-1000 : Int) <= Int.ofNat n := by show (-1000 : Int) <= n; omega
  have b2 : Int.ofNat n <= 1000 := by show (n : Int) <= 1000; omega
  have hr : x1h [.int (Int.ofNat n)] = some (.tup (x0o (List.range n)), 9) := by
    unfold x1h x4k
    simp [-Int.ofNat_eq_natCast, b1, b2]
    rfl
  have hi : z3o (.tup (x0o (List.range n))) ((List.range n).map fun i => x7s n f i) = some z := by
    unfold z3o
    rw [y0s, List.map_map]
    have ev : ∀ i, i < n -> PyData.eqv (toP (x7s n f i)) (toP (.tup (x0o (List.range n)))) = decide (i = z) := fun i hi => (z30 _ _).trans (z5z L hz bz hi)
    refine x6s (x := toP (x7s n f z)) ?_ ?_ ?_
    · rw [List.getElem?_map, List.getElem?_range hz]; rfl
    · rw [ev z hz]; simp
    · intro i y hi hy
      have hi' : i < n := Nat.lt_trans hi hz
      rw [List.getElem?_map, List.getElem?_range hi'] at hy
      cases hy
      refine (ev i hi').trans ?_
      simp; omega
  have h1 : okD (.tup ((List.range n).map fun i => x7s n f i)) = true := (y7o n f).ok
  have h2 : okD (.tup (x0o (List.range n))) = true := (z3r _).ok
  have hl : x8g (.tup ((List.range n).map fun i => x7s n f i)) = some n := x18 (f := f)
  unfold x3a x9y x09
  simp [-Int.ofNat_eq_natCast, hr, hl, h1, h2, hi]
theorem y6p (hn : n <= 1000) {l : List Nat} (hl : l.length <= 1000) (hm : ∀ x ∈ l, x < n) : x38 [x09 n f, .lst (x0o l)] = some (.int (Int.ofNat (l.foldl f z)), 9) := by
  unfold x38 x7q
  refine x31 ?_
  refine (x0j (ρ1 := [some (x09 n f, 9), some (.lst (x0o l), 0), some (.int (Int.ofNat z), 9), none]) ?_).trans ?_
  · simp [-Int.ofNat_eq_natCast, y0c L hz bz hn]
  obtain ⟨ρ', e, y, rfl⟩ := x4g (pt := x0h 3) (body := x30 2 (eIx (x1l 0 (x06 2)) (x06 3))) (x0o l) (fun i ρ => ∃ y, ρ = [some (x09 n f, 9), some (.lst (x0o l), 0), some (.int (Int.ofNat ((l.take i).foldl f z)), 9), y]) [some (x09 n f, 9), some (.lst (x0o l), 0), some (.int (Int.ofNat z), 9), none] (fun i hi ρ hh0 => by
    obtain ⟨y, hy⟩ := hh0
    subst hy
    have hi' : i < l.length := by rw [x1c] at hi; exact hi
    have hg : (x0o l)[i] = .int (Int.ofNat l[i]) := by simp [x0o]
    have hx : l[i] < n := hm _ (List.getElem_mem hi')
    have ha : (l.take i).foldl f z < n := L.fold_lt hz fun x m => hm x (List.mem_of_mem_take m)
    refine ⟨[some (x09 n f, 9), some (.lst (x0o l), 0), some (.int (Int.ofNat ((l.take i).foldl f z)), 9), some (.int (Int.ofNat l[i]), 9)], [some (x09 n f, 9), some (.lst (x0o l), 0), some (.int (Int.ofNat ((l.take (i + 1)).foldl f z)), 9), some (.int (Int.ofNat l[i]), 9)], ?_, .inl ?_, ⟨_, rfl⟩⟩
    · rw [hg]; simp
    · rw [List.take_succ_eq_append_getElem hi', List.foldl_append]
      simp [-Int.ofNat_eq_natCast, x1o ha, x20 hx]) ⟨none, rfl⟩
  rw [x1c, List.take_length] at e
  refine (x0j ((x1y (ds := x0o l) (ρ1 := [some (x09 n f, 9), some (.lst (x0o l), 0), some (.int (Int.ofNat z), 9), none]) ?_).trans e)).trans ?_
  · simp [x1c, hl]
  · simp [-Int.ofNat_eq_natCast]
end
noncomputable def x5f (n : Nat) : D -> Bool
  | .int i => decide (0 <= i) && decide (i < (n : Int))
  | _ => false
noncomputable def x2j (m n : Nat) : D -> Bool
  | .tup ds => decide (ds.length = m) && ds.all (x5f n)
  | _ => false
theorem x2p (d : D) : x4r [d] = some (.bl (match d with | .int _ => true | _ => false), 9) := by
  unfold x4r x9u
  cases d <;> simp [isD]
theorem y1r (n : Nat) (d : D) : x2l [d, .int (Int.ofNat n)] = some (.bl (x5f n d), 9) := by
  unfold x2l x6a
  cases d with
  | int i =>
    have h := x2p (.int i)
    by_cases h0 : 0 <= i
    · by_cases h1 : i < (n : Int)
      · simp [h, x5f, h0, h1]
      · simp [h, x5f, h0, h1]
    · simp [h, x5f, h0]
  | non => simp [x2p, x5f]
  | bl b => simp [x2p, x5f]
  | str x => simp [x2p, x5f]
  | tup ds => simp [x2p, x5f]
  | lst ds => simp [x2p, x5f]
  | dic ks ds => simp [x2p, x5f]
  | exc nm => simp [x2p, x5f]
theorem y1l (m n : Nat) (d : D) (hl : ∀ ds, d = .tup ds -> ds.length <= 1000) : x1k [d, .int (Int.ofNat m), .int (Int.ofNat n)] = some (.bl (x2j m n d), 9) := by
  unfold x1k x6d
  cases d with
  | tup ds =>
    have hl := hl ds rfl
    refine x31 ?_
    have hs : x5t 3 [.tup ds, .int (Int.ofNat m), .int (Int.ofNat n)] = [some (.tup ds, 9), some (.int (Int.ofNat m), 9), some (.int (Int.ofNat n), 9)] := rfl
    rw [hs]
    by_cases hm : ds.length = m
    · refine (x0j (ρ1 := [some (.tup ds, 9), some (.int (Int.ofNat m), 9), some (.int (Int.ofNat n), 9)]) ?_).trans ?_
      · simp [-Int.ofNat_eq_natCast, isD, x8g, hm, x4j]
      · have hi : x7b (x06 0) [some (.tup ds, 9), some (.int (Int.ofNat m), 9), some (.int (Int.ofNat n), 9)] = some (ds, [some (.tup ds, 9), some (.int (Int.ofNat m), 9), some (.int (Int.ofNat n), 9)]) := by simp [hl]
        have hc := x2v (k := 1) (pt := x0h 3) (tt := x1f) (te := x0n x2l 2 (x01 (x06 3) (x01 (x06 2) (x0e)))) (deep := false) ds (fun _ => [some (.tup ds, 9), some (.int (Int.ofNat m), 9), some (.int (Int.ofNat n), 9)]) (fun _ => true) (fun i => .bl (x5f n (ds.getD i .non))) (fun i hi => by
          have hg : ds.getD i .non = ds[i] := by simp [hi]
          refine ⟨[some (.tup ds, 9), some (.int (Int.ofNat m), 9), some (.int (Int.ofNat n), 9), some (ds[i], x2e ds[i])], [some (.tup ds, 9), some (.int (Int.ofNat m), 9), some (.int (Int.ofNat n), 9), some (ds[i], x2e ds[i])], by simp [-x2e], rfl, ?_⟩
          rw [if_pos rfl]
          refine ⟨9, [some (.tup ds, 9), some (.int (Int.ofNat m), 9), some (.int (Int.ofNat n), 9), some (ds[i], x2e ds[i])], ?_, by simp, by simp⟩
          have hv : ∃ q, x06 3 [some (.tup ds, 9), some (.int (Int.ofNat m), 9), some (.int (Int.ofNat n), 9), some (ds[i], x2e ds[i])] = some (ds[i], q, [some (.tup ds, 9), some (.int (Int.ofNat m), 9), some (.int (Int.ofNat n), 9), some (ds[i], x2e ds[i])]) := by
            cases hL : (ds[i]).isL with
            | false => exact ⟨9, by simp [-x2e, hL]⟩
            | true => exact ⟨0, by simp [hL]⟩
          obtain ⟨q, hv⟩ := hv
          rw [hg]
          exact x0u (x1a hv (x1d (q := 9) rfl)) rfl (y1r n _))
        rw [show (List.range ds.length).filter (fun _ => true) = List.range ds.length by simp] at hc
        have e : (List.range ds.length).map (fun i => D.bl (x5f n (ds.getD i .non))) = ds.map fun d => .bl (x5f n d) := by
          apply List.ext_getElem?
          intro k
          by_cases hk : k < ds.length
          · simp [hk]
          · rw [List.getElem?_eq_none (by simp; omega), List.getElem?_eq_none (by simp; omega)]
        rw [e] at hc
        refine x2s (z3d (x1d (x1p (deep := false) hi hc)) ?_)
        simp only [y75, y0v, Option.map_some, x2j, hm]
        simp [List.all_map, Function.comp_def]
    · have e : x2j m n (.tup ds) = false := by simp [x2j, hm]
      rw [e]
      refine x3z ?_
      simp [-Int.ofNat_eq_natCast, isD, x8g, x4j, hm]
  | non => simp [isD, x2j]
  | bl b => simp [isD, x2j]
  | int i => simp [isD, x2j]
  | str x => simp [isD, x2j]
  | lst ds => simp [isD, x2j]
  | dic ks ds => simp [isD, x2j]
  | exc nm => simp [isD, x2j]
theorem y5d (m n : Nat) (hm : m <= 1000) (d : D) : x1k [d, .int (Int.ofNat m), .int (Int.ofNat n)] = some (.bl (x2j m n d), 9) := by
  by_cases h : ∀ ds, d = .tup ds -> ds.length <= 1000
  · exact y1l m n d h
  · cases d with
    | tup ds =>
      have hne : ds.length ≠ m := fun e => h fun ds' e' => by cases e'; omega
      have e : x2j m n (.tup ds) = false := by simp [x2j, hne]
      unfold x1k x6d
      refine x31 ?_
      rw [e]
      refine x3z ?_
      simp [-Int.ofNat_eq_natCast, isD, x8g, x4j, hne]
    | _ => exact absurd (fun ds e => nomatch e) h
theorem y4v {n : Nat} {r : Nat -> Nat} (hr : ∀ i, i < n -> r i < n) : x2j n n (x04 n r) = true := by
  unfold x2j x04
  simp only [x1c, List.length_map, List.length_range, decide_true, Bool.true_and]
  rw [List.all_eq_true]
  intro d m
  obtain ⟨x, hx, rfl⟩ := List.mem_map.mp m
  obtain ⟨i, hi, rfl⟩ := List.mem_map.mp hx
  have := hr i (List.mem_range.mp hi)
  show (decide ((0 : Int) <= (r i : Int)) && decide ((r i : Int) < (n : Int))) = true
  simp; omega
theorem x8b {n : Nat} (hn : n <= 1000) {i q : Nat} {ρ : Rho} (h : ρ[i]? = some (some (.int (Int.ofNat n), q))) : x0q (x01 (x06 i) x0e) ρ = some (x0v n, ρ) := by
  have b1 : (-1000 : Int) <= Int.ofNat n := by show (-1000 : Int) <= n; omega
  have b2 : Int.ofNat n <= 1000 := by show (n : Int) <= 1000; omega
  simp only [x0q, x01, x06, x0e, h, D.isL_int, if_true]
  rw [if_pos ⟨b1, b2⟩]
  rfl
section
variable {n : Nat} {f : Nat -> Nat -> Nat}
noncomputable def ljB (n : Nat) (f g : Nat -> Nat -> Nat) (r : Nat -> Nat) : Bool := (List.range n).all fun x => (List.range n).all fun y => decide (r (f x y) = g (r x) (r y))
theorem y0b {g : Nat -> Nat -> Nat} {r : Nat -> Nat} : ljB n f g r = true ↔ ∀ x y, x < n -> y < n -> r (f x y) = g (r x) (r y) := by
  unfold ljB
  rw [L3.range_all]
  exact ⟨fun h x y hx hy => of_decide_eq_true (L3.range_all.mp (h x hx) y hy), fun h x hx => L3.range_all.mpr fun y hy => decide_eq_true (h x y hx hy)⟩
variable (L : Lad n f)
include L
theorem z02 {m : Nat} {g : Nat -> Nat -> Nat} {r : Nat -> Nat} (hr : ∀ i, i < n -> r i < m) : x1e [x09 n f, x09 m g, x04 n r] = some (.bl (ljB n f g r), 9) := by
  have hn : n <= 1000 := Nat.le_trans L.hi (by decide)
  unfold x1e x3l
  refine x31 ?_
  refine (x0j (ρ1 := [some (x09 n f, 9), some (x09 m g, 9), some (x04 n r, 9), some (.int (Int.ofNat n), 9), none, none]) ?_).trans ?_
  · simp [x18]
  obtain ⟨h1, h2⟩ := x40 (pt := x0h 4) (body := x58) (d := .bl false) (q := 9) (x0v n) (fun ρ => ∃ x y, ρ = [some (x09 n f, 9), some (x09 m g, 9), some (x04 n r, 9), some (.int (Int.ofNat n), 9), x, y]) (fun x => (List.range n).all fun y => decide (r (f x y) = g (r x) (r y))) [some (x09 n f, 9), some (x09 m g, 9), some (x04 n r, 9), some (.int (Int.ofNat n), 9), none, none] (fun x hx ρ ⟨a, b, e⟩ => by
    subst e
    have hx' : x < n := by rw [x0d] at hx; exact hx
    refine ⟨[some (x09 n f, 9), some (x09 m g, 9), some (x04 n r, 9), some (.int (Int.ofNat n), 9), some (.int (Int.ofNat x), 9), b], by rw [show (x0v n)[x] = .int (Int.ofNat x) by simp [x0v]]; simp, ?_⟩
    obtain ⟨i1, i2⟩ := x40 (pt := x0h 5) (body := x57) (d := .bl false) (q := 9) (x0v n) (fun ρ => ∃ y, ρ = [some (x09 n f, 9), some (x09 m g, 9), some (x04 n r, 9), some (.int (Int.ofNat n), 9), some (.int (Int.ofNat x), 9), y]) (fun y => decide (r (f x y) = g (r x) (r y))) [some (x09 n f, 9), some (x09 m g, 9), some (x04 n r, 9), some (.int (Int.ofNat n), 9), some (.int (Int.ofNat x), 9), b] (fun y hy ρ ⟨b, e⟩ => by
      subst e
      have hy' : y < n := by rw [x0d] at hy; exact hy
      refine ⟨[some (x09 n f, 9), some (x09 m g, 9), some (x04 n r, 9), some (.int (Int.ofNat n), 9), some (.int (Int.ofNat x), 9), some (.int (Int.ofNat y), 9)], by rw [show (x0v n)[y] = .int (Int.ofNat y) by simp [x0v]]; simp, fun ok => ⟨[some (x09 n f, 9), some (x09 m g, 9), some (x04 n r, 9), some (.int (Int.ofNat n), 9), some (.int (Int.ofNat x), 9), some (.int (Int.ofNat y), 9)], ?_, ⟨_, rfl⟩⟩, fun no => ?_⟩
      · have ok' := of_decide_eq_true ok
        simp [-Int.ofNat_eq_natCast, x1o hx', x20 hy', x2o (L.cl x y hx' hy'), x2o hx', x2o hy', x1o (hr x hx'), x20 (hr y hy'), x4j, ok']
      · have no' := of_decide_eq_false no
        simp [-Int.ofNat_eq_natCast, x1o hx', x20 hy', x2o (L.cl x y hx' hy'), x2o hx', x2o hy', x1o (hr x hx'), x20 (hr y hy'), x4j, no']) ⟨b, rfl⟩
    rw [x0d] at i1 i2
    refine ⟨fun ok => ?_, fun no => (x1y (x8b hn (i := 3) (q := 9) rfl)).trans (i2 no)⟩
    obtain ⟨ρ2, e, b', rfl⟩ := i1 ok
    exact ⟨_, (x1y (x8b hn (i := 3) (q := 9) rfl)).trans e, _, _, rfl⟩) ⟨none, none, rfl⟩
  rw [x0d] at h1 h2
  cases h : ljB n f g r with
  | true =>
    obtain ⟨ρ', e, x, y, rfl⟩ := h1 h
    exact (x0j ((x1y (x8b hn (i := 3) (q := 9) rfl)).trans e)).trans rfl
  | false => exact x3z ((x1y (x8b hn (i := 3) (q := 9) rfl)).trans (h2 h))
end
theorem x6y {i : Nat} {ρ : Rho} {d : D} (h : ρ[i]? = some (some (d, x2e d))) : x06 i ρ = some (d, x2e d, ρ) := by
  unfold x06
  rw [h]
  cases hL : d.isL with
  | false => simp [hL]
  | true => simp [hL]
noncomputable def x6h (ds : List D) (i : Nat) : Nat := match ds[i]? with
  | some (.int k) => k.toNat
  | _ => 0
theorem z0e {m n : Nat} {ds : List D} (h : x2j m n (.tup ds) = true) : ds.length = m /\ ∀ i, i < m -> ds[i]? = some (.int (Int.ofNat (x6h ds i))) /\ x6h ds i < n := by
  unfold x2j at h
  simp only [Bool.and_eq_true, decide_eq_true_eq, List.all_eq_true] at h
  obtain ⟨hl, ha⟩ := h
  refine ⟨hl, fun i hi => ?_⟩
  have hi' : i < ds.length := by omega
  have hm := ha ds[i] (List.getElem_mem hi')
  have hg : ds[i]? = some ds[i] := List.getElem?_eq_getElem hi'
  unfold x6h
  rw [hg]
  cases e : ds[i] with
  | int k =>
    rw [e] at hm
    unfold x5f at hm
    simp only [Bool.and_eq_true, decide_eq_true_eq] at hm
    refine ⟨?_, ?_⟩
    · show some (D.int k) = some (D.int ((k.toNat : Nat) : Int))
      rw [Int.toNat_of_nonneg hm.1]
    · show k.toNat < n
      omega
  | _ => rw [e] at hm; cases hm
theorem z6i {m n : Nat} {ds : List D} (h : x2j m n (.tup ds) = true) : D.tup ds = x04 m (x6h ds) := by
  obtain ⟨hl, key⟩ := z0e h
  unfold x04
  congr 1
  apply List.ext_getElem?
  intro i
  by_cases hi : i < m
  · rw [(key i hi).1, x5z, List.getElem?_map, List.getElem?_range hi]
    rfl
  · rw [List.getElem?_eq_none (by omega), List.getElem?_eq_none (by simp [x1c]; omega)]
theorem x3n {n i : Nat} {r : Nat -> Nat} (hi : i < n) : x6h (x0o ((List.range n).map r)) i = r i := by
  unfold x6h
  rw [x5z, List.getElem?_map, List.getElem?_range hi]
  rfl
theorem y5s {n : Nat} (hn : n <= 1000) {i q : Nat} {ρ : Rho} (h : ρ[i]? = some (some (.int (Int.ofNat n), q))) : x0q (x01 (x06 i) x0e) ρ = some (x0v n, ρ) := by
  have b1 : (-1000 : Int) <= Int.ofNat n := by show (-1000 : Int) <= n; omega
  have b2 : Int.ofNat n <= 1000 := by show (n : Int) <= 1000; omega
  simp only [x0q, x01, x06, x0e, h, D.isL_int, if_true]
  rw [if_pos ⟨b1, b2⟩]
  rfl
noncomputable def pkr (ns : List Int) (c : Int) (n k : Nat) : Nat := (x7c ns (c + Int.ofNat k) (Int.ofNat n)).toNat
theorem z4h (ns : List Int) (c : Int) {n : Nat} (hn : 0 < n) (k : Nat) : pkr ns c n k < n := by
  have hnp : (0 : Int) < Int.ofNat n := by show (0 : Int) < (n : Int); omega
  have h1 := x5y ns (c + Int.ofNat k) hnp
  have h2 := x7j ns (c + Int.ofNat k) hnp
  have h3 : Int.ofNat n = (n : Int) := rfl
  unfold pkr
  omega
section
variable {n : Nat} {f : Nat -> Nat -> Nat}
theorem y0e {n : Nat} (hn : n <= 1000) {i q : Nat} {ρ : Rho} (h : ρ[i]? = some (some (.int (Int.ofNat n), q))) : x0q (x01 (x06 i) x0e) ρ = some (x0v n, ρ) := by
  have b1 : (-1000 : Int) <= Int.ofNat n := by show (-1000 : Int) <= n; omega
  have b2 : Int.ofNat n <= 1000 := by show (n : Int) <= 1000; omega
  simp only [x0q, x01, x06, x0e, h, D.isL_int, if_true]
  rw [if_pos ⟨b1, b2⟩]
  rfl
theorem x5o {n i : Nat} (h : i < (x0v n).length) : (x0v n)[i] = .int (Int.ofNat i) := by simp [x0v]
theorem z38 (hn : n <= 1000) : x0x [x09 n f] = some (.bl ((List.range n).all fun x => decide (f x x = x)), 9) := by
  unfold x0x x36
  refine x31 (x2s (ρ1 := [some (x09 n f, 9)]) ?_)
  have hc := x1p (k := 1) (tt := x1f) (te := e2 dEq (eIx (x1l 0 (x06 1)) (x06 1)) (x06 1)) (deep := false) (x2a hn (i := 0) (ρ := [some (x09 n f, 9)]) rfl x18) (y3j (i := 1) rfl (fun _ => true) (fun x => .bl (decide (f x x = x))) (fun _ => 9) (fun j hj => rfl) (fun j hj _ => by
    simp [-Int.ofNat_eq_natCast, x1o hj, x20 hj, x5r]))
  rw [show (List.range n).filter (fun _ => true) = List.range n by simp] at hc
  refine z3d (x1d hc) ?_
  simp only [y75, y0v, Option.map_some]
  simp [List.all_map, Function.comp_def]
theorem y7q (hn : n <= 1000) : x17 [x09 n f] = some (.bl ((List.range n).all fun x => (List.range x).all fun y => decide (f x y = f y x)), 9) := by
  unfold x17 x3k
  refine x31 ?_
  have hs : x5t 3 [x09 n f] = [some (x09 n f, 9), none, none] := rfl
  rw [hs]
  obtain ⟨h1, h2⟩ := x40 (pt := x0h 1) (body := x5g (x0q (x01 (x06 1) (x0e))) (x0h 2) (sIf (x2y (e2 dNe (eIx (x1l 0 (x06 1)) (x06 2)) (eIx (x1l 0 (x06 2)) (x06 1)))) (x29 (eC (.bl false))) (x4f))) (d := .bl false) (q := 9) (x0v n) (fun ρ => ∃ x y, ρ = [some (x09 n f, 9), x, y]) (fun x => (List.range x).all fun y => decide (f x y = f y x)) [some (x09 n f, 9), none, none] (fun x hx ρ ⟨a, b, e⟩ => by
    subst e
    have hx' : x < n := by rw [x0d] at hx; exact hx
    have hx1 : x <= 1000 := by omega
    refine ⟨[some (x09 n f, 9), some (.int (Int.ofNat x), 9), b], by rw [x5o]; simp, ?_⟩
    obtain ⟨i1, i2⟩ := x40 (pt := x0h 2) (body := sIf (x2y (e2 dNe (eIx (x1l 0 (x06 1)) (x06 2)) (eIx (x1l 0 (x06 2)) (x06 1)))) (x29 (eC (.bl false))) (x4f)) (d := .bl false) (q := 9) (x0v x) (fun ρ => ∃ y, ρ = [some (x09 n f, 9), some (.int (Int.ofNat x), 9), y]) (fun y => decide (f x y = f y x)) [some (x09 n f, 9), some (.int (Int.ofNat x), 9), b] (fun y hy ρ ⟨b, e⟩ => by
      subst e
      have hy'' : y < x := by rw [x0d] at hy; exact hy
      have hy' : y < n := Nat.lt_trans hy'' hx'
      refine ⟨[some (x09 n f, 9), some (.int (Int.ofNat x), 9), some (.int (Int.ofNat y), 9)], by rw [x5o]; simp, fun ok => ⟨[some (x09 n f, 9), some (.int (Int.ofNat x), 9), some (.int (Int.ofNat y), 9)], ?_, ⟨_, rfl⟩⟩, fun no => ?_⟩
      · have ok' := of_decide_eq_true ok
        simp [-Int.ofNat_eq_natCast, x1o hx', x20 hy', x1o hy', x20 hx', x4j, ok']
      · have no' := of_decide_eq_false no
        simp [-Int.ofNat_eq_natCast, x1o hx', x20 hy', x1o hy', x20 hx', x4j, no']) ⟨b, rfl⟩
    rw [x0d] at i1 i2
    refine ⟨fun ok => ?_, fun no => (x1y (y0e hx1 (i := 1) (q := 9) rfl)).trans (i2 no)⟩
    obtain ⟨ρ2, e, b', rfl⟩ := i1 ok
    exact ⟨_, (x1y (y0e hx1 (i := 1) (q := 9) rfl)).trans e, _, _, rfl⟩) ⟨none, none, rfl⟩
  rw [x0d] at h1 h2
  cases h : ((List.range n).all fun x => (List.range x).all fun y => decide (f x y = f y x)) with
  | true =>
    obtain ⟨ρ', e, x, y, rfl⟩ := h1 h
    exact (x0j ((x1y (x2a hn rfl x18)).trans e)).trans rfl
  | false => exact x3z ((x1y (x2a hn rfl x18)).trans (h2 h))
theorem z29 (hn : n <= 1000) (cl : ∀ i j, i < n -> j < n -> f i j < n) : x0r [x09 n f] = some (.bl ((List.range n).all fun x => (List.range n).all fun y => (List.range n).all fun z => decide (f (f x y) z = f x (f y z))), 9) := by
  unfold x0r x2u
  refine x31 ?_
  refine (x0j (ρ1 := [some (x09 n f, 9), some (.int (Int.ofNat n), 9), none, none, none]) (by simp [x18])).trans ?_
  have hR : ∀ ρ : Rho, ρ[1]? = some (some (.int (Int.ofNat n), 9)) -> x0q (x01 (x06 1) x0e) ρ = some (x0v n, ρ) := fun ρ h => y0e hn h
  obtain ⟨h1, h2⟩ := x40 (pt := x0h 2) (body := x5g (x0q (x01 (x06 1) (x0e))) (x0h 3) (x5g (x0q (x01 (x06 1) (x0e))) (x0h 4) (sIf (x2y (e2 dNe (eIx (x1l 0 (eIx (x1l 0 (x06 2)) (x06 3))) (x06 4)) (eIx (x1l 0 (x06 2)) (eIx (x1l 0 (x06 3)) (x06 4))))) (x29 (eC (.bl false))) (x4f)))) (d := .bl false) (q := 9) (x0v n) (fun ρ => ∃ x y z, ρ = [some (x09 n f, 9), some (.int (Int.ofNat n), 9), x, y, z]) (fun x => (List.range n).all fun y => (List.range n).all fun z => decide (f (f x y) z = f x (f y z))) [some (x09 n f, 9), some (.int (Int.ofNat n), 9), none, none, none] (fun x hx ρ ⟨a, b, c, e⟩ => by
    subst e
    have hx' : x < n := by rw [x0d] at hx; exact hx
    refine ⟨[some (x09 n f, 9), some (.int (Int.ofNat n), 9), some (.int (Int.ofNat x), 9), b, c], by rw [x5o]; simp, ?_⟩
    obtain ⟨i1, i2⟩ := x40 (pt := x0h 3) (body := x5g (x0q (x01 (x06 1) (x0e))) (x0h 4) (sIf (x2y (e2 dNe (eIx (x1l 0 (eIx (x1l 0 (x06 2)) (x06 3))) (x06 4)) (eIx (x1l 0 (x06 2)) (eIx (x1l 0 (x06 3)) (x06 4))))) (x29 (eC (.bl false))) (x4f))) (d := .bl false) (q := 9) (x0v n) (fun ρ => ∃ y z, ρ = [some (x09 n f, 9), some (.int (Int.ofNat n), 9), some (.int (Int.ofNat x), 9), y, z]) (fun y => (List.range n).all fun z => decide (f (f x y) z = f x (f y z))) [some (x09 n f, 9), some (.int (Int.ofNat n), 9), some (.int (Int.ofNat x), 9), b, c] (fun y hy ρ ⟨b, c, e⟩ => by
      subst e
      have hy' : y < n := by rw [x0d] at hy; exact hy
      refine ⟨[some (x09 n f, 9), some (.int (Int.ofNat n), 9), some (.int (Int.ofNat x), 9), some (.int (Int.ofNat y), 9), c], by rw [x5o]; simp, ?_⟩
      obtain ⟨j1, j2⟩ := x40 (pt := x0h 4) (body := sIf (x2y (e2 dNe (eIx (x1l 0 (eIx (x1l 0 (x06 2)) (x06 3))) (x06 4)) (eIx (x1l 0 (x06 2)) (eIx (x1l 0 (x06 3)) (x06 4))))) (x29 (eC (.bl false))) (x4f)) (d := .bl false) (q := 9) (x0v n) (fun ρ => ∃ z, ρ = [some (x09 n f, 9), some (.int (Int.ofNat n), 9), some (.int (Int.ofNat x), 9), some (.int (Int.ofNat y), 9), z]) (fun z => decide (f (f x y) z = f x (f y z))) [some (x09 n f, 9), some (.int (Int.ofNat n), 9), some (.int (Int.ofNat x), 9), some (.int (Int.ofNat y), 9), c] (fun z hz ρ ⟨c, e⟩ => by
        subst e
        have hz' : z < n := by rw [x0d] at hz; exact hz
        have hxy := cl x y hx' hy'
        have hyz := cl y z hy' hz'
        refine ⟨[some (x09 n f, 9), some (.int (Int.ofNat n), 9), some (.int (Int.ofNat x), 9), some (.int (Int.ofNat y), 9), some (.int (Int.ofNat z), 9)], by rw [x5o]; simp, fun ok => ⟨[some (x09 n f, 9), some (.int (Int.ofNat n), 9), some (.int (Int.ofNat x), 9), some (.int (Int.ofNat y), 9), some (.int (Int.ofNat z), 9)], ?_, ⟨_, rfl⟩⟩, fun no => ?_⟩
        · have ok' := of_decide_eq_true ok
          simp [-Int.ofNat_eq_natCast, x1o hx', x1o hy', x1o hxy, x20 hy', x20 hz', x20 hyz, x4j, ok']
        · have no' := of_decide_eq_false no
          simp [-Int.ofNat_eq_natCast, x1o hx', x1o hy', x1o hxy, x20 hy', x20 hz', x20 hyz, x4j, no']) ⟨c, rfl⟩
      rw [x0d] at j1 j2
      refine ⟨fun ok => ?_, fun no => (x1y (hR _ rfl)).trans (j2 no)⟩
      obtain ⟨ρ2, e, c', rfl⟩ := j1 ok
      exact ⟨_, (x1y (hR _ rfl)).trans e, _, _, rfl⟩) ⟨b, c, rfl⟩
    rw [x0d] at i1 i2
    refine ⟨fun ok => ?_, fun no => (x1y (hR _ rfl)).trans (i2 no)⟩
    obtain ⟨ρ2, e, b', c', rfl⟩ := i1 ok
    exact ⟨_, (x1y (hR _ rfl)).trans e, _, _, _, rfl⟩) ⟨none, none, none, rfl⟩
  rw [x0d] at h1 h2
  cases h : ((List.range n).all fun x => (List.range n).all fun y => (List.range n).all fun z => decide (f (f x y) z = f x (f y z))) with
  | true =>
    obtain ⟨ρ', e, x, y, z, rfl⟩ := h1 h
    exact (x0j ((x1y (hR _ rfl)).trans e)).trans rfl
  | false => exact x3z ((x1y (hR _ rfl)).trans (h2 h))
noncomputable def x90 (n : Nat) (f : Nat -> Nat -> Nat) : Bool := (List.range n).any fun z => decide ((List.range n).map (fun j => f z j) = List.range n)
theorem y1x (hn : n <= 1000) : x33 [x09 n f] = some (.bl (x90 n f), 9) := by
  have b1 : (-1000 : Int) <= Int.ofNat n := by show (-1000 : Int) <= n; omega
  have b2 : Int.ofNat n <= 1000 := by show (n : Int) <= 1000; omega
  have hr : x1h [.int (Int.ofNat n)] = some (.tup (x0o (List.range n)), 9) := by
    unfold x1h x4k
    simp [-Int.ofNat_eq_natCast, b1, b2]
    rfl
  have hi : dIn (.tup (x0o (List.range n))) (x09 n f) = some (.bl (x90 n f)) := by
    unfold dIn
    rw [if_pos ⟨(z3r _).ok, (y7o n f).ok⟩]
    have e : inD (.tup (x0o (List.range n))) (x09 n f) = some (x90 n f) := by
      show some ((x5x ((List.range n).map fun i => x7s n f i)).any fun y => PyData.eqv y (toP (.tup (x0o (List.range n))))) = some (x90 n f)
      rw [y0s, List.map_map, List.any_map]
      unfold x90
      congr 1
      refine congrArg (fun p => (List.range n).any p) (funext fun z => ?_)
      exact z30 _ _
    rw [e]
    rfl
  unfold x33 x8p
  simp [-Int.ofNat_eq_natCast, x18, hr, hi]
end
noncomputable def z71 (n : Nat) (f : Nat -> Nat -> Nat) : Bool := ((List.range n).all fun x => decide (f x x = x)) && ((List.range n).all fun x => (List.range x).all fun y => decide (f x y = f y x)) &&
  (((List.range n).all fun x => (List.range n).all fun y => (List.range n).all fun z => decide (f (f x y) z = f x (f y z))) && x90 n f)
theorem y81 {m : Nat} (hm : m <= 1000) (ds : List D) (hl : ∀ d ∈ ds, ∀ es, d = .tup es -> es.length <= 1000) : eB y75 (x01 (x25 1 (x7b (x06 0)) (x0h 2) (x1f) (x0n x1k 3 (x01 (x06 2) (x01 (x06 1) (x01 (x06 1) (x0e))))) false) (x0e)) [some (.tup ds, 9), some (.int (Int.ofNat m), 9)] = (if ds.length <= 1000 then some (.bl (ds.all (x2j m m)), 9, [some (.tup ds, 9), some (.int (Int.ofNat m), 9)]) else none) := by
  by_cases h1 : ds.length <= 1000
  · rw [if_pos h1]
    have hi : x7b (x06 0) [some (.tup ds, 9), some (.int (Int.ofNat m), 9)] = some (ds, [some (.tup ds, 9), some (.int (Int.ofNat m), 9)]) := by simp [h1]
    have hc := x2v (k := 1) (pt := x0h 2) (tt := x1f) (te := x0n x1k 3 (x01 (x06 2) (x01 (x06 1) (x01 (x06 1) (x0e))))) (deep := false) ds (fun _ => [some (.tup ds, 9), some (.int (Int.ofNat m), 9)]) (fun _ => true) (fun i => .bl (x2j m m (ds.getD i .non))) (fun i hi => by
      have hg : ds.getD i .non = ds[i] := by simp [hi]
      refine ⟨[some (.tup ds, 9), some (.int (Int.ofNat m), 9), some (ds[i], x2e ds[i])], [some (.tup ds, 9), some (.int (Int.ofNat m), 9), some (ds[i], x2e ds[i])], by simp [-x2e], rfl, ?_⟩
      rw [if_pos rfl]
      refine ⟨9, [some (.tup ds, 9), some (.int (Int.ofNat m), 9), some (ds[i], x2e ds[i])], ?_, by simp, by simp⟩
      have hv : ∃ q, x06 2 [some (.tup ds, 9), some (.int (Int.ofNat m), 9), some (ds[i], x2e ds[i])] = some (ds[i], q, [some (.tup ds, 9), some (.int (Int.ofNat m), 9), some (ds[i], x2e ds[i])]) := by
        cases hL : (ds[i]).isL with
        | false => exact ⟨9, by simp [-x2e, hL]⟩
        | true => exact ⟨0, by simp [hL]⟩
      obtain ⟨q, hv⟩ := hv
      rw [hg]
      exact x0u (x1a hv (x1a (f := x06 1) (q := 9) rfl (x1d (f := x06 1) (q := 9) rfl))) rfl (y1l m m _ (hl _ (List.getElem_mem hi))))
    rw [show (List.range ds.length).filter (fun _ => true) = List.range ds.length by simp] at hc
    have e : (List.range ds.length).map (fun i => D.bl (x2j m m (ds.getD i .non))) = ds.map fun d => .bl (x2j m m d) := by
      apply List.ext_getElem?
      intro k
      by_cases hk : k < ds.length
      · simp [hk]
      · rw [List.getElem?_eq_none (by simp; omega), List.getElem?_eq_none (by simp; omega)]
    rw [e] at hc
    refine z3d (x1d (x1p (deep := false) hi hc)) ?_
    simp only [y75, y0v, Option.map_some]
    simp [List.all_map, Function.comp_def]
  · rw [if_neg h1]
    simp [h1]
theorem z4v (ds : List D) (h : 1 <= ds.length /\ ds.length <= 16) (hl : ∀ d ∈ ds, ∀ es, d = .tup es -> es.length <= 1000) : x3u [.tup ds] = (if ds.all (x2j ds.length ds.length) = true then fnD 2 (fun ρ => (x1i (sIf (y54 (x45 (x8q (x0n x0x 1 (x01 (x06 0) (x0e))))) (x45 (x8q (x0n x17 1 (x01 (x06 0) (x0e)))))) (x29 (eC (.bl false))) (x4f))
  (x29 (y7r (x0n x0r 1 (x01 (x06 0) (x0e))) (x0n x33 1 (x01 (x06 0) (x0e)))))) [some (.tup ds, 9), some (.int (Int.ofNat ds.length), 9)]) [.tup ds] else some (.bl false, 9)) := by
  have h1 : (1 : Int) <= Int.ofNat ds.length := by show (1 : Int) <= (ds.length : Int); omega
  have h2 : Int.ofNat ds.length <= 16 := by show (ds.length : Int) <= 16; omega
  have hr := y81 (m := ds.length) (by omega) ds hl
  rw [if_pos (by omega)] at hr
  have hs : x5t 2 [.tup ds] = [some (.tup ds, 9), none] := rfl
  have st : x6k [some (.tup ds, 9), none] = (x1i (sIf (x45 (x8q (eB y75 (x01 (x25 1 (x7b (x06 0)) (x0h 2) (x1f) (x0n x1k 3 (x01 (x06 2) (x01 (x06 1) (x01 (x06 1) (x0e))))) false) (x0e))))) (x29 (eC (.bl false))) (x4f))
  (x1i (sIf (y54 (x45 (x8q (x0n x0x 1 (x01 (x06 0) (x0e))))) (x45 (x8q (x0n x17 1 (x01 (x06 0) (x0e)))))) (x29 (eC (.bl false))) (x4f))
  (x29 (y7r (x0n x0r 1 (x01 (x06 0) (x0e))) (x0n x33 1 (x01 (x06 0) (x0e))))))) [some (.tup ds, 9), some (.int (Int.ofNat ds.length), 9)] := by
    unfold x6k
    refine (x0j (ρ1 := [some (.tup ds, 9), none]) ?_).trans ?_
    · simp [-Int.ofNat_eq_natCast, isD, x8g, h1, h2]
    · exact x0j (by simp [x8g])
  unfold x3u fnD
  rw [hs, st]
  cases hB : ds.all (x2j ds.length ds.length) with
  | true =>
    rw [hB] at hr
    rw [if_pos rfl, x0j (ρ1 := [some (.tup ds, 9), some (.int (Int.ofNat ds.length), 9)])]
    refine (y0m (ρ1 := [some (.tup ds, 9), some (.int (Int.ofNat ds.length), 9)]) ?_).trans rfl
    unfold x45 x8q
    rw [hr]
    rfl
  | false =>
    rw [hB] at hr
    rw [if_neg (by decide), x3z (d := .bl false) (q := 9)]
    refine (y2s (ρ1 := [some (.tup ds, 9), some (.int (Int.ofNat ds.length), 9)]) ?_).trans rfl
    unfold x45 x8q
    rw [hr]
    rfl
theorem z0z {n : Nat} {f : Nat -> Nat -> Nat} (h1 : 1 <= n) (h2 : n <= 16) (cl : ∀ i j, i < n -> j < n -> f i j < n) : x3u [x09 n f] = some (.bl (z71 n f), 9) := by
  have hn : n <= 1000 := by omega
  have hlen : ((List.range n).map fun i => x7s n f i).length = n := by simp
  have hl : ∀ d ∈ ((List.range n).map fun i => x7s n f i), ∀ es, d = .tup es -> es.length <= 1000 := fun d m es e => by
    obtain ⟨i, _, rfl⟩ := List.mem_map.mp m
    cases e
    rw [x1c, List.length_map, List.length_range]; exact hn
  have hall : ((List.range n).map fun i => x7s n f i).all (x2j n n) = true := by
    rw [List.all_eq_true]
    intro d m
    obtain ⟨i, hi, rfl⟩ := List.mem_map.mp m
    exact y4v (r := fun j => f i j) fun j hj => cl i j (List.mem_range.mp hi) hj
  have hg := z4v ((List.range n).map fun i => x7s n f i) (by rw [hlen]; exact ⟨h1, h2⟩) hl
  rw [hlen, if_pos hall] at hg
  refine hg.trans ?_
  have q1 := z38 (f := f) hn
  have q2 := y7q (f := f) hn
  have q3 := z29 hn cl
  have q4 := y1x (f := f) hn
  show fnD 2 (fun _ => (x1i _ _) [some (x09 n f, 9), some (.int (Int.ofNat n), 9)]) _ = _
  unfold z71
  generalize ((List.range n).all fun x => decide (f x x = x)) = b1 at *
  generalize ((List.range n).all fun x => (List.range x).all fun y => decide (f x y = f y x)) = b2 at *
  generalize ((List.range n).all fun x => (List.range n).all fun y => (List.range n).all fun z => decide (f (f x y) z = f x (f y z))) = b3 at *
  cases b1 <;> cases b2 <;> cases b3 <;> simp [q1, q2, q3, q4]
theorem y8x (v : Nat) (l : List Nat) : inD (.int (Int.ofNat v)) (.lst (x0o l)) = some (decide (v ∈ l)) := by
  show some ((x5x (x0o l)).any fun y => PyData.eqv y (toP (.int (Int.ofNat v)))) = _
  congr 1
  induction l with
  | nil => rfl
  | cons a l ih =>
    have h1 : (x5x (x0o (a :: l))) = toP (.int (Int.ofNat a)) :: x5x (x0o l) := rfl
    rw [h1, List.any_cons, ih]
    have h2 : PyData.eqv (toP (.int (Int.ofNat a))) (toP (.int (Int.ofNat v))) = decide (a = v) := y2u a v
    rw [h2]
    by_cases h : a = v
    · simp [h]
    · have h' : ¬ v = a := fun q => h q.symm
      simp [h, h']
theorem y6y (v : Nat) (l : List Nat) : dIn (.int (Int.ofNat v)) (.lst (x0o l)) = some (.bl (decide (v ∈ l))) := by
  unfold dIn
  rw [if_pos ⟨(Sh.int (k := 0) _).ok, (z3s l).ok⟩, y8x]
  rfl
theorem y6a (i j : Bool) : dEq (.bl i) (.bl j) = some (.bl (decide (i = j))) := by unfold dEq; rw [if_pos ⟨(Sh.bl (k := 0) i).ok, (Sh.bl (k := 0) j).ok⟩, z0c]
theorem y9l {i : Nat} {ρ : Rho} {x : D × Nat} (h : ρ[i]? = some (some x)) : ρ.set i (some x) = ρ := by
  apply List.ext_getElem?
  intro k
  by_cases hk : i = k
  · subst hk
    rw [h, List.getElem?_set_self (List.getElem?_eq_some_iff.mp h).1]
  · rw [List.getElem?_set_ne hk]
theorem y0a {i q : Nat} {ρ : Rho} {ds : List D} (h : ρ[i]? = some (some (.lst ds, q))) : x06 i ρ = some (.lst ds, 0, ρ.set i (some (.lst ds, 0))) := by
  unfold x06
  rw [h]
  by_cases hq : q = 0
  · subst hq
    rw [y9l h]
    rfl
  · simp [hq]
theorem y7f {g : x2k} {ρ ρ1 : Rho} {b : Bool} (e : g ρ = some (b, ρ1)) : x45 g ρ = some (!b, ρ1) := by unfold x45; rw [e]
theorem y6h {f : Den} {ρ ρ1 : Rho} {b : Bool} {q : Nat} (h : f ρ = some (.bl b, q, ρ1)) : x8q f ρ = some (b, ρ1) := by unfold x8q; rw [h]; cases b <;> rfl
theorem x6x {i q n : Nat} {ρ : Rho} {d : D} (h : ρ[i]? = some (some (d, q))) (hl : x8g d = some n) : x0z i ρ = some (.int (Int.ofNat n), 9, ρ) := by unfold x0z; rw [h]; simp only [hl]
theorem x7m {i q : Nat} {ρ : Rho} {x d : D} {b : Den} {k : Int} {q' : Nat} (hb : b ρ = some (.int k, q', ρ)) (h : ρ[i]? = some (some (x, q))) (ha : atD x k = some d) (hd : d.isL = false) : x1l i b ρ = some (d, 9, ρ) := by
  unfold x1l
  rw [h]
  simp only [hb, h, ha, hd, x2e]
  simp
theorem z0a {ρ : Rho} {x d : D} {a b : Den} {k : Int} {q q' : Nat} {ρ1 ρ2 : Rho} (h : a ρ = some (x, q, ρ1)) (hb : b ρ1 = some (.int k, q', ρ2)) (ha : atD x k = some d) (hx : x.isL = false) (hd : d.isL = false) : eIx a b ρ = some (d, 9, ρ2) := by
  unfold eIx
  rw [h]
  simp only [hb, ha, hd, hx, x2e]
  simp
theorem z58 {f : Den} {i j : Nat} {ρ ρ1 ρ2 : Rho} {x y : D} {q : Nat} (h : f ρ = some (.tup [x, y], q, ρ1)) (e : (ρ1.set i (some (x, x2e x))).set j (some (y, x2e y)) = ρ2) (hi : i < ρ1.length) (hj : j < ρ1.length) : z2i f (y78 (x2t (x0h i) (x2t (x0h j) x81))) ρ = some (.nx ρ2) := by
  subst e
  unfold z2i
  rw [h]
  simp [hi, hj]
theorem x78 (ns : List Int) {c : Int} (hc : 0 <= c) {n : Nat} (hn : 0 < n) : ∃ v, v < n /\ x0g [scr ns, .int c, .int (Int.ofNat n)] = some (.int (Int.ofNat v), 9) := by
  have hnp : (0 : Int) < Int.ofNat n := by show (0 : Int) < (n : Int); omega
  have h1 := x5y ns c hnp
  have h2 := x7j ns c hnp
  have h3 : Int.ofNat n = (n : Int) := rfl
  obtain ⟨v, hv⟩ := Int.eq_ofNat_of_zero_le h1
  refine ⟨v, by rw [hv, h3] at h2; omega, ?_⟩
  rw [x6m ns c _ hc hnp, hv]
  rfl
noncomputable def ov (f : Nat -> Nat -> Nat) (w i : Nat) : Nat := if f i w = w then 0 else 1
theorem y3i {f : Nat -> Nat -> Nat} {w i : Nat} : ov f w i < 2 := by unfold ov; split <;> omega
theorem y5i {n : Nat} {f : Nat -> Nat -> Nat} (hn : n <= 1000) {w : Nat} (hw : w < n) : x3s [x09 n f, .int (Int.ofNat w)] = some (x04 n (ov f w), 9) := by
  unfold x3s x97
  refine x31 ?_
  show x1i _ _ [some (x09 n f, 9), some (.int (Int.ofNat w), 9), none] = _
  refine (x0j (ρ1 := [some (x09 n f, 9), some (.int (Int.ofNat w), 9), some (.lst (x0o ((List.range n).filter fun x => decide (f x w = w))), 1)]) (x1s (x0u (ds := [x09 n f, .int (Int.ofNat w)]) rfl rfl (y9z (f := f) hn hw)) rfl)).trans ?_
  have h := x2v (k := 1) (pt := x0h 3) (tt := x1f) (te := eIf (x2y (e2 dIn (x06 3) (x06 2))) (eC (.int 0)) (eC (.int 1))) (deep := false) (x0v n) (fun k => [some (x09 n f, 9), some (.int (Int.ofNat w), 9), some (.lst (x0o ((List.range n).filter fun x => decide (f x w = w))), (if k = 0 then 1 else 0))]) (fun _ => true) (fun k => .int (Int.ofNat (ov f w k))) (fun k hk => by
    have hk' : k < n := by rw [x0d] at hk; exact hk
    refine ⟨[some (x09 n f, 9), some (.int (Int.ofNat w), 9), some (.lst (x0o ((List.range n).filter fun x => decide (f x w = w))), (if k = 0 then 1 else 0))] ++ [some (.int (Int.ofNat k), 9)], [some (x09 n f, 9), some (.int (Int.ofNat w), 9), some (.lst (x0o ((List.range n).filter fun x => decide (f x w = w))), (if k = 0 then 1 else 0))] ++ [some (.int (Int.ofNat k), 9)], by rw [x3b]; rfl, rfl, ?_⟩
    rw [if_pos rfl]
    refine ⟨9, [some (x09 n f, 9), some (.int (Int.ofNat w), 9), some (.lst (x0o ((List.range n).filter fun x => decide (f x w = w))), 0)] ++ [some (.int (Int.ofNat k), 9)], ?_, by simp, by simp⟩
    have hv : x06 2 ([some (x09 n f, 9), some (.int (Int.ofNat w), 9), some (.lst (x0o ((List.range n).filter fun x => decide (f x w = w))), (if k = 0 then 1 else 0))] ++ [some (.int (Int.ofNat k), 9)]) = some (.lst (x0o ((List.range n).filter fun x => decide (f x w = w))), 0, [some (x09 n f, 9), some (.int (Int.ofNat w), 9), some (.lst (x0o ((List.range n).filter fun x => decide (f x w = w))), 0)] ++ [some (.int (Int.ofNat k), 9)]) := y0a rfl
    have e1 := x4l (x6q (fa := x06 3) (q := 9) (ρ := [some (x09 n f, 9), some (.int (Int.ofNat w), 9), some (.lst (x0o ((List.range n).filter fun x => decide (f x w = w))), (if k = 0 then 1 else 0))] ++ [some (.int (Int.ofNat k), 9)]) rfl hv (y6y k _))
    have e2 : decide (k ∈ (List.range n).filter fun x => decide (f x w = w)) = decide (f k w = w) := by
      rw [Bool.eq_iff_iff, decide_eq_true_eq, decide_eq_true_eq, List.mem_filter, List.mem_range, decide_eq_true_eq]
      exact ⟨fun h => h.2, fun h => ⟨hk', h⟩⟩
    rw [e2] at e1
    unfold eIf ov
    rw [e1]
    by_cases h : f k w = w
    · simp [h]
    · simp [h])
  rw [x0d, show (List.range n).filter (fun _ => true) = List.range n by simp] at h
  exact x2s ((x37 (x1d (x1p (x2a hn rfl x18) h))).trans (congrArg (fun d => some (d, 9, _)) (x99 _)))
section
variable (ns : List Int) (t : Int) (n : Nat) (f : Nat -> Nat -> Nat) (a3 a4 a5 a6 : Option (D × Nat))
theorem y5r (h0 : 0 <= t) (hn : n <= 8) : x67 1 (x0h 12) x1f (y7t 8 (x01 (x0n x0g 3 (x01 (x06 0) (x01 (e2 x4x (e2 x4x (x06 1) (eC (.int 3))) (x06 12)) (x01 (x0z 8) (x0e))))) (x0e))) false (x0v n)
    [some (scr ns, 0), some (.int t, 9), some (x09 n f, 9), a3, a4, a5, a6, none, some (.lst (x0v n), 1), none, none, none] = some (x0o ((List.range n).map (drawn (pk ns (t + 1)) n)), [some (scr ns, 0), some (.int t, 9), some (x09 n f, 9), a3, a4, a5, a6, none, some (.lst [], 1), none, none, none]) := by
  have hp := y59 ns (t + 1)
  have h := x2v (k := 1) (pt := x0h 12) (tt := x1f) (te := y7t 8 (x01 (x0n x0g 3 (x01 (x06 0) (x01 (e2 x4x (e2 x4x (x06 1) (eC (.int 3))) (x06 12)) (x01 (x0z 8) (x0e))))) (x0e))) (deep := false) (x0v n)
    (fun k => [some (scr ns, 0), some (.int t, 9), some (x09 n f, 9), a3, a4, a5, a6, none, some (.lst (x0o (x3d (pk ns (t + 1)) n k)), 1), none, none, none]) (fun _ => true) (fun k => .int (Int.ofNat (drawn (pk ns (t + 1)) n k))) (fun k hk => ?_)
  · rw [x0d] at h
    have hl : x3d (pk ns (t + 1)) n n = [] := List.length_eq_zero_iff.mp (by rw [x55 hp n (Nat.le_refl n)]; omega)
    rw [hl] at h
    have e1 : (List.range n).filter (fun _ => true) = List.range n := by simp
    rw [e1] at h
    simp only [x0o, List.map_map, Function.comp_def]
    exact h
  · rw [x0d] at hk
    have hl := x55 hp k (Nat.le_of_lt hk)
    have hlp : 0 < (x3d (pk ns (t + 1)) n k).length := by rw [hl]; omega
    have e := z4d ns (t + 1) k _ hlp
    have hj := y59 ns (t + 1) k _ hlp
    have hpk := x6m ns (t + 3 + Int.ofNat k) (Int.ofNat (x3d (pk ns (t + 1)) n k).length) (by show 0 <= t + 3 + (k : Int); omega) (by show (0 : Int) < ((x3d (pk ns (t + 1)) n k).length : Int); omega)
    have et : t + 1 + 2 + Int.ofNat k = t + 3 + Int.ofNat k := by omega
    rw [et] at e
    have hs : seqIndex? (Int.ofNat (pk ns (t + 1) k (x3d (pk ns (t + 1)) n k).length)) (x0o (x3d (pk ns (t + 1)) n k)).length = some (pk ns (t + 1) k (x3d (pk ns (t + 1)) n k).length) := (y0y (x6n (by rw [x1c]; exact hj))).1
    have hg : (x0o (x3d (pk ns (t + 1)) n k))[pk ns (t + 1) k (x3d (pk ns (t + 1)) n k).length]? = some (.int (Int.ofNat (drawn (pk ns (t + 1)) n k))) := by
      rw [x5z]
      unfold drawn
      rw [List.getD_eq_getElem?_getD, List.getElem?_eq_getElem hj]
      rfl
    have hb : pk ns (t + 1) k (x3d (pk ns (t + 1)) n k).length <= 8 := by omega
    have he : (x0o (x3d (pk ns (t + 1)) n k)).eraseIdx (pk ns (t + 1) k (x3d (pk ns (t + 1)) n k).length) = x0o (x3d (pk ns (t + 1)) n (k + 1)) := by rw [x3d, x79]
    refine ⟨[some (scr ns, 0), some (.int t, 9), some (x09 n f, 9), a3, a4, a5, a6, none, some (.lst (x0o (x3d (pk ns (t + 1)) n k)), 1), none, none, none] ++ [some (.int (Int.ofNat k), 9)], _, by rw [x3b]; rfl, rfl, ?_⟩
    rw [if_pos rfl]
    refine ⟨9, [some (scr ns, 0), some (.int t, 9), some (x09 n f, 9), a3, a4, a5, a6, none, some (.lst (x0o (x3d (pk ns (t + 1)) n (k + 1))), 1), none, none, none] ++ [some (.int (Int.ofNat k), 9)], ?_, by simp, by simp⟩
    have b1 : (-1000 : Int) <= Int.ofNat (pk ns (t + 1) k (x3d (pk ns (t + 1)) n k).length) := by show (-1000 : Int) <= (pk ns (t + 1) k (x3d (pk ns (t + 1)) n k).length : Int); omega
    have b2 : Int.ofNat (pk ns (t + 1) k (x3d (pk ns (t + 1)) n k).length) <= 1000 := by show (pk ns (t + 1) k (x3d (pk ns (t + 1)) n k).length : Int) <= 1000; omega
    have hl' : x8g (.lst (x0o (x3d (pk ns (t + 1)) n k))) = some (x3d (pk ns (t + 1)) n k).length := by simp [x8g, x1c]
    rw [e] at hpk
    simp [-Int.ofNat_eq_natCast, hl', hpk, hs, hg, he, b1, b2]
theorem z03 (hn : n <= 8) (m : Option (D × Nat)) : x67 1 (x0h 12) x1f (x9d (x7a (x01 (eC (.int 0)) (x0e))) (x0z 2)) true ((List.range n).map fun i => x7s n f i)
    [some (scr ns, 0), some (.int t, 9), some (x09 n f, 9), a3, a4, a5, a6, none, some (.lst [], 1), m, none, none] = some ((List.range n).map fun i => x4t n (fun _ _ => 0) i, [some (scr ns, 0), some (.int t, 9), some (x09 n f, 9), a3, a4, a5, a6, none, some (.lst [], 1), m, none, none]) := by
  have h := x2v (k := 1) (pt := x0h 12) (tt := x1f) (te := x9d (x7a (x01 (eC (.int 0)) (x0e))) (x0z 2)) (deep := true) ((List.range n).map fun i => x7s n f i)
    (fun _ => [some (scr ns, 0), some (.int t, 9), some (x09 n f, 9), a3, a4, a5, a6, none, some (.lst [], 1), m, none, none]) (fun _ => true) (fun i => x4t n (fun _ _ => 0) i) (fun k hk => ?_)
  · rw [List.length_map, List.length_range, show (List.range n).filter (fun _ => true) = List.range n by simp] at h
    exact h
  · refine ⟨[some (scr ns, 0), some (.int t, 9), some (x09 n f, 9), a3, a4, a5, a6, none, some (.lst [], 1), m, none, none] ++ [some (x7s n f k, 9)], _, by simp [x7s], rfl, ?_⟩
    rw [if_pos rfl]
    refine ⟨1, [some (scr ns, 0), some (.int t, 9), some (x09 n f, 9), a3, a4, a5, a6, none, some (.lst [], 1), m, none, none] ++ [some (x7s n f k, 9)], ?_, by simp, by simp⟩
    have z : x4t n (fun _ _ => 0) k = D.lst (List.replicate n [D.int 0]).flatten := (z3v n).symm
    have b1 : (-1000 : Int) <= n := by omega
    have b2 : (n : Int) <= 1000 := by omega
    have b3 : n <= 1000 := by omega
    rw [z]
    simp [x18, b1, b2, b3]
section
variable {n f} {π ι : Nat -> Nat} (cl : ∀ i j, i < n -> j < n -> f i j < n) (h1 : ∀ i, i < n -> π i < n) (h2 : ∀ i, i < n -> ι i < n) (h3 : ∀ i, i < n -> ι (π i) = i) (h4 : ∀ i, i < n -> π (ι i) = i)
include cl h1 h2 h3 h4
theorem y57 {g : Nat -> Nat -> Nat} {i j : Nat} (hi : i < n) (hj : j < n) :
    x46 [some (scr ns, 0), some (.int t, 9), some (x09 n f, 9), a3, a4, a5, a6, some (x27 n g, 2), some (.lst [], 1), some (.lst (x0o ((List.range n).map π)), 1), some (.int (Int.ofNat i), 9), some (.int (Int.ofNat j), 9)] = some (.nx [some (scr ns, 0), some (.int t, 9), some (x09 n f, 9), a3, a4, a5, a6, some (x27 n (fun a b => if a = π i /\ b = π j then π (f i j) else g a b), 2), some (.lst [], 1), some (.lst (x0o ((List.range n).map π)), 1), some (.int (Int.ofNat i), 9), some (.int (Int.ofNat j), 9)]) := by
  have a1 := x1o (f := f) hi
  have a2 := x20 (f := f) (i := i) hj
  have a3' : atD (.lst (x0o ((List.range n).map π))) (Int.ofNat (f i j)) = some (.int (Int.ofNat (π (f i j)))) := x1n (cl i j hi hj)
  have a4' : atD (.lst (x0o ((List.range n).map π))) (Int.ofNat i) = some (.int (Int.ofNat (π i))) := x1n hi
  have a5' : atD (.lst (x0o ((List.range n).map π))) (Int.ofNat j) = some (.int (Int.ofNat (π j))) := x1n hj
  have a6' : ixN ((List.range n).map fun a => x4t n g a).length (Int.ofNat (π i)) = some (π i) := x6n (by simpa using h1 i hi)
  have a7 : ((List.range n).map fun a => x4t n g a)[π i]? = some (.lst (x0o ((List.range n).map fun b => g (π i) b))) := by rw [List.getElem?_map, List.getElem?_range (h1 i hi)]; rfl
  have a8 : ixN (x0o ((List.range n).map fun b => g (π i) b)).length (Int.ofNat (π j)) = some (π j) := x6n (by simpa [x1c] using h1 j hj)
  have a9 := y48 (n := n) (f := g) (a := π i) (b := π j) (v := π (f i j))
  rw [<- a9]
  show x46 [some (scr ns, 0), some (.int t, 9), some (x09 n f, 9), a3, a4, a5, a6, some (.lst ((List.range n).map fun a => x4t n g a), 2), some (.lst [], 1), some (.lst (x0o ((List.range n).map π)), 1), some (.int (Int.ofNat i), 9), some (.int (Int.ofNat j), 9)] = _
  unfold x46
  simp only [x9l, x1l, eIx, x06, qIx, y3a, List.getElem?_cons_succ, List.getElem?_cons_zero, D.isL_lst, D.isL_int, D.isL_tup, if_true, a1, a2, a3', a4', a5', a6', a7, a8, ne_eq, not_true_eq_false, false_and, and_false, if_false, Bool.false_eq_true, reduceCtorEq, Nat.not_lt_zero, Nat.lt_irrefl, x2e, List.set_cons_succ, List.set_cons_zero, y9s, y8u]
theorem y5t (hn : n <= 8) {i : Nat} (hi : i < n) (y : Option (D × Nat)) : ∃ y', x8t (x0h 11) x46 (x0v n) [some (scr ns, 0), some (.int t, 9), some (x09 n f, 9), a3, a4, a5, a6, some (x27 n (gst f π ι i 0), 2), some (.lst [], 1), some (.lst (x0o ((List.range n).map π)), 1), some (.int (Int.ofNat i), 9), y] =
    some (.nx [some (scr ns, 0), some (.int t, 9), some (x09 n f, 9), a3, a4, a5, a6, some (x27 n (gst f π ι (i + 1) 0), 2), some (.lst [], 1), some (.lst (x0o ((List.range n).map π)), 1), some (.int (Int.ofNat i), 9), y']) := by
  obtain ⟨ρ', e, y', rfl⟩ := x4g (pt := x0h 11) (body := x46) (x0v n) (fun j ρ => ∃ y, ρ = [some (scr ns, 0), some (.int t, 9), some (x09 n f, 9), a3, a4, a5, a6, some (x27 n (gst f π ι i j), 2), some (.lst [], 1), some (.lst (x0o ((List.range n).map π)), 1), some (.int (Int.ofNat i), 9), y]) [some (scr ns, 0), some (.int t, 9), some (x09 n f, 9), a3, a4, a5, a6, some (x27 n (gst f π ι i 0), 2), some (.lst [], 1), some (.lst (x0o ((List.range n).map π)), 1), some (.int (Int.ofNat i), 9), y] (fun j hj ρ hh0 => by
    obtain ⟨y, hy⟩ := hh0
    subst hy
    rw [x0d] at hj
    refine ⟨[some (scr ns, 0), some (.int t, 9), some (x09 n f, 9), a3, a4, a5, a6, some (x27 n (gst f π ι i j), 2), some (.lst [], 1), some (.lst (x0o ((List.range n).map π)), 1), some (.int (Int.ofNat i), 9), some (.int (Int.ofNat j), 9)], _, by rw [x3b]; rfl, .inl (y57 ns t a3 a4 a5 a6 cl h1 h2 h3 h4 hi hj), ?_⟩
    rw [y4f cl h1 h2 h3 h4 hi hj]
    exact ⟨_, rfl⟩) ⟨y, rfl⟩
  refine ⟨y', ?_⟩
  rw [e, x0d]
  show some (Out.nx [_, _, _, _, _, _, _, some (x27 n (gst f π ι i n), 2), _, _, _, _]) = _
  rw [y76 cl h1 h2 h3 h4]
theorem y65 (hn : n <= 8) (x y : Option (D × Nat)) : ∃ x' y', x8t (x0h 10) x6e (x0v n) [some (scr ns, 0), some (.int t, 9), some (x09 n f, 9), a3, a4, a5, a6, some (x27 n (fun _ _ => 0), 2), some (.lst [], 1), some (.lst (x0o ((List.range n).map π)), 1), x, y] =
    some (.nx [some (scr ns, 0), some (.int t, 9), some (x09 n f, 9), a3, a4, a5, a6, some (x27 n (fun a b => π (f (ι a) (ι b))), 2), some (.lst [], 1), some (.lst (x0o ((List.range n).map π)), 1), x', y']) := by
  have z : x27 n (fun _ _ => 0) = x27 n (gst f π ι 0 0) := x44 fun a b _ _ => by unfold gst; rw [if_neg (by omega)]
  have z' : x27 n (gst f π ι n 0) = x27 n (fun a b => π (f (ι a) (ι b))) := x44 fun a b ha _ => by unfold gst; rw [if_pos (.inl (h2 a ha))]
  have hn' : n <= 1000 := by omega
  obtain ⟨ρ', e, x', y', rfl⟩ := x4g (pt := x0h 10) (body := x6e) (x0v n) (fun i ρ => ∃ x y, ρ = [some (scr ns, 0), some (.int t, 9), some (x09 n f, 9), a3, a4, a5, a6, some (x27 n (gst f π ι i 0), 2), some (.lst [], 1), some (.lst (x0o ((List.range n).map π)), 1), x, y]) [some (scr ns, 0), some (.int t, 9), some (x09 n f, 9), a3, a4, a5, a6, some (x27 n (gst f π ι 0 0), 2), some (.lst [], 1), some (.lst (x0o ((List.range n).map π)), 1), x, y] (fun i hi ρ hh0 => by
    obtain ⟨x, y, hy⟩ := hh0
    subst hy
    rw [x0d] at hi
    obtain ⟨y', hy'⟩ := y5t ns t a3 a4 a5 a6 cl h1 h2 h3 h4 hn hi y
    refine ⟨[some (scr ns, 0), some (.int t, 9), some (x09 n f, 9), a3, a4, a5, a6, some (x27 n (gst f π ι i 0), 2), some (.lst [], 1), some (.lst (x0o ((List.range n).map π)), 1), some (.int (Int.ofNat i), 9), y], _, by rw [x3b]; rfl, .inl (show _ = some (Out.nx [some (scr ns, 0), some (.int t, 9), some (x09 n f, 9), a3, a4, a5, a6, some (x27 n (gst f π ι (i + 1) 0), 2), some (.lst [], 1), some (.lst (x0o ((List.range n).map π)), 1), some (.int (Int.ofNat i), 9), y']) from ?_), ⟨_, _, rfl⟩⟩
    exact (x1y (x2a hn' rfl x18)).trans hy') ⟨x, y, rfl⟩
  refine ⟨x', y', ?_⟩
  show x8t _ _ _ [_, _, _, _, _, _, _, some (x27 n (fun _ _ => 0), 2), _, _, _, _] = some (.nx [_, _, _, _, _, _, _, some (x27 n (fun a b => π (f (ι a) (ι b))), 2), _, _, _, _])
  rw [z, <- z']
  rw [x0d] at e
  exact e
end
end
noncomputable def two2 (a b : Nat) : Nat := max a b
noncomputable def x9e (a b : Nat) : Nat := max (a / 2) (b / 2) * 2 + max (a % 2) (b % 2)
theorem z9a : Lad 2 two2 := y3f (by decide +kernel)
theorem z9f : Lad 4 x9e := y3f (by decide +kernel)
theorem z87 (ns : List Int) (t : Int) (n : Nat) (f : Nat -> Nat -> Nat) (a3 a4 a5 : Option (D × Nat)) : x1x (x01 (x25 1 (x7b (x0n x0y 2 (x01 (x06 6) (x01 (x06 6) (x0e))))) (x0h 12) (x1f) (x1x (x01 (x06 12) (x0e))) false) (x0e)) [some (scr ns, 0), some (.int t, 9), some (x09 n f, 9), a3, a4, a5, some (x09 2 two2, 9), none, none, none, none, none] = some (x09 4 x9e, 9, [some (scr ns, 0), some (.int t, 9), some (x09 n f, 9), a3, a4, a5, some (x09 2 two2, 9), none, none, none, none, none]) := by rfl
theorem y5o {g : x1v} {ρ ρ1 : Rho} {ds : List D} (h : g ρ = some (ds, ρ1)) (hl : ds.length <= 1000) : x88 g ρ = some (.tup ds, 9, ρ1) := by unfold x88; rw [h]; exact if_pos hl
structure IsMap (n : Nat) (f : Nat -> Nat -> Nat) (z m : Nat) (g : Nat -> Nat -> Nat) (h : Nat -> Nat) : Prop where
  lt : ∀ i, i < n -> h i < m
  jn : ∀ x y, x < n -> y < n -> h (f x y) = g (h x) (h y)
  bt : ∀ j, j < m -> g (h z) j = j
section
variable {n : Nat} {f : Nat -> Nat -> Nat} (L : Lad n f) {z : Nat} (hz : z < n) (bz : ∀ j, j < n -> f z j = j)
include L hz bz
theorem y31 {w x y : Nat} (hw : w < n) (hx : x < n) (hy : y < n) : ov f w (f x y) = max (ov f w x) (ov f w y) := by
  have e : f (f x y) w = w ↔ f x w = w /\ f y w = w := ⟨fun h => ⟨L.le_trans hx (L.cl x y hx hy) hw (L.le_l hx hy) h, L.le_trans hy (L.cl x y hx hy) hw (L.le_r hx hy) h⟩, fun h => L.lub hx hy hw h.1 h.2⟩
  unfold ov
  by_cases h1 : f x w = w
  · by_cases h2 : f y w = w
    · rw [if_pos (e.mpr ⟨h1, h2⟩), if_pos h1, if_pos h2]; rfl
    · rw [if_neg (fun q => h2 (e.mp q).2), if_pos h1, if_neg h2]; rfl
  · by_cases h2 : f y w = w
    · rw [if_neg (fun q => h1 (e.mp q).1), if_neg h1, if_pos h2]; rfl
    · rw [if_neg (fun q => h1 (e.mp q).1), if_neg h1, if_neg h2]; rfl
theorem z7m {w : Nat} (hw : w < n) : ov f w z = 0 := if_pos (bz w hw)
theorem x9t (ns : List Int) (t : Int) (h0 : 0 <= t) : ∃ m g h, Lad m g /\ IsMap n f z m g h /\ x3r [scr ns, .int t, x09 n f] = some (.tup [x09 m g, x04 n h], 9) := by
  have hn : n <= 1000 := Nat.le_trans L.hi (by decide)
  obtain ⟨v, hv, ev⟩ := x78 ns h0 (n := 4) (by decide)
  obtain ⟨a, ha, ea⟩ := x78 ns (c := t + 1) (by omega) L.lo
  obtain ⟨b, hb, eb⟩ := x78 ns (c := t + 2) (by omega) L.lo
  have arg : ∀ (c : Int) (ρ : Rho), ρ[0]? = some (some (scr ns, 0)) -> ρ[1]? = some (some (.int t, 9)) -> ρ[2]? = some (some (x09 n f, 9)) -> x01 (x06 0) (x01 (e2 x4x (x06 1) (eC (.int c))) (x01 (x0z 2) x0e)) ρ = some ([scr ns, .int (t + c), .int (Int.ofNat n)], ρ) := fun c ρ h0 h1 h2 => by simp [-Int.ofNat_eq_natCast, h0, h1, h2, x18]
  have go : ∀ R : D, (x1i (sIf (x2y (e2 dEq (x06 3) (eC (.int 0)))) (x29 (x88 (x01 (x06 6) (x01 (x06 4) (x0e))))) (x4f))
      (x1i (sIf (x2y (e2 dLt (x06 3) (eC (.int 3)))) (x1i (x30 7 (x1x (x01 (x25 1 (x7b (x0n x0y 2 (x01 (x06 6) (x01 (x06 6) (x0e))))) (x0h 12) (x1f) (x1x (x01 (x06 12) (x0e))) false) (x0e))))
      (x29 (x88 (x01 (x06 7) (x01 (x1x (x01 (x25 2 (y50 (x01 (x06 4) (x01 (x06 5) (x0e)))) (y78 (x2t (x0h 12) (x2t (x0h 13) (x81)))) (x1f) (e2 x4x (e2 y58 (eC (.int 2)) (x06 12)) (x06 13)) false) (x0e))) (x0e)))))) (x4f))
      (x1i (x30 8 (x69 (x01 (x0z 2) (x0e))))
      (x1i (x30 9 (x25 1 (x0q (x01 (x0z 2) (x0e))) (x0h 12) (x1f) (y7t 8 (x01 (x0n x0g 3 (x01 (x06 0) (x01 (e2 x4x (e2 x4x (x06 1) (eC (.int 3))) (x06 12)) (x01 (x0z 8) (x0e))))) (x0e))) false))
      (x1i (x30 7 (x25 1 (x7b (x06 2)) (x0h 12) (x1f) (x9d (x7a (x01 (eC (.int 0)) (x0e))) (x0z 2)) true))
      (x1i (x5g (x0q (x01 (x0z 2) (x0e))) (x0h 10) x6e)
      (x29 (x88 (x01 (x1x (x01 (x25 1 (x7b (x06 7)) (x0h 12) (x1f) (x1x (x01 (x06 12) (x0e))) false) (x0e))) (x01 (x1x (x01 (x06 9) (x0e))) (x0e)))))))))))
      [some (scr ns, 0), some (.int t, 9), some (x09 n f, 9), some (.int (Int.ofNat v), 9), some (x04 n (ov f a), 9), some (x04 n (ov f b), 9), some (x09 2 two2, 9), none, none, none, none, none] = some (.rt R 9) -> x3r [scr ns, .int t, x09 n f] = some (R, 9) := fun R h => by
    unfold x3r y01
    refine x31 ?_
    show x1i _ _ [some (scr ns, 0), some (.int t, 9), some (x09 n f, 9), none, none, none, none, none, none, none, none, none] = _
    refine (x0j (ρ1 := [some (scr ns, 0), some (.int t, 9), some (x09 n f, 9), some (.int (Int.ofNat v), 9), none, none, none, none, none, none, none, none]) (x1s (x0u (ds := [scr ns, .int t, .int 4]) rfl rfl ev) rfl)).trans ?_
    refine (x0j (ρ1 := [some (scr ns, 0), some (.int t, 9), some (x09 n f, 9), some (.int (Int.ofNat v), 9), some (x04 n (ov f a), 9), none, none, none, none, none, none, none]) (x1s (x0u (x1a (f := x06 2) (q := 9) rfl (x1d (x0u (arg 1 _ rfl rfl rfl) rfl ea))) rfl (y5i hn ha)) rfl)).trans ?_
    refine (x0j (ρ1 := [some (scr ns, 0), some (.int t, 9), some (x09 n f, 9), some (.int (Int.ofNat v), 9), some (x04 n (ov f a), 9), some (x04 n (ov f b), 9), none, none, none, none, none, none]) (x1s (x0u (x1a (f := x06 2) (q := 9) rfl (x1d (x0u (arg 2 _ rfl rfl rfl) rfl eb))) rfl (y5i hn hb)) rfl)).trans ?_
    exact (x0j (ρ1 := [some (scr ns, 0), some (.int t, 9), some (x09 n f, 9), some (.int (Int.ofNat v), 9), some (x04 n (ov f a), 9), some (x04 n (ov f b), 9), some (x09 2 two2, 9), none, none, none, none, none]) (x1s (d := x09 2 two2) (q := 9) rfl rfl)).trans h
  by_cases hv0 : v = 0
  · subst hv0
    refine ⟨2, two2, ov f a, z9a, ⟨fun _ _ => y3i, fun x y hx hy => y31 L hz bz ha hx hy, fun j _ => ?_⟩, go _ ?_⟩
    · rw [z7m L hz bz ha]; exact Nat.zero_max j
    · exact x3z ((y2s (ρ1 := [some (scr ns, 0), some (.int t, 9), some (x09 n f, 9), some (.int (Int.ofNat 0), 9), some (x04 n (ov f a), 9), some (x04 n (ov f b), 9), some (x09 2 two2, 9), none, none, none, none, none]) (x4l (x6q (fa := x06 3) (fb := eC (.int 0)) (q := 9) (q' := 9) rfl rfl ((x5r 0 0).trans rfl)))).trans (x2s (y5o (ds := [x09 2 two2, x04 n (ov f a)]) rfl (show 2 <= 1000 by decide))))
  have g1 : sIf (x2y (e2 dEq (x06 3) (eC (.int 0)))) (x29 (x88 (x01 (x06 6) (x01 (x06 4) (x0e))))) (x4f) [some (scr ns, 0), some (.int t, 9), some (x09 n f, 9), some (.int (Int.ofNat v), 9), some (x04 n (ov f a), 9), some (x04 n (ov f b), 9), some (x09 2 two2, 9), none, none, none, none, none] = some (.nx [some (scr ns, 0), some (.int t, 9), some (x09 n f, 9), some (.int (Int.ofNat v), 9), some (x04 n (ov f a), 9), some (x04 n (ov f b), 9), some (x09 2 two2, 9), none, none, none, none, none]) :=
    (y0m (x4l (x6q (fa := x06 3) (fb := eC (.int 0)) (q := 9) (q' := 9) rfl rfl ((x5r v 0).trans (by rw [decide_eq_false hv0]))))).trans rfl
  by_cases hv3 : v < 3
  · refine ⟨4, x9e, fun i => 2 * ov f a i + ov f b i, z9f, ⟨fun i _ => ?_, fun x y hx hy => ?_, fun j hj => ?_⟩, go _ ((x0j g1).trans (x3z ?_))⟩
    · have h1 := y3i (f := f) (w := a) (i := i)
      have h2 := y3i (f := f) (w := b) (i := i)
      show 2 * ov f a i + ov f b i < 4
      omega
    · show 2 * ov f a (f x y) + ov f b (f x y) = x9e (2 * ov f a x + ov f b x) (2 * ov f a y + ov f b y)
      rw [y31 L hz bz ha hx hy, y31 L hz bz hb hx hy]
      have h1 := y3i (f := f) (w := a) (i := x)
      have h2 := y3i (f := f) (w := b) (i := x)
      have h3 := y3i (f := f) (w := a) (i := y)
      have h4 := y3i (f := f) (w := b) (i := y)
      unfold x9e
      omega
    · show x9e (2 * ov f a z + ov f b z) j = j
      rw [z7m L hz bz ha, z7m L hz bz hb]
      unfold x9e
      omega
    · have lt3 : dLt (.int (Int.ofNat v)) (.int 3) = some (.bl true) := by
        have : (Int.ofNat v) < 3 := by show (v : Int) < 3; omega
        show some (D.bl (decide (Int.ofNat v < 3))) = _
        rw [decide_eq_true this]
      refine (y2s (ρ1 := [some (scr ns, 0), some (.int t, 9), some (x09 n f, 9), some (.int (Int.ofNat v), 9), some (x04 n (ov f a), 9), some (x04 n (ov f b), 9), some (x09 2 two2, 9), none, none, none, none, none]) (x4l (x6q (fa := x06 3) (fb := eC (.int 3)) (q := 9) (q' := 9) rfl rfl lt3))).trans ?_
      refine (x0j (ρ1 := [some (scr ns, 0), some (.int t, 9), some (x09 n f, 9), some (.int (Int.ofNat v), 9), some (x04 n (ov f a), 9), some (x04 n (ov f b), 9), some (x09 2 two2, 9), some (x09 4 x9e, 9), none, none, none, none]) (x1s (z87 ns t n f _ _ _) rfl)).trans ?_
      have hzp : y50 (x01 (x06 4) (x01 (x06 5) (x0e))) [some (scr ns, 0), some (.int t, 9), some (x09 n f, 9), some (.int (Int.ofNat v), 9), some (x04 n (ov f a), 9), some (x04 n (ov f b), 9), some (x09 2 two2, 9), some (x09 4 x9e, 9), none, none, none, none] = some ((List.range n).map fun j => .tup [.int (Int.ofNat (ov f a j)), .int (Int.ofNat (ov f b j))], [some (scr ns, 0), some (.int t, 9), some (x09 n f, 9), some (.int (Int.ofNat v), 9), some (x04 n (ov f a), 9), some (x04 n (ov f b), 9), some (x09 2 two2, 9), some (x09 4 x9e, 9), none, none, none, none]) := by
        have := y5n n (ov f a) (ov f b)
        simp [-Int.ofNat_eq_natCast, x04, x1c, hn, this]
      have hc := x1p (k := 2) (tt := x1f) (te := e2 x4x (e2 y58 (eC (.int 2)) (x06 12)) (x06 13)) (deep := false) hzp (z45 (i := 12) rfl (ov f a) (ov f b) (fun _ => true) (fun j => .int (Int.ofNat (2 * ov f a j + ov f b j))) (fun _ => 9) (fun j hj => rfl) (fun j hj _ => by simp [x4x, y58]))
      rw [show (List.range n).filter (fun _ => true) = List.range n by simp] at hc
      have h2 := (x37 (x1d hc)).trans (congrArg (fun d => some (d, 9, _)) (x99 fun j => 2 * ov f a j + ov f b j))
      exact x2s (y5o (x1a (f := x06 7) (q := 9) rfl (x1d h2)) (show 2 <= 1000 by decide))
  · have lt3 : dLt (.int (Int.ofNat v)) (.int 3) = some (.bl false) := by
      have : ¬ (Int.ofNat v) < 3 := by show ¬ (v : Int) < 3; omega
      show some (D.bl (decide (Int.ofNat v < 3))) = _
      rw [decide_eq_false this]
    have hp := y59 ns (t + 1)
    generalize hπ : drawn (pk ns (t + 1)) n = π
    generalize hι : x34 (pk ns (t + 1)) n = ι
    have p1 : ∀ i, i < n -> π i < n := fun i hi => by rw [<- hπ]; exact y0u hp hi
    have p2 : ∀ i, i < n -> ι i < n := fun i hi => by rw [<- hι]; exact x77 hp hi
    have p3 : ∀ i, i < n -> ι (π i) = i := fun i hi => by rw [<- hι, <- hπ]; exact x53 hp hi
    have p4 : ∀ i, i < n -> π (ι i) = i := fun i hi => by rw [<- hι, <- hπ]; exact x5d hp hi
    refine ⟨n, fun a b => π (f (ι a) (ι b)), π, L.ren p1 p2 p3 p4, ⟨p1, fun x y hx hy => ?_, fun j hj => ?_⟩, go _ ((x0j g1).trans ?_)⟩
    · show π (f x y) = π (f (ι (π x)) (ι (π y)))
      rw [p3 x hx, p3 y hy]
    · show π (f (ι (π z)) (ι j)) = j
      rw [p3 z hz, bz _ (p2 j hj), p4 j hj]
    · generalize hA : (some (.int (Int.ofNat v), 9) : Option (D × Nat)) = A at *
      refine (x0j (ρ1 := [some (scr ns, 0), some (.int t, 9), some (x09 n f, 9), A, some (x04 n (ov f a), 9), some (x04 n (ov f b), 9), some (x09 2 two2, 9), none, none, none, none, none]) ((y0m (x4l (x6q (fa := x06 3) (fb := eC (.int 3)) (q := 9) (q' := 9) (by rw [<- hA]; rfl) rfl lt3))).trans rfl)).trans ?_
      generalize (some (x04 n (ov f a), 9) : Option (D × Nat)) = B
      generalize (some (x04 n (ov f b), 9) : Option (D × Nat)) = C
      generalize (some (x09 2 two2, 9) : Option (D × Nat)) = E
      refine (x0j (ρ1 := [some (scr ns, 0), some (.int t, 9), some (x09 n f, 9), A, B, C, E, none, some (.lst (x0v n), 1), none, none, none]) (x1s (x8w (x2a hn rfl x18)) rfl)).trans ?_
      have hnm := y5r ns t n f A B C E h0 L.hi
      rw [hπ] at hnm
      refine (x0j (ρ1 := [some (scr ns, 0), some (.int t, 9), some (x09 n f, 9), A, B, C, E, none, some (.lst [], 1), some (.lst (x0o ((List.range n).map π)), 1), none, none]) (x1s (x1p (x2a hn rfl x18) hnm) rfl)).trans ?_
      have hi2 : x7b (x06 2) [some (scr ns, 0), some (.int t, 9), some (x09 n f, 9), A, B, C, E, none, some (.lst [], 1), some (.lst (x0o ((List.range n).map π)), 1), none, none] = some ((List.range n).map fun i => x7s n f i, [some (scr ns, 0), some (.int t, 9), some (x09 n f, 9), A, B, C, E, none, some (.lst [], 1), some (.lst (x0o ((List.range n).map π)), 1), none, none]) := by simp [x09, hn]
      refine (x0j (ρ1 := [some (scr ns, 0), some (.int t, 9), some (x09 n f, 9), A, B, C, E, some (x27 n (fun _ _ => 0), 2), some (.lst [], 1), some (.lst (x0o ((List.range n).map π)), 1), none, none]) (x1s (x1p hi2 (z03 ns t n f A B C E L.hi _)) rfl)).trans ?_
      obtain ⟨x', y', hf⟩ := y65 ns t A B C E (f := f) (π := π) (ι := ι) L.cl p1 p2 p3 p4 L.hi none none
      refine (x0j ((x1y (x2a hn rfl x18)).trans hf)).trans ?_
      have hi7 : x7b (x06 7) [some (scr ns, 0), some (.int t, 9), some (x09 n f, 9), A, B, C, E, some (x27 n (fun a b => π (f (ι a) (ι b))), 2), some (.lst [], 1), some (.lst (x0o ((List.range n).map π)), 1), x', y'] = some ((List.range n).map fun i => x4t n (fun a b => π (f (ι a) (ι b))) i, [some (scr ns, 0), some (.int t, 9), some (x09 n f, 9), A, B, C, E, some (x27 n (fun a b => π (f (ι a) (ι b))), 0), some (.lst [], 1), some (.lst (x0o ((List.range n).map π)), 1), x', y']) := by simp [x27, hn]
      have hcr := x2v (k := 1) (pt := x0h 12) (tt := x1f) (te := x1x (x01 (x06 12) x0e)) (deep := false) ((List.range n).map fun i => x4t n (fun a b => π (f (ι a) (ι b))) i)
        (fun _ => [some (scr ns, 0), some (.int t, 9), some (x09 n f, 9), A, B, C, E, some (x27 n (fun a b => π (f (ι a) (ι b))), 0), some (.lst [], 1), some (.lst (x0o ((List.range n).map π)), 1), x', y']) (fun _ => true) (fun i => x7s n (fun a b => π (f (ι a) (ι b))) i) (fun k hk => by
          refine ⟨[some (scr ns, 0), some (.int t, 9), some (x09 n f, 9), A, B, C, E, some (x27 n (fun a b => π (f (ι a) (ι b))), 0), some (.lst [], 1), some (.lst (x0o ((List.range n).map π)), 1), x', y'] ++ [some (x4t n (fun a b => π (f (ι a) (ι b))) k, 0)], _, by simp [x4t], rfl, ?_⟩
          rw [if_pos rfl]
          exact ⟨9, [some (scr ns, 0), some (.int t, 9), some (x09 n f, 9), A, B, C, E, some (x27 n (fun a b => π (f (ι a) (ι b))), 0), some (.lst [], 1), some (.lst (x0o ((List.range n).map π)), 1), x', y'] ++ [some (x4t n (fun a b => π (f (ι a) (ι b))) k, 0)], by simp [x4t, x7s], by simp, by simp⟩)
      rw [List.length_map, List.length_range, show (List.range n).filter (fun _ => true) = List.range n by simp] at hcr
      have h7 := x37 (x1d (x1p (k := 1) hi7 hcr))
      have h9 : x1x (x01 (x06 9) x0e) [some (scr ns, 0), some (.int t, 9), some (x09 n f, 9), A, B, C, E, some (x27 n (fun a b => π (f (ι a) (ι b))), 0), some (.lst [], 1), some (.lst (x0o ((List.range n).map π)), 1), x', y'] = some (x04 n π, 9, [some (scr ns, 0), some (.int t, 9), some (x09 n f, 9), A, B, C, E, some (x27 n (fun a b => π (f (ι a) (ι b))), 0), some (.lst [], 1), some (.lst (x0o ((List.range n).map π)), 0), x', y']) := x37 (x1d (y0a rfl))
      exact x2s (y5o (x1a h7 (x1d h9)) (show 2 <= 1000 by decide))
end
theorem y7g {n : Nat} (r : Nat -> Nat) : x9f (x0o ((List.range n).map r)) = (List.range n).map fun j => .tup [.int (Int.ofNat j), .int (Int.ofNat (r j))] := by
  apply List.ext_getElem?
  intro i
  rw [y1n, x5z, List.getElem?_map, List.getElem?_map]
  by_cases h : i < n
  · rw [List.getElem?_range h]; rfl
  · rw [List.getElem?_eq_none (by simp; omega)]; rfl
theorem y2h {n m : Nat} {g : Nat -> Nat -> Nat} (hn : n <= 1000) {r : Nat -> Nat} (hr : ∀ i, i < n -> r i < m) {w : Nat} (hw : w < m) : x3p [x09 m g, x04 n r, .int (Int.ofNat w)] = some (.lst (x0o ((List.range n).filter fun x => decide (g (r x) w = w))), 1) := by
  unfold x3p x98
  refine x31 (x2s (ρ1 := [some (x09 m g, 9), some (x04 n r, 9), some (.int (Int.ofNat w), 9)]) ?_)
  have hz : y6r (x01 (x06 1) (x0e)) [some (x09 m g, 9), some (x04 n r, 9), some (.int (Int.ofNat w), 9)] = some ((List.range n).map fun j => .tup [.int (Int.ofNat j), .int (Int.ofNat (r j))], [some (x09 m g, 9), some (x04 n r, 9), some (.int (Int.ofNat w), 9)]) := by
    have := y7g (n := n) r
    simp [-Int.ofNat_eq_natCast, x04, x1c, hn, this]
  exact x1p (k := 2) (deep := false) hz (z45 (i := 3) rfl (fun j => j) r (fun x => decide (g (r x) w = w)) (fun x => .int (Int.ofNat x)) (fun _ => 9) (fun j hj => by
    simp [-Int.ofNat_eq_natCast, y30 (f := g) (hr j hj) hw]) (fun j hj _ => rfl))
noncomputable def y2i (n : Nat) (f : Nat -> Nat -> Nat) (z m : Nat) (g : Nat -> Nat -> Nat) (z' : Nat) (d : D) : Bool := match d with
  | .tup ds => x2j n m (.tup ds) && (ljB n f g (x6h ds) && decide (x6h ds z = z'))
  | _ => false
theorem y3n {n m : Nat} {r : Nat -> Nat} (hr : ∀ i, i < n -> r i < m) : x2j n m (x04 n r) = true := by
  show (decide ((x0o ((List.range n).map r)).length = n) && (x0o ((List.range n).map r)).all (x5f m)) = true
  rw [x1c, List.length_map, List.length_range, decide_eq_true rfl, Bool.true_and, List.all_eq_true]
  intro d hd
  obtain ⟨x, hx, rfl⟩ := List.mem_map.mp hd
  obtain ⟨i, hi, rfl⟩ := List.mem_map.mp hx
  have := hr i (List.mem_range.mp hi)
  show (decide ((0 : Int) <= Int.ofNat (r i)) && decide (Int.ofNat (r i) < (m : Int))) = true
  have q1 : (0 : Int) <= Int.ofNat (r i) := Int.natCast_nonneg _
  have q2 : Int.ofNat (r i) < (m : Int) := by show ((r i : Nat) : Int) < (m : Int); omega
  rw [decide_eq_true q1, decide_eq_true q2]
  rfl
section
variable {n m : Nat} {f g : Nat -> Nat -> Nat} {z z' : Nat}
theorem y7d {d : D} (h : x2j n m d = false) : y2i n f z m g z' d = false := by
  cases d with
  | tup ds => show (x2j n m (.tup ds) && _) = false; rw [h]; rfl
  | _ => rfl
theorem y29 (hz : z < n) {r : Nat -> Nat} (hr : ∀ i, i < n -> r i < m) (cl : ∀ i j, i < n -> j < n -> f i j < n) : y2i n f z m g z' (x04 n r) = (ljB n f g r && decide (r z = z')) := by
  show (x2j n m (x04 n r) && (ljB n f g (x6h (x0o ((List.range n).map r))) && decide (x6h (x0o ((List.range n).map r)) z = z'))) = _
  rw [y3n hr, Bool.true_and, x3n hz]
  congr 1
  rw [Bool.eq_iff_iff, y0b, y0b]
  constructor
  · intro h x y hx hy
    have := h x y hx hy
    rw [x3n hx, x3n hy, x3n (cl x y hx hy)] at this
    exact this
  · intro h x y hx hy
    rw [x3n hx, x3n hy, x3n (cl x y hx hy)]
    exact h x y hx hy
variable (L : Lad n f) (hz : z < n) (bz : ∀ j, j < n -> f z j = j) (M : Lad m g) (hz' : z' < m) (bz' : ∀ j, j < m -> g z' j = j)
include L hz bz M hz' bz'
theorem IsMap.least {h : Nat -> Nat} (p : IsMap n f z m g h) : h z = z' := M.le_anti (p.lt z hz) hz' (p.bt z' hz') (bz' _ (p.lt z hz))
theorem x72 {r : Nat -> Nat} (hr : ∀ i, i < n -> r i < m) : y2i n f z m g z' (x04 n r) = true ↔ IsMap n f z m g r := by
  rw [y29 hz hr L.cl, Bool.and_eq_true, y0b, decide_eq_true_eq]
  exact ⟨fun ⟨h1, h2⟩ => ⟨hr, h1, fun j hj => by rw [h2]; exact bz' j hj⟩, fun p => ⟨p.jn, p.least L hz bz M hz' bz'⟩⟩
theorem x4s (d : D) : x2x [x09 n f, x09 m g, d] = some (.bl (y2i n f z m g z' d), 9) := by
  have hn : n <= 1000 := Nat.le_trans L.hi (by decide)
  have hm : m <= 1000 := Nat.le_trans M.hi (by decide)
  have v2 : x06 2 [some (x09 n f, 9), some (x09 m g, 9), some (d, x2e d)] = some (d, x2e d, [some (x09 n f, 9), some (x09 m g, 9), some (d, x2e d)]) := x6y rfl
  have v0 : x06 0 [some (x09 n f, 9), some (x09 m g, 9), some (d, x2e d)] = some (x09 n f, 9, [some (x09 n f, 9), some (x09 m g, 9), some (d, x2e d)]) := rfl
  have v1 : x06 1 [some (x09 n f, 9), some (x09 m g, 9), some (d, x2e d)] = some (x09 m g, 9, [some (x09 n f, 9), some (x09 m g, 9), some (d, x2e d)]) := rfl
  have l0 : x0z 0 [some (x09 n f, 9), some (x09 m g, 9), some (d, x2e d)] = some (.int (Int.ofNat n), 9, [some (x09 n f, 9), some (x09 m g, 9), some (d, x2e d)]) := x6x rfl x18
  have l1 : x0z 1 [some (x09 n f, 9), some (x09 m g, 9), some (d, x2e d)] = some (.int (Int.ofNat m), 9, [some (x09 n f, 9), some (x09 m g, 9), some (d, x2e d)]) := x6x rfl x18
  have c1 := x0u (n := 3) (x1a v2 (x1a l0 (x1d l1))) rfl (y5d n m hn d)
  unfold x2x y49
  refine x31 ?_
  show x1i _ _ [some (x09 n f, 9), some (x09 m g, 9), some (d, x2e d)] = _
  cases hR : x2j n m d with
  | false =>
    rw [hR] at c1
    rw [y7d hR]
    exact x3z ((y2s (y7f (y6h c1))).trans rfl)
  | true =>
    rw [hR] at c1
    refine (x0j ((y0m (y7f (y6h c1))).trans rfl)).trans ?_
    cases d with
    | tup ds =>
      have e := z6i hR
      have hb : ∀ i, i < n -> x6h ds i < m := fun i hi => ((z0e hR).2 i hi).2
      have r := z02 L (g := g) hb
      rw [<- e] at r
      have c2 := x0u (n := 3) (x1a v0 (x1a v1 (x1d v2))) rfl r
      have k1 := x0u (n := 1) (x1d v0) rfl (y0c L hz bz hn)
      have k2 := x0u (n := 1) (x1d v1) rfl (y0c M hz' bz' hm)
      have at1 : atD (.tup ds) (Int.ofNat z) = some (.int (Int.ofNat (x6h ds z))) := by rw [e]; exact x2o hz
      have k3 := x6q (x7m (i := 2) k1 rfl at1 rfl) k2 (x5r _ _)
      refine x2s (ρ1 := [some (x09 n f, 9), some (x09 m g, 9), some ((D.tup ds), x2e (D.tup ds))]) ?_
      show _ = some (D.bl (x2j n m (.tup ds) && (ljB n f g (x6h ds) && decide (x6h ds z = z'))), 9, _)
      rw [hR, Bool.true_and]
      unfold y7r
      rw [c2]
      cases hl : ljB n f g (x6h ds) with
      | false => rfl
      | true => exact k3
    | _ => cases hR
theorem y2b (d : D) : x2i [x09 n f, x09 m g, d] = if y2i n f z m g z' d = true then none else some "NoMap" := by
  have v2 : x06 2 [some (x09 n f, 9), some (x09 m g, 9), some (d, x2e d)] = some (d, x2e d, [some (x09 n f, 9), some (x09 m g, 9), some (d, x2e d)]) := x6y rfl
  have v0 : x06 0 [some (x09 n f, 9), some (x09 m g, 9), some (d, x2e d)] = some (x09 n f, 9, [some (x09 n f, 9), some (x09 m g, 9), some (d, x2e d)]) := rfl
  have v1 : x06 1 [some (x09 n f, 9), some (x09 m g, 9), some (d, x2e d)] = some (x09 m g, 9, [some (x09 n f, 9), some (x09 m g, 9), some (d, x2e d)]) := rfl
  have c1 := x0u (n := 3) (x1a v0 (x1a v1 (x1d v2))) rfl (x4s L hz bz M hz' bz' d)
  unfold x2i fnX x5j
  show xIf _ "NoMap" [some (x09 n f, 9), some (x09 m g, 9), some (d, x2e d)] = _
  unfold xIf x45 x8q
  simp only [c1]
  cases y2i n f z m g z' d <;> rfl
theorem y1t (d : D) : x3o [x09 n f, x09 m g, d] = if y2i n f z m g z' d = true then none else some "NoMap" := by
  have v2 : x06 2 [some (x09 n f, 9), some (x09 m g, 9), some (d, x2e d)] = some (d, x2e d, [some (x09 n f, 9), some (x09 m g, 9), some (d, x2e d)]) := x6y rfl
  have v0 : x06 0 [some (x09 n f, 9), some (x09 m g, 9), some (d, x2e d)] = some (x09 n f, 9, [some (x09 n f, 9), some (x09 m g, 9), some (d, x2e d)]) := rfl
  have v1 : x06 1 [some (x09 n f, 9), some (x09 m g, 9), some (d, x2e d)] = some (x09 m g, 9, [some (x09 n f, 9), some (x09 m g, 9), some (d, x2e d)]) := rfl
  have c1 := x1a v0 (x1a v1 (x1d v2))
  unfold x3o fnX y1m
  show y56 _ 3 _ [some (x09 n f, 9), some (x09 m g, 9), some (d, x2e d)] = _
  unfold y56
  rw [c1]
  exact y2b L hz bz M hz' bz' d
theorem y0w {h : Nat -> Nat} (p : IsMap n f z m g h) : x2q [x09 n f, x09 m g, x04 n h] = some (.non, 9) := by
  have e := x4s L hz bz M hz' bz' (x04 n h)
  rw [(x72 L hz bz M hz' bz' p.lt).mpr p] at e
  unfold x2q x5k
  simp [e]
omit M hz' bz'
noncomputable def bk (n : Nat) (f : Nat -> Nat -> Nat) (z : Nat) (g : Nat -> Nat -> Nat) (h : Nat -> Nat) (w : Nat) : Nat := ((List.range n).filter fun x => decide (g (h x) w = w)).foldl f z
theorem y4w {h : Nat -> Nat} {w : Nat} : bk n f z g h w < n := L.fold_lt hz fun x mm => List.mem_range.mp (List.mem_filter.mp mm).1
include M
theorem y4e {h : Nat -> Nat} (p : IsMap n f z m g h) {x w : Nat} (hx : x < n) (hw : w < m) : g (h x) w = w ↔ f x (bk n f z g h w) = bk n f z g h w := by
  have lt : ∀ y, y ∈ (List.range n).filter (fun x => decide (g (h x) w = w)) -> y < n := fun y mm => List.mem_range.mp (List.mem_filter.mp mm).1
  constructor
  · intro e
    exact L.fold_mem hz lt (List.mem_filter.mpr ⟨List.mem_range.mpr hx, decide_eq_true e⟩)
  · intro e
    have up : ∀ (l : List Nat) (a : Nat), a < n -> (∀ y ∈ l, y < n /\ g (h y) w = w) -> g (h a) w = w -> g (h (l.foldl f a)) w = w /\ l.foldl f a < n := by
      intro l
      induction l with
      | nil => intro a ha _ e; exact ⟨e, ha⟩
      | cons y l ih =>
        intro a ha hl e
        have hy := hl y List.mem_cons_self
        refine ih (f a y) (L.cl a y ha hy.1) (fun u mu => hl u (List.mem_cons_of_mem _ mu)) ?_
        rw [p.jn a y ha hy.1]
        exact M.lub (p.lt a ha) (p.lt y hy.1) hw e hy.2
    have hb := up _ z hz (fun y mm => ⟨lt y mm, of_decide_eq_true (List.mem_filter.mp mm).2⟩) (p.bt w hw)
    have hbl : bk n f z g h w < n := y4w L hz bz
    have mono : g (h x) (h (bk n f z g h w)) = h (bk n f z g h w) := by rw [<- p.jn x _ hx hbl, e]
    exact M.le_trans (p.lt x hx) (p.lt _ hbl) hw mono hb.1
include hz' bz'
theorem y00 {h : Nat -> Nat} (p : IsMap n f z m g h) : x49 [x09 n f, x09 m g, x04 n h] = some (x04 m (bk n f z g h), 9) := by
  have hn : n <= 1000 := Nat.le_trans L.hi (by decide)
  have hm : m <= 1000 := Nat.le_trans M.hi (by decide)
  unfold x49 y1v
  refine x31 ?_
  show x1i _ _ [some (x09 n f, 9), some (x09 m g, 9), some (x04 n h, 9)] = _
  refine (x0j (ρ1 := [some (x09 n f, 9), some (x09 m g, 9), some (x04 n h, 9)]) (by simp [y0w L hz bz M hz' bz' p])).trans ?_
  have hc := x1p (k := 1) (tt := x1f) (te := x0n x38 2 (x01 (x06 0) (x01 (x0n x3p 3 (x01 (x06 1) (x01 (x06 2) (x01 (x06 3) (x0e))))) (x0e)))) (deep := false) (x2a hm (i := 1) (ρ := [some (x09 n f, 9), some (x09 m g, 9), some (x04 n h, 9)]) rfl x18) (y3j (i := 3) rfl (fun _ => true) (fun w => .int (Int.ofNat (bk n f z g h w))) (fun _ => 9) (fun j hj => rfl) (fun j hj _ => by
    have e1 := y2h (g := g) hn p.lt hj
    have e2 := y6p L hz bz hn (l := (List.range n).filter fun x => decide (g (h x) j = j)) (Nat.le_trans (List.length_filter_le _ _) (by rw [List.length_range]; exact hn)) (fun x mm => List.mem_range.mp (List.mem_filter.mp mm).1)
    exact x0u (x1a (f := x06 0) (q := 9) rfl (x1d (x0u (ds := [x09 m g, x04 n h, .int (Int.ofNat j)]) rfl rfl e1))) rfl e2))
  rw [show (List.range m).filter (fun _ => true) = List.range m by simp] at hc
  exact x2s ((x37 (x1d hc)).trans (congrArg (fun d => some (d, 9, _)) (x99 _)))
end
theorem y5m {n m : Nat} (hn : n <= 1000) {r s : Nat -> Nat} (hr : ∀ i, i < n -> r i < m) : x8z [x04 n r, x04 m s] = some (x04 n fun i => s (r i), 9) := by
  unfold x8z y6g
  refine x31 (x2s (ρ1 := [some (x04 n r, 9), some (x04 m s, 9)]) ?_)
  have hi : x7b (x06 0) [some (x04 n r, 9), some (x04 m s, 9)] = some (x0o ((List.range n).map r), [some (x04 n r, 9), some (x04 m s, 9)]) := by
    simp [x04, x1c, hn]
  have hc := x1p (k := 1) (te := x1l 1 (x06 2)) (deep := false) hi (z7q (i := 2) ((List.range n).map r) rfl (fun y => .int (Int.ofNat (s y))) (fun _ => 9) (fun y hy => by
    obtain ⟨i, hi, rfl⟩ := List.mem_map.mp hy
    have := hr i (List.mem_range.mp hi)
    simp [-Int.ofNat_eq_natCast, x2o this]))
  rw [List.map_map] at hc
  exact (x37 (x1d hc)).trans (congrArg (fun d => some (d, 9, _)) (x99 (fun i => s (r i))))
theorem x7n {n m : Nat} (hn : n <= 1000) {r s : Nat -> Nat} (hr : ∀ i, i < n -> r i < m) : x3t [x04 n r, x04 m s] = some (x04 n fun i => s (r i), 9) := by
  unfold x3t x9a
  exact x31 (x2s (x0u (ds := [x04 n r, x04 m s]) rfl rfl (y5m hn hr)))
theorem IsMap.after {n m k : Nat} {f g u : Nat -> Nat -> Nat} {z z' : Nat} {h h' : Nat -> Nat} (p : IsMap n f z m g h) (hz : z < n) (e : h z = z') (q : IsMap m g z' k u h') : IsMap n f z k u fun i => h' (h i) :=
  ⟨fun i hi => q.lt _ (p.lt i hi), fun x y hx hy => by show h' (h (f x y)) = _; rw [p.jn x y hx hy, q.jn _ _ (p.lt x hx) (p.lt y hy)], fun j hj => by show u (h' (h z)) j = j; rw [e]; exact q.bt j hj⟩
theorem y6j {n : Nat} {r : Nat -> Nat} {p : Nat} (hp : p < n) : L3.z40 (x0o ((List.range n).map r)) none (some (Int.ofNat p)) = x0o ((List.range p).map r) := by
  unfold L3.z40
  have e1 : HT.sIx (x0o ((List.range n).map r)).length 0 none = 0 := rfl
  have e2 : HT.sIx (x0o ((List.range n).map r)).length (x0o ((List.range n).map r)).length (some (Int.ofNat p)) = p := by
    rw [x1c, List.length_map, List.length_range]
    have : ¬ ((p : Int) < 0) := by omega
    simp [HT.sIx, this]
    omega
  rw [e1, e2, List.drop_zero, Nat.sub_zero]
  simp only [x0o, <- List.map_take]
  rw [List.take_range, Nat.min_eq_left (Nat.le_of_lt hp)]
theorem y4g {n : Nat} {r : Nat -> Nat} {p : Nat} (hp : p < n) : L3.z40 (x0o ((List.range n).map r)) (some (Int.ofNat p + 1)) none = x0o (((List.range n).map r).drop (p + 1)) := by
  unfold L3.z40
  have e1 : HT.sIx (x0o ((List.range n).map r)).length 0 (some (Int.ofNat p + 1)) = p + 1 := by
    rw [x1c, List.length_map, List.length_range]
    have : ¬ ((p : Int) + 1 < 0) := by omega
    simp [HT.sIx, this]
    omega
  have e2 : HT.sIx (x0o ((List.range n).map r)).length (x0o ((List.range n).map r)).length none = (x0o ((List.range n).map r)).length := rfl
  rw [e1, e2, List.take_of_length_le (by rw [List.length_drop]; exact Nat.le_refl _)]
  simp only [x0o, List.map_drop]
theorem z00 {n : Nat} {r : Nat -> Nat} (hp : 0 < n) : L3.z40 (x0o ((List.range n).map r)) none (some (-1)) = x0o ((List.range (n - 1)).map r) := by
  unfold L3.z40
  have e1 : HT.sIx (x0o ((List.range n).map r)).length 0 none = 0 := rfl
  have e2 : HT.sIx (x0o ((List.range n).map r)).length (x0o ((List.range n).map r)).length (some (-1)) = n - 1 := by
    rw [x1c, List.length_map, List.length_range]
    simp [HT.sIx]
    omega
  rw [e1, e2, List.drop_zero, Nat.sub_zero]
  simp only [x0o, <- List.map_take]
  rw [List.take_range, Nat.min_eq_left (Nat.sub_le n 1)]
theorem z3b {n : Nat} {r : Nat -> Nat} {p v : Nat} (hp : p < n) : x0o ((List.range p).map r) ++ [.int (Int.ofNat v)] ++ x0o (((List.range n).map r).drop (p + 1)) = x0o ((List.range n).map fun i => if i = p then v else r i) := by
  have e := List.set_eq_take_append_cons_drop (l := (List.range n).map r) (i := p) (a := v)
  rw [if_pos (by simpa using hp), x5a] at e
  have e2 := congrArg x0o e
  simp only [x0o, List.map_append, List.map_cons] at e2
  simp only [x0o]
  rw [e2]
  simp only [List.append_assoc, List.singleton_append]
  rw [show List.take p (List.map r (List.range n)) = List.map r (List.range p) by rw [<- List.map_take, List.take_range, Nat.min_eq_left (Nat.le_of_lt hp)]]
theorem y4j {n : Nat} {r : Nat -> Nat} (hp : 0 < n) : (L3.z40 (x0o ((List.range n).map r)) (some 1) none).length = n - 1 := by
  have := y4g (r := r) hp
  rw [show (Int.ofNat 0 + 1 : Int) = 1 from rfl] at this
  rw [this, x1c, List.length_drop, List.length_map, List.length_range]
theorem y90 {m n : Nat} {l : List D} {d : D} (h : x5f n d = false) : x2j m n (.tup (l ++ [d])) = false := by
  unfold x2j
  simp [List.all_append, h]
theorem y4a {m n : Nat} {l : List D} (h : l.length ≠ m) : x2j m n (.tup l) = false := by
  unfold x2j
  simp [h]
theorem y8g : x4y [.exc "NoMap"] = some (.str "no map", 9) := by rfl
theorem y3d {k : Nat} {s : Str} (h : lay (.str s) = true) : Sh k (.str s) := ⟨h, Nat.zero_le _⟩
theorem z5f (ds : List D) (h : okD (.tup ds) = true) : dEq (.tup ds) (.str "no map") = some (.bl false) := by
  unfold dEq
  rw [if_pos ⟨h, (y3d (k := 0) (s := "no map") (by decide +kernel)).ok⟩]
  simp [eqD, toP, PyData.eqv]
theorem z5u : dEq (.str "no map") (.str "no map") = some (.bl true) := by
  unfold dEq
  rw [if_pos ⟨(y3d (k := 0) (s := "no map") (by decide +kernel)).ok, (y3d (k := 0) (s := "no map") (by decide +kernel)).ok⟩]
  simp [eqD, toP, PyData.eqv]
section
variable {n m : Nat} {f g : Nat -> Nat -> Nat} {z z' : Nat} (L : Lad n f) (hz : z < n) (bz : ∀ j, j < n -> f z j = j) (M : Lad m g) (hz' : z' < m) (bz' : ∀ j, j < m -> g z' j = j)
include L hz bz M hz' bz'
theorem y8n {d : D} (h : y2i n f z m g z' d = false) : x24 [x09 n f, x09 m g, d] = some (.str "no map", 9) := by
  have hx : x3o [x09 n f, x09 m g, d] = some "NoMap" := by rw [y1t L hz bz M hz' bz' d, h]; rfl
  have v2 : x06 2 [some (x09 n f, 9), some (x09 m g, 9), some (d, x2e d), some (.non, 9), some (.non, 9), none] = some (d, x2e d, [some (x09 n f, 9), some (x09 m g, 9), some (d, x2e d), some (.non, 9), some (.non, 9), none]) := x6y rfl
  have v0 : x06 0 [some (x09 n f, 9), some (x09 m g, 9), some (d, x2e d), some (.non, 9), some (.non, 9), none] = some (x09 n f, 9, [some (x09 n f, 9), some (x09 m g, 9), some (d, x2e d), some (.non, 9), some (.non, 9), none]) := rfl
  have v1 : x06 1 [some (x09 n f, 9), some (x09 m g, 9), some (d, x2e d), some (.non, 9), some (.non, 9), none] = some (x09 m g, 9, [some (x09 n f, 9), some (x09 m g, 9), some (d, x2e d), some (.non, 9), some (.non, 9), none]) := rfl
  have c1 := x1a v0 (x1a v1 (x1d v2))
  unfold x24 x6l
  refine x31 ?_
  refine (x0j (ρ1 := [some (x09 n f, 9), some (x09 m g, 9), some (d, x2e d), some (.non, 9), none, none]) rfl).trans ?_
  refine (x0j (ρ1 := [some (x09 n f, 9), some (x09 m g, 9), some (d, x2e d), some (.non, 9), some (.non, 9), none]) rfl).trans ?_
  refine (x0j (ρ1 := [some (x09 n f, 9), some (x09 m g, 9), some (d, x2e d), some (.exc "NoMap", 9), some (.non, 9), none]) ?_).trans ?_
  · unfold z3q
    rw [c1]
    simp only [hx]
    rfl
  refine (x0j (ρ1 := [some (x09 n f, 9), some (x09 m g, 9), some (d, x2e d), some (.exc "NoMap", 9), some (.non, 9), none]) rfl).trans ?_
  exact x2s (x0u (ds := [.exc "NoMap"]) rfl rfl y8g)
theorem x96 {h : Nat -> Nat} (p : IsMap n f z m g h) : x24 [x09 n f, x09 m g, x04 n h] = some (x04 m (bk n f z g h), 9) := by
  have hx : x3o [x09 n f, x09 m g, x04 n h] = none := by rw [y1t L hz bz M hz' bz', (x72 L hz bz M hz' bz' p.lt).mpr p]; rfl
  have c1 : x01 (x06 0) (x01 (x06 1) (x01 (x06 2) x0e)) [some (x09 n f, 9), some (x09 m g, 9), some (x04 n h, 9), some (.non, 9), some (.non, 9), none] = some ([x09 n f, x09 m g, x04 n h], [some (x09 n f, 9), some (x09 m g, 9), some (x04 n h, 9), some (.non, 9), some (.non, 9), none]) := rfl
  unfold x24 x6l
  refine x31 ?_
  refine (x0j (ρ1 := [some (x09 n f, 9), some (x09 m g, 9), some (x04 n h, 9), some (.non, 9), none, none]) rfl).trans ?_
  refine (x0j (ρ1 := [some (x09 n f, 9), some (x09 m g, 9), some (x04 n h, 9), some (.non, 9), some (.non, 9), none]) rfl).trans ?_
  refine (x0j (ρ1 := [some (x09 n f, 9), some (x09 m g, 9), some (x04 n h, 9), some (.non, 9), some (x04 m (bk n f z g h), 9), none]) ?_).trans ?_
  · unfold z3q
    rw [c1]
    simp only [hx]
    exact x1s (x0u c1 rfl (y00 L hz bz M hz' bz' p)) rfl
  exact x3z ((y2s (ρ1 := [some (x09 n f, 9), some (x09 m g, 9), some (x04 n h, 9), some (.non, 9), some (x04 m (bk n f z g h), 9), none]) rfl).trans (x2s rfl))
theorem z1k {r : Nat -> Nat} (hr : ∀ i, i < n -> r i < m) : x43 [x09 n f, x09 m g, x04 n r] = some (.bl (y2i n f z m g z' (x04 n r)), 9) := by
  have hn : n <= 1000 := Nat.le_trans L.hi (by decide)
  have hm : m <= 1000 := Nat.le_trans M.hi (by decide)
  have eB : y2i n f z m g z' (x04 n r) = (decide (r z = z') && (List.range n).all fun x => decide ((List.range x).map (fun k => r (f x k)) = (List.range x).map (fun k => g (r x) (r k)))) := by
    rw [y29 hz hr L.cl, Bool.and_comm]
    congr 1
    rw [Bool.eq_iff_iff, y0b, L3.range_all]
    constructor
    · intro h x hx
      refine decide_eq_true (List.map_congr_left fun k hk => ?_)
      exact h x k hx (Nat.lt_trans (List.mem_range.mp hk) hx)
    · intro h
      have h' : ∀ x k, x < n -> k < x -> r (f x k) = g (r x) (r k) := fun x k hx hk => by
        have e := congrArg (fun l => l[k]?) (of_decide_eq_true (h x hx))
        simp only [List.getElem?_map, List.getElem?_range hk, Option.map_some, Option.some.injEq] at e
        exact e
      intro x y hx hy
      rcases Nat.lt_trichotomy x y with c | c | c
      · rw [L.comm x y hx hy, h' y x hy c, M.comm _ _ (hr y hy) (hr x hx)]
      · subst c; rw [L.idem x hx, M.idem _ (hr x hx)]
      · exact h' x y hx c
  unfold x43 y06
  refine x31 ?_
  show x1i _ _ [some (x09 n f, 9), some (x09 m g, 9), some (x04 n r, 9), none, none] = _
  have k1 := x0u (F := x39) (n := 1) (g := x01 (x06 0) x0e) (ds := [x09 n f]) (ρ := [some (x09 n f, 9), some (x09 m g, 9), some (x04 n r, 9), none, none]) rfl rfl (z0l L hz bz hn)
  have k2 := x0u (F := x39) (n := 1) (g := x01 (x06 1) x0e) (ds := [x09 m g]) (ρ := [some (x09 n f, 9), some (x09 m g, 9), some (x04 n r, 9), none, none]) rfl rfl (z0l M hz' bz' hm)
  have k3 := x4l (x6q (x7m (i := 2) k1 rfl (x2o (r := r) hz) rfl) k2 (x4j _ _))
  rw [eB]
  by_cases h0 : r z = z'
  · rw [decide_eq_true h0] at k3 ⊢
    rw [Bool.true_and]
    refine (x0j ((y0m k3).trans rfl)).trans ?_
    obtain ⟨h1, h2⟩ := x40 (pt := x0h 3) (body := y2x) (d := .bl false) (q := 9) (x0v n) (fun ρ => ∃ x y, ρ = [some (x09 n f, 9), some (x09 m g, 9), some (x04 n r, 9), x, y]) (fun x => decide ((List.range x).map (fun k => r (f x k)) = (List.range x).map (fun k => g (r x) (r k)))) [some (x09 n f, 9), some (x09 m g, 9), some (x04 n r, 9), none, none] (fun x hx ρ hh => by
      obtain ⟨a, b, rfl⟩ := hh
      have hx' : x < n := by rw [x0d] at hx; exact hx
      have hx1 : x <= 1000 := by omega
      refine ⟨[some (x09 n f, 9), some (x09 m g, 9), some (x04 n r, 9), some (.int (Int.ofNat x), 9), b], by rw [show (x0v n)[x] = .int (Int.ofNat x) by simp [x0v]]; rfl, ?_⟩
      have c1 := x1p (k := 1) (tt := x1f) (te := eIx (x1l 1 (x1l 2 (x06 3))) (x1l 2 (x06 5))) (deep := false) (y5s hx1 (i := 3) (q := 9) (ρ := [some (x09 n f, 9), some (x09 m g, 9), some (x04 n r, 9), some (.int (Int.ofNat x), 9), b]) rfl) (y3j (i := 5) rfl (fun _ => true) (fun k => .int (Int.ofNat (g (r x) (r k)))) (fun _ => 9) (fun k hk => rfl) (fun k hk _ => by
        have hk' := Nat.lt_trans hk hx'
        simp [-Int.ofNat_eq_natCast, x2o (r := r) hx', x2o (r := r) hk', x1o (f := g) (hr x hx'), x20 (f := g) (i := r x) (hr k hk')]))
      rw [show (List.range x).filter (fun _ => true) = List.range x by simp, <- x50] at c1
      have s1 : x30 4 (x25 1 (x0q (x01 (x06 3) (x0e))) (x0h 5) (x1f) (eIx (x1l 1 (x1l 2 (x06 3))) (x1l 2 (x06 5))) false) [some (x09 n f, 9), some (x09 m g, 9), some (x04 n r, 9), some (.int (Int.ofNat x), 9), b] = some (.nx [some (x09 n f, 9), some (x09 m g, 9), some (x04 n r, 9), some (.int (Int.ofNat x), 9), some (.lst (x0o ((List.range x).map fun k => g (r x) (r k))), 1)]) := x1s c1 rfl
      have c2 := x1p (k := 1) (tt := x1f) (te := x1l 2 (eIx (x1l 0 (x06 3)) (x06 5))) (deep := false) (y5s hx1 (i := 3) (q := 9) (ρ := [some (x09 n f, 9), some (x09 m g, 9), some (x04 n r, 9), some (.int (Int.ofNat x), 9), some (.lst (x0o ((List.range x).map fun k => g (r x) (r k))), 1)]) rfl) (y3j (i := 5) rfl (fun _ => true) (fun k => .int (Int.ofNat (r (f x k)))) (fun _ => 9) (fun k hk => rfl) (fun k hk _ => by
        have hk' := Nat.lt_trans hk hx'
        simp [-Int.ofNat_eq_natCast, x1o (f := f) hx', x20 (f := f) (i := x) hk', x2o (r := r) (L.cl x k hx' hk')]))
      rw [show (List.range x).filter (fun _ => true) = List.range x by simp, <- x50] at c2
      have c3 := x4l (x6q c2 (y0a (i := 4) (q := 1) (ds := x0o ((List.range x).map fun k => g (r x) (r k))) rfl) (z7d _ _))
      refine ⟨fun ok => ⟨[some (x09 n f, 9), some (x09 m g, 9), some (x04 n r, 9), some (.int (Int.ofNat x), 9), some (.lst (x0o ((List.range x).map fun k => g (r x) (r k))), 0)], ?_, _, _, rfl⟩, fun no => ?_⟩
      · rw [ok] at c3
        exact (x0j s1).trans ((y0m c3).trans rfl)
      · rw [no] at c3
        exact (x0j s1).trans ((y2s c3).trans rfl)) ⟨none, none, rfl⟩
    rw [x0d] at h1 h2
    cases hc : ((List.range n).all fun x => decide ((List.range x).map (fun k => r (f x k)) = (List.range x).map (fun k => g (r x) (r k)))) with
    | true =>
      obtain ⟨ρ', e, x, y, rfl⟩ := h1 hc
      exact (x0j ((x1y (x2a hn rfl x18)).trans e)).trans rfl
    | false => exact x3z ((x1y (x2a hn rfl x18)).trans (h2 hc))
  · rw [decide_eq_false h0] at k3 ⊢
    exact x3z ((y2s k3).trans rfl)
end
theorem z1z {n : Nat} {f : Nat -> Nat -> Nat} (L : Lad n f) : z71 n f = true := by
  obtain ⟨z, hz, bz⟩ := L.bot
  unfold z71
  simp only [Bool.and_eq_true]
  refine ⟨⟨?_, ?_⟩, ?_, ?_⟩
  · exact L3.range_all.mpr fun x hx => decide_eq_true (L.idem x hx)
  · exact L3.range_all.mpr fun x hx => L3.range_all.mpr fun y hy => decide_eq_true (L.comm x y hx (Nat.lt_trans hy hx))
  · exact L3.range_all.mpr fun x hx => L3.range_all.mpr fun y hy => L3.range_all.mpr fun k hk => decide_eq_true (L.assoc x y k hx hy hk)
  · unfold x90
    rw [List.any_eq_true]
    refine ⟨z, List.mem_range.mpr hz, decide_eq_true ?_⟩
    have : (List.range n).map (fun j => f z j) = (List.range n).map fun j => j := List.map_congr_left fun j hj => bz j (List.mem_range.mp hj)
    rw [this, List.map_id']
theorem y4q (ns : List Int) {c : Int} (hc : 0 <= c) {n m : Nat} (hn : n <= 1000) (hp : 0 < m) {ρ : Rho} {i i' j : Nat} {d d' : D} {q q' : Nat} (hl : ρ.length = j) (h0 : ρ[0]? = some (some (scr ns, 0))) (hi : ρ[i]? = some (some (d, q))) (hd : x8g d = some n) (hi' : ρ[i']? = some (some (d', q'))) (hd' : x8g d' = some m) (h0j : 0 < j) (hij : i < j) (hij' : i' < j) :
    x1x (x01 (x25 1 (x0q (x01 (x0z i) (x0e))) (x0h j) (x1f) (x0n x0g 3 (x01 (x06 0) (x01 (e2 x4x (eC (.int c)) (x06 j)) (x01 (x0z i') (x0e))))) false) (x0e)) ρ = some (x04 n (pkr ns c m), 9, ρ) := by
  have hnp : (0 : Int) < Int.ofNat m := by show (0 : Int) < (m : Int); omega
  have hcm := x1p (k := 1) (tt := x1f) (te := x0n x0g 3 (x01 (x06 0) (x01 (e2 x4x (eC (.int c)) (x06 j)) (x01 (x0z i') (x0e))))) (deep := false) (x2a hn hi hd) (y3j (i := j) hl (fun _ => true) (fun k => .int (Int.ofNat (pkr ns c m k))) (fun _ => 9) (fun k hk => rfl) (fun k hk _ => by
    have e := x6m ns (c + Int.ofNat k) (Int.ofNat m) (by show 0 <= c + (k : Int); omega) hnp
    have e' : x7c ns (c + Int.ofNat k) (Int.ofNat m) = Int.ofNat (pkr ns c m k) := by
      have := x5y ns (c + Int.ofNat k) hnp
      unfold pkr
      show _ = ((x7c ns (c + Int.ofNat k) (Int.ofNat m)).toNat : Int)
      omega
    rw [e'] at e
    have g0 : (ρ ++ [some (D.int (Int.ofNat k), 9)])[0]? = some (some (scr ns, 0)) := by rw [List.getElem?_append_left (by omega)]; exact h0
    have gi : (ρ ++ [some (D.int (Int.ofNat k), 9)])[i']? = some (some (d', q')) := by rw [List.getElem?_append_left (by omega)]; exact hi'
    have gj : (ρ ++ [some (D.int (Int.ofNat k), 9)])[j]? = some (some (.int (Int.ofNat k), 9)) := by rw [List.getElem?_append_right (by omega)]; simp [hl]
    generalize ρ ++ [some (D.int (Int.ofNat k), 9)] = ρ' at g0 gi gj ⊢
    simp [-Int.ofNat_eq_natCast, g0, gi, gj, e, hd']))
  rw [show (List.range n).filter (fun _ => true) = List.range n by simp] at hcm
  exact (x37 (x1d hcm)).trans (congrArg (fun d => some (d, 9, _)) (x99 _))
theorem law_true (ns : List Int) (h63 : ns.length <= 63) : ∃ q, y4s [.lst (ns.map D.int)] = some (.bl true, q) := by
  obtain ⟨n, f, L, hL⟩ := z56 ns 0 (Int.le_refl 0)
  obtain ⟨z, hz, bz⟩ := L.bot
  obtain ⟨m, g, h, M, P, eM⟩ := x9t L hz bz ns 20 (by decide)
  obtain ⟨z', hz', bz'⟩ := M.bot
  obtain ⟨k, u, h', K, P', eK⟩ := x9t M hz' bz' ns 60 (by decide)
  obtain ⟨y, hy, by'⟩ := K.bot
  have hn : n <= 1000 := Nat.le_trans L.hi (by decide)
  have hm : m <= 1000 := Nat.le_trans M.hi (by decide)
  have hk : k <= 1000 := Nat.le_trans K.hi (by decide)
  have hlo := L.lo
  have h8 := L.hi
  have PB := P.after hz (P.least L hz bz M hz' bz') P'
  obtain ⟨p, hp, ep⟩ := x78 ns (c := 50) (by decide) L.lo
  obtain ⟨v, hv, ev⟩ := x78 ns (c := 51) (by decide) M.lo
  obtain ⟨x, hx, ex⟩ := x78 ns (c := 52) (by decide) (n := 5) (by decide)
  have is1 := z0z M.lo (Nat.le_trans M.hi (by decide)) M.cl
  rw [z1z M] at is1
  have im1 := x4s L hz bz M hz' bz' (x04 n h)
  rw [(x72 L hz bz M hz' bz' P.lt).mpr P] at im1
  have im2 := x4s L hz bz K hy by' (x04 n fun i => h' (h i))
  rw [(x72 L hz bz K hy by' PB.lt).mpr PB] at im2
  have hd := fun i => z4h ns 40 (n := m) M.lo i
  refine ⟨9, ?_⟩
  unfold y4s z5n
  refine x31 ?_
  show x1i _ _ [some (scr ns, 0), none, none, none, none, none, none, none, none, none, none, none, none, none, none, none, none, none] = _
  refine (x0j (ρ1 := [some (scr ns, 0), some (x09 n f, 9), none, none, none, none, none, none, none, none, none, none, none, none, none, none, none, none]) (x1s (x0u (ds := [scr ns, .int 0]) rfl rfl hL) rfl)).trans ?_
  refine (x0j (ρ1 := [some (scr ns, 0), some (x09 n f, 9), some (x09 m g, 9), some (x04 n h, 9), none, none, none, none, none, none, none, none, none, none, none, none, none, none]) (z58 (x0u (ds := [scr ns, .int 20, x09 n f]) rfl rfl eM) rfl (show 2 < 18 by decide) (show 3 < 18 by decide))).trans ?_
  refine (x0j (ρ1 := [some (scr ns, 0), some (x09 n f, 9), some (x09 m g, 9), some (x04 n h, 9), none, none, none, none, none, none, none, none, none, none, none, none, none, none]) (by simp [is1, im1, x5w])).trans ?_
  refine (x0j (ρ1 := [some (scr ns, 0), some (x09 n f, 9), some (x09 m g, 9), some (x04 n h, 9), some (x04 n (pkr ns 40 m), 9), none, none, none, none, none, none, none, none, none, none, none, none, none]) (x1s (y4q ns (c := 40) (by decide) hn M.lo (i := 1) (i' := 2) (j := 18) rfl rfl rfl x18 rfl x18 (by decide) (by decide) (by decide)) rfl)).trans ?_
  refine (x0j (ρ1 := [some (scr ns, 0), some (x09 n f, 9), some (x09 m g, 9), some (x04 n h, 9), some (x04 n (pkr ns 40 m), 9), some (.int (Int.ofNat p), 9), none, none, none, none, none, none, none, none, none, none, none, none]) (x1s (x0u (x1a (f := x06 0) (q := 0) rfl (x1a (f := eC (.int 50)) (q := 9) rfl (x1d (x6x rfl x18)))) rfl ep) rfl)).trans ?_
  have hlen : (x0o ((List.range n).map h)).length = n := by simp [x1c]
  refine (x0j (ρ1 := [some (scr ns, 0), some (x09 n f, 9), some (x09 m g, 9), some (x04 n h, 9), some (x04 n (pkr ns 40 m), 9), some (.int (Int.ofNat p), 9), some (x04 n (fun i => if i = p then v else h i), 9), none, none, none, none, none, none, none, none, none, none, none]) ?_).trans ?_
  · have g1 : eSl (x06 3) x8i (x8a (x06 5)) [some (scr ns, 0), some (x09 n f, 9), some (x09 m g, 9), some (x04 n h, 9), some (x04 n (pkr ns 40 m), 9), some (.int (Int.ofNat p), 9), none, none, none, none, none, none, none, none, none, none, none, none] = some (.tup (x0o ((List.range p).map h)), 9, [some (scr ns, 0), some (x09 n f, 9), some (x09 m g, 9), some (x04 n h, 9), some (x04 n (pkr ns 40 m), 9), some (.int (Int.ofNat p), 9), none, none, none, none, none, none, none, none, none, none, none, none]) := by
      rw [<- y6j hp]
      rfl
    have g2 : eSl (x06 3) (x8a (e2 x4x (x06 5) (eC (.int 1)))) x8i [some (scr ns, 0), some (x09 n f, 9), some (x09 m g, 9), some (x04 n h, 9), some (x04 n (pkr ns 40 m), 9), some (.int (Int.ofNat p), 9), none, none, none, none, none, none, none, none, none, none, none, none] = some (.tup (x0o (((List.range n).map h).drop (p + 1))), 9, [some (scr ns, 0), some (x09 n f, 9), some (x09 m g, 9), some (x04 n h, 9), some (x04 n (pkr ns 40 m), 9), some (.int (Int.ofNat p), 9), none, none, none, none, none, none, none, none, none, none, none, none]) := by
      rw [<- y4g hp]
      rfl
    have g3 : x88 (x01 (x0n x0g 3 (x01 (x06 0) (x01 (eC (.int 51)) (x01 (x0z 2) (x0e))))) (x0e)) [some (scr ns, 0), some (x09 n f, 9), some (x09 m g, 9), some (x04 n h, 9), some (x04 n (pkr ns 40 m), 9), some (.int (Int.ofNat p), 9), none, none, none, none, none, none, none, none, none, none, none, none] = some (.tup [.int (Int.ofNat v)], 9, [some (scr ns, 0), some (x09 n f, 9), some (x09 m g, 9), some (x04 n h, 9), some (x04 n (pkr ns 40 m), 9), some (.int (Int.ofNat p), 9), none, none, none, none, none, none, none, none, none, none, none, none]) :=
      y5o (x1d (x0u (x1a (f := x06 0) (q := 0) rfl (x1a (f := eC (.int 51)) (q := 9) rfl (x1d (x6x rfl x18)))) rfl ev)) (show 1 <= 1000 by decide)
    have l1 : (x0o ((List.range p).map h)).length = p := by simp [x1c]
    have l2 : (x0o (((List.range n).map h).drop (p + 1))).length = n - (p + 1) := by simp [x1c]
    refine x1s (d := x04 n (fun i => if i = p then v else h i)) (q := 9) (ρ1 := [some (scr ns, 0), some (x09 n f, 9), some (x09 m g, 9), some (x04 n h, 9), some (x04 n (pkr ns 40 m), 9), some (.int (Int.ofNat p), 9), none, none, none, none, none, none, none, none, none, none, none, none]) ?_ rfl
    show _ = some (D.tup (x0o ((List.range n).map fun i => if i = p then v else h i)), 9, _)
    rw [<- z3b (r := h) (v := v) hp]
    unfold y6m
    simp only [g1, g3, g2]
    rw [if_pos (by rw [l1]; simp; omega)]
    simp only [g2]
    rw [if_pos (by rw [List.length_append, l1, l2]; simp; omega)]
  have hnear : ∀ i, i < n -> (if i = p then v else h i) < m := fun i hi => by split; exact hv; exact P.lt i hi
  generalize hng : (fun i => if i = p then v else h i) = near
  have hnear' : ∀ i, i < n -> near i < m := fun i hi => by rw [<- hng]; exact hnear i hi
  generalize hdr : pkr ns 40 m = dr
  have hdr' : ∀ i, i < n -> dr i < m := fun i _ => by rw [<- hdr]; exact hd i
  have turn : ∀ (r : Nat -> Nat) (c8 : Option (D × Nat)), (∀ i, i < n -> r i < m) -> z0f [some (scr ns, 0), some (x09 n f, 9), some (x09 m g, 9), some (x04 n h, 9), some (x04 n dr, 9), some (.int (Int.ofNat p), 9), some (x04 n near, 9), some (x04 n r, 9), c8, none, none, none, none, none, none, none, none, none] = some (.nx [some (scr ns, 0), some (x09 n f, 9), some (x09 m g, 9), some (x04 n h, 9), some (x04 n dr, 9), some (.int (Int.ofNat p), 9), some (x04 n near, 9), some (x04 n r, 9), some (.bl (y2i n f z m g z' (x04 n r)), 9), none, none, none, none, none, none, none, none, none]) := fun r c8 hr => by
    have d1 := z1k L hz bz M hz' bz' hr
    have d2 := x4s L hz bz M hz' bz' (x04 n r)
    unfold z0f
    refine (x0j (ρ1 := [some (scr ns, 0), some (x09 n f, 9), some (x09 m g, 9), some (x04 n h, 9), some (x04 n dr, 9), some (.int (Int.ofNat p), 9), some (x04 n near, 9), some (x04 n r, 9), some (.bl (y2i n f z m g z' (x04 n r)), 9), none, none, none, none, none, none, none, none, none]) (x1s (x0u (ds := [x09 n f, x09 m g, x04 n r]) rfl rfl d1) rfl)).trans ?_
    cases hB : y2i n f z m g z' (x04 n r) with
    | false =>
      rw [hB] at d2
      have d3 := y8n L hz bz M hz' bz' hB
      simp [d2, d3, y7e, z5u, y6a]
    | true =>
      rw [hB] at d2
      have d3 := x96 L hz bz M hz' bz' ((x72 L hz bz M hz' bz' hr).mp hB)
      have d4 : dEq (x04 m (bk n f z g r)) (.str "no map") = some (.bl false) := z5f _ (z3r _).ok
      simp [d2, d3, d4, y7e, y6a]
  refine (x0j (ρ1 := [some (scr ns, 0), some (x09 n f, 9), some (x09 m g, 9), some (x04 n h, 9), some (x04 n dr, 9), some (.int (Int.ofNat p), 9), some (x04 n near, 9), some (x04 n near, 9), some (.bl (y2i n f z m g z' (x04 n near)), 9), none, none, none, none, none, none, none, none, none]) ?_).trans ?_
  · have hi : x7b (x88 (x01 (x06 4) (x01 (x06 6) (x0e)))) [some (scr ns, 0), some (x09 n f, 9), some (x09 m g, 9), some (x04 n h, 9), some (x04 n dr, 9), some (.int (Int.ofNat p), 9), some (x04 n near, 9), none, none, none, none, none, none, none, none, none, none, none] = some ([x04 n dr, x04 n near], [some (scr ns, 0), some (x09 n f, 9), some (x09 m g, 9), some (x04 n h, 9), some (x04 n dr, 9), some (.int (Int.ofNat p), 9), some (x04 n near, 9), none, none, none, none, none, none, none, none, none, none, none]) := rfl
    rw [x1y hi]
    exact (y6v (ρ1 := [some (scr ns, 0), some (x09 n f, 9), some (x09 m g, 9), some (x04 n h, 9), some (x04 n dr, 9), some (.int (Int.ofNat p), 9), some (x04 n near, 9), some (x04 n dr, 9), none, none, none, none, none, none, none, none, none, none]) rfl (turn dr _ hdr')).trans ((y6v (ρ1 := [some (scr ns, 0), some (x09 n f, 9), some (x09 m g, 9), some (x04 n h, 9), some (x04 n dr, 9), some (.int (Int.ofNat p), 9), some (x04 n near, 9), some (x04 n near, 9), some (.bl (y2i n f z m g z' (x04 n dr)), 9), none, none, none, none, none, none, none, none, none]) rfl (turn near _ hnear')).trans rfl)
  generalize (y2i n f z m g z' (x04 n near)) = B
  generalize hbad : ([.lst (x0o ((List.range n).map h)), .tup (x0o ((List.range n).map h) ++ [.int 0]), .tup (L3.z40 (x0o ((List.range n).map h)) (some 1) none), .non, .tup (x0o ((List.range (n - 1)).map h) ++ [.int (Int.ofNat m)])] : List D) = bad
  have fin : ∃ d, L2.atI bad (Int.ofNat x) = some d /\ x2j n m d = false := by
    have hk' : x = 0 \/ x = 1 \/ x = 2 \/ x = 3 \/ x = 4 := by omega
    subst hbad
    rcases hk' with rfl | rfl | rfl | rfl | rfl
    · exact ⟨_, rfl, rfl⟩
    · exact ⟨_, rfl, y4a (by rw [List.length_append, hlen]; simp)⟩
    · exact ⟨_, rfl, y4a (by rw [y4j hlo]; omega)⟩
    · exact ⟨_, rfl, rfl⟩
    · exact ⟨_, rfl, y90 (by show (decide ((0 : Int) <= (m : Int)) && decide ((m : Int) < (m : Int))) = false; simp)⟩
  obtain ⟨d, ed, hrr⟩ := fin
  have is3 := x4s L hz bz M hz' bz' d
  rw [y7d hrr] at is3
  refine (x0j (ρ1 := [some (scr ns, 0), some (x09 n f, 9), some (x09 m g, 9), some (x04 n h, 9), some (x04 n dr, 9), some (.int (Int.ofNat p), 9), some (x04 n near, 9), some (x04 n near, 9), some (.bl B, 9), some (d, x2e d), none, none, none, none, none, none, none, none]) ?_).trans ?_
  · have lm : (x0o ((List.range (n - 1)).map h)).length = n - 1 := by simp [x1c]
    have g4 : eSl (x06 3) x8i (x8a (z3u (eC (.int 1)))) [some (scr ns, 0), some (x09 n f, 9), some (x09 m g, 9), some (x04 n h, 9), some (x04 n dr, 9), some (.int (Int.ofNat p), 9), some (x04 n near, 9), some (x04 n near, 9), some (.bl B, 9), none, none, none, none, none, none, none, none, none] = some (.tup (x0o ((List.range (n - 1)).map h)), 9, [some (scr ns, 0), some (x09 n f, 9), some (x09 m g, 9), some (x04 n h, 9), some (x04 n dr, 9), some (.int (Int.ofNat p), 9), some (x04 n near, 9), some (x04 n near, 9), some (.bl B, 9), none, none, none, none, none, none, none, none, none]) := by
      rw [<- z00 hlo]
      rfl
    have k1 : x5p (x01 (x06 3) (x0e)) [some (scr ns, 0), some (x09 n f, 9), some (x09 m g, 9), some (x04 n h, 9), some (x04 n dr, 9), some (.int (Int.ofNat p), 9), some (x04 n near, 9), some (x04 n near, 9), some (.bl B, 9), none, none, none, none, none, none, none, none, none] = some (.lst (x0o ((List.range n).map h)), 1, [some (scr ns, 0), some (x09 n f, 9), some (x09 m g, 9), some (x04 n h, 9), some (x04 n dr, 9), some (.int (Int.ofNat p), 9), some (x04 n near, 9), some (x04 n near, 9), some (.bl B, 9), none, none, none, none, none, none, none, none, none]) := rfl
    have k2 : y6m (x06 3) (x88 (x01 (eC (.int 0)) (x0e))) [some (scr ns, 0), some (x09 n f, 9), some (x09 m g, 9), some (x04 n h, 9), some (x04 n dr, 9), some (.int (Int.ofNat p), 9), some (x04 n near, 9), some (x04 n near, 9), some (.bl B, 9), none, none, none, none, none, none, none, none, none] = some (.tup (x0o ((List.range n).map h) ++ [.int 0]), 9, [some (scr ns, 0), some (x09 n f, 9), some (x09 m g, 9), some (x04 n h, 9), some (x04 n dr, 9), some (.int (Int.ofNat p), 9), some (x04 n near, 9), some (x04 n near, 9), some (.bl B, 9), none, none, none, none, none, none, none, none, none]) := by
      show (if _ then some (D.tup (x0o ((List.range n).map h) ++ [D.int 0]), 9, _) else none) = _
      rw [if_pos (by rw [hlen]; simp; omega)]
    have k3 : eSl (x06 3) (x8a (eC (.int 1))) x8i [some (scr ns, 0), some (x09 n f, 9), some (x09 m g, 9), some (x04 n h, 9), some (x04 n dr, 9), some (.int (Int.ofNat p), 9), some (x04 n near, 9), some (x04 n near, 9), some (.bl B, 9), none, none, none, none, none, none, none, none, none] = some (.tup (L3.z40 (x0o ((List.range n).map h)) (some 1) none), 9, [some (scr ns, 0), some (x09 n f, 9), some (x09 m g, 9), some (x04 n h, 9), some (x04 n dr, 9), some (.int (Int.ofNat p), 9), some (x04 n near, 9), some (x04 n near, 9), some (.bl B, 9), none, none, none, none, none, none, none, none, none]) := rfl
    have k5 : y6m (eSl (x06 3) x8i (x8a (z3u (eC (.int 1))))) (x88 (x01 (x0z 2) (x0e))) [some (scr ns, 0), some (x09 n f, 9), some (x09 m g, 9), some (x04 n h, 9), some (x04 n dr, 9), some (.int (Int.ofNat p), 9), some (x04 n near, 9), some (x04 n near, 9), some (.bl B, 9), none, none, none, none, none, none, none, none, none] = some (.tup (x0o ((List.range (n - 1)).map h) ++ [.int (Int.ofNat m)]), 9, [some (scr ns, 0), some (x09 n f, 9), some (x09 m g, 9), some (x04 n h, 9), some (x04 n dr, 9), some (.int (Int.ofNat p), 9), some (x04 n near, 9), some (x04 n near, 9), some (.bl B, 9), none, none, none, none, none, none, none, none, none]) := by
      have ht : x88 (x01 (x0z 2) x0e) [some (scr ns, 0), some (x09 n f, 9), some (x09 m g, 9), some (x04 n h, 9), some (x04 n dr, 9), some (.int (Int.ofNat p), 9), some (x04 n near, 9), some (x04 n near, 9), some (.bl B, 9), none, none, none, none, none, none, none, none, none] = some (.tup [.int (Int.ofNat m)], 9, [some (scr ns, 0), some (x09 n f, 9), some (x09 m g, 9), some (x04 n h, 9), some (x04 n dr, 9), some (.int (Int.ofNat p), 9), some (x04 n near, 9), some (x04 n near, 9), some (.bl B, 9), none, none, none, none, none, none, none, none, none]) := y5o (x1d (x6x rfl x18)) (show 1 <= 1000 by decide)
      unfold y6m
      simp only [g4, ht]
      rw [if_pos (by rw [lm]; simp; omega)]
    refine x1s (ρ1 := [some (scr ns, 0), some (x09 n f, 9), some (x09 m g, 9), some (x04 n h, 9), some (x04 n dr, 9), some (.int (Int.ofNat p), 9), some (x04 n near, 9), some (x04 n near, 9), some (.bl B, 9), none, none, none, none, none, none, none, none, none]) ?_ rfl
    have hl := x1a k1 (x1a k2 (x1a k3 (x1a (f := eC .non) (q := 9) rfl (x1d k5))))
    have hp' : x0n x0g 3 (x01 (x06 0) (x01 (eC (.int 52)) (x01 (eC (.int 5)) (x0e)))) [some (scr ns, 0), some (x09 n f, 9), some (x09 m g, 9), some (x04 n h, 9), some (x04 n dr, 9), some (.int (Int.ofNat p), 9), some (x04 n near, 9), some (x04 n near, 9), some (.bl B, 9), none, none, none, none, none, none, none, none, none] = some (.int (Int.ofNat x), 9, [some (scr ns, 0), some (x09 n f, 9), some (x09 m g, 9), some (x04 n h, 9), some (x04 n dr, 9), some (.int (Int.ofNat p), 9), some (x04 n near, 9), some (x04 n near, 9), some (.bl B, 9), none, none, none, none, none, none, none, none, none]) := x0u (ds := [scr ns, .int 52, .int 5]) rfl rfl ex
    unfold eIx x7a
    rw [hl]
    subst hbad
    have ed' : atD (.lst [.lst (x0o ((List.range n).map h)), .tup (x0o ((List.range n).map h) ++ [.int 0]), .tup (L3.z40 (x0o ((List.range n).map h)) (some 1) none), .non, .tup (x0o ((List.range (n - 1)).map h) ++ [.int (Int.ofNat m)])]) (Int.ofNat x) = some d := ed
    simp only [List.length_cons, List.length_nil]
    rw [if_pos (by decide)]
    simp only [hp', ed']
  refine (x0j (ρ1 := [some (scr ns, 0), some (x09 n f, 9), some (x09 m g, 9), some (x04 n h, 9), some (x04 n dr, 9), some (.int (Int.ofNat p), 9), some (x04 n near, 9), some (x04 n near, 9), some (.bl B, 9), some (d, x2e d), none, none, none, none, none, none, none, none]) ?_).trans ?_
  · have v9 : x06 9 [some (scr ns, 0), some (x09 n f, 9), some (x09 m g, 9), some (x04 n h, 9), some (x04 n dr, 9), some (.int (Int.ofNat p), 9), some (x04 n near, 9), some (x04 n near, 9), some (.bl B, 9), some (d, x2e d), none, none, none, none, none, none, none, none] = some (d, x2e d, [some (scr ns, 0), some (x09 n f, 9), some (x09 m g, 9), some (x04 n h, 9), some (x04 n dr, 9), some (.int (Int.ofNat p), 9), some (x04 n near, 9), some (x04 n near, 9), some (.bl B, 9), some (d, x2e d), none, none, none, none, none, none, none, none]) := x6y rfl
    have w1 : x06 1 [some (scr ns, 0), some (x09 n f, 9), some (x09 m g, 9), some (x04 n h, 9), some (x04 n dr, 9), some (.int (Int.ofNat p), 9), some (x04 n near, 9), some (x04 n near, 9), some (.bl B, 9), some (d, x2e d), none, none, none, none, none, none, none, none] = some (x09 n f, 9, [some (scr ns, 0), some (x09 n f, 9), some (x09 m g, 9), some (x04 n h, 9), some (x04 n dr, 9), some (.int (Int.ofNat p), 9), some (x04 n near, 9), some (x04 n near, 9), some (.bl B, 9), some (d, x2e d), none, none, none, none, none, none, none, none]) := rfl
    have w2 : x06 2 [some (scr ns, 0), some (x09 n f, 9), some (x09 m g, 9), some (x04 n h, 9), some (x04 n dr, 9), some (.int (Int.ofNat p), 9), some (x04 n near, 9), some (x04 n near, 9), some (.bl B, 9), some (d, x2e d), none, none, none, none, none, none, none, none] = some (x09 m g, 9, [some (scr ns, 0), some (x09 n f, 9), some (x09 m g, 9), some (x04 n h, 9), some (x04 n dr, 9), some (.int (Int.ofNat p), 9), some (x04 n near, 9), some (x04 n near, 9), some (.bl B, 9), some (d, x2e d), none, none, none, none, none, none, none, none]) := rfl
    have c := x0u (n := 3) (x1a w1 (x1a w2 (x1d v9))) rfl is3
    exact (y0m (x4l (x6q c (rfl : eC (.bl false) _ = some (.bl false, 9, _)) (rfl : x5w (.bl false) (.bl false) = some (.bl false))))).trans rfl
  generalize (some (x04 n dr, 9) : Option (D × Nat)) = c4
  generalize (some (.int (Int.ofNat p), 9) : Option (D × Nat)) = c5
  generalize (some (x04 n near, 9) : Option (D × Nat)) = c6
  generalize (some (.bl B, 9) : Option (D × Nat)) = c8
  generalize (some (d, x2e d) : Option (D × Nat)) = c9
  refine (x0j (ρ1 := [some (scr ns, 0), some (x09 n f, 9), some (x09 m g, 9), some (x04 n h, 9), c4, c5, c6, c6, c8, c9, some (x04 m (bk n f z g h), 9), none, none, none, none, none, none, none]) (x1s (x0u (ds := [x09 n f, x09 m g, x04 n h]) rfl rfl (x96 L hz bz M hz' bz' P)) rfl)).trans ?_
  have loop : ∃ x11 x12 x13 x14, x5g (x0q (x01 (x0z 1) (x0e))) (x0h 11) z0t [some (scr ns, 0), some (x09 n f, 9), some (x09 m g, 9), some (x04 n h, 9), c4, c5, c6, c6, c8, c9, some (x04 m (bk n f z g h), 9), none, none, none, none, none, none, none] = some (.nx [some (scr ns, 0), some (x09 n f, 9), some (x09 m g, 9), some (x04 n h, 9), c4, c5, c6, c6, c8, c9, some (x04 m (bk n f z g h), 9), x11, x12, x13, x14, none, none, none]) := by
    rw [x1y (x2a hn rfl x18)]
    obtain ⟨ρ', e, x11, x12, x13, x14, rfl⟩ := x4g (pt := x0h 11) (body := z0t) (x0v n) (fun _ ρ => ∃ x11 x12 x13 x14, ρ = [some (scr ns, 0), some (x09 n f, 9), some (x09 m g, 9), some (x04 n h, 9), c4, c5, c6, c6, c8, c9, some (x04 m (bk n f z g h), 9), x11, x12, x13, x14, none, none, none]) [some (scr ns, 0), some (x09 n f, 9), some (x09 m g, 9), some (x04 n h, 9), c4, c5, c6, c6, c8, c9, some (x04 m (bk n f z g h), 9), none, none, none, none, none, none, none] (fun i hi ρ hh => by
      obtain ⟨x11, x12, x13, x14, rfl⟩ := hh
      have hin : i < n := by rw [x0d] at hi; exact hi
      obtain ⟨ρ2, e2, y12, y13, y14, rfl⟩ := x4g (pt := x0h 12) (body := z0p) (x0v m) (fun _ ρ => ∃ x12 x13 x14, ρ = [some (scr ns, 0), some (x09 n f, 9), some (x09 m g, 9), some (x04 n h, 9), c4, c5, c6, c6, c8, c9, some (x04 m (bk n f z g h), 9), some (.int (Int.ofNat i), 9), x12, x13, x14, none, none, none]) [some (scr ns, 0), some (x09 n f, 9), some (x09 m g, 9), some (x04 n h, 9), c4, c5, c6, c6, c8, c9, some (x04 m (bk n f z g h), 9), some (.int (Int.ofNat i), 9), x12, x13, x14, none, none, none] (fun w hw ρ hh => by
        obtain ⟨x12, x13, x14, rfl⟩ := hh
        have hwm : w < m := by rw [x0d] at hw; exact hw
        have hbl : bk n f z g h w < n := y4w L hz bz
        have iff := y4e L hz bz M P hin hwm
        have a1 := x2o (r := bk n f z g h) hwm
        have a2 := x2o (r := h) hin
        have a3 := x1o (f := g) (P.lt i hin)
        have a4 := x20 (f := g) (i := h i) hwm
        have a5 := x1o (f := f) hin
        have a6 := x20 (f := f) (i := i) hbl
        refine ⟨[some (scr ns, 0), some (x09 n f, 9), some (x09 m g, 9), some (x04 n h, 9), c4, c5, c6, c6, c8, c9, some (x04 m (bk n f z g h), 9), some (.int (Int.ofNat i), 9), some (.int (Int.ofNat w), 9), x13, x14, none, none, none], [some (scr ns, 0), some (x09 n f, 9), some (x09 m g, 9), some (x04 n h, 9), c4, c5, c6, c6, c8, c9, some (x04 m (bk n f z g h), 9), some (.int (Int.ofNat i), 9), some (.int (Int.ofNat w), 9), some (.int (Int.ofNat (bk n f z g h w)), 9), some (.bl (decide (g (h i) w = w)), 9), none, none, none], by rw [x3b]; rfl, .inl ?_, _, _, _, rfl⟩
        unfold z0p
        refine (x0j (ρ1 := [some (scr ns, 0), some (x09 n f, 9), some (x09 m g, 9), some (x04 n h, 9), c4, c5, c6, c6, c8, c9, some (x04 m (bk n f z g h), 9), some (.int (Int.ofNat i), 9), some (.int (Int.ofNat w), 9), some (.int (Int.ofNat (bk n f z g h w)), 9), x14, none, none, none]) (x1s (x7m (i := 10) (b := x06 12) (q' := 9) rfl rfl a1 rfl) rfl)).trans ?_
        refine (x0j (ρ1 := [some (scr ns, 0), some (x09 n f, 9), some (x09 m g, 9), some (x04 n h, 9), c4, c5, c6, c6, c8, c9, some (x04 m (bk n f z g h), 9), some (.int (Int.ofNat i), 9), some (.int (Int.ofNat w), 9), some (.int (Int.ofNat (bk n f z g h w)), 9), some (.bl (decide (g (h i) w = w)), 9), none, none, none]) (x1s (x6q (z0a (x7m (i := 2) (x7m (i := 3) (b := x06 11) (q' := 9) rfl rfl a2 rfl) rfl a3 rfl) (b := x06 12) (q' := 9) rfl a4 rfl rfl) (fb := x06 12) (q' := 9) rfl (x5r _ _)) rfl)).trans ?_
        have c := x4l (x6q (fa := x06 14) (q := 9) (ρ := [some (scr ns, 0), some (x09 n f, 9), some (x09 m g, 9), some (x04 n h, 9), c4, c5, c6, c6, c8, c9, some (x04 m (bk n f z g h), 9), some (.int (Int.ofNat i), 9), some (.int (Int.ofNat w), 9), some (.int (Int.ofNat (bk n f z g h w)), 9), some (.bl (decide (g (h i) w = w)), 9), none, none, none]) rfl (x6q (z0a (x7m (i := 1) (b := x06 11) (q' := 9) rfl rfl a5 rfl) (b := x06 13) (q' := 9) rfl a6 rfl rfl) (fb := x06 13) (q' := 9) rfl (x5r _ _)) (y7e _ _))
        rw [show decide (f i (bk n f z g h w) = bk n f z g h w) = decide (g (h i) w = w) from by rw [Bool.eq_iff_iff, decide_eq_true_eq, decide_eq_true_eq]; exact iff.symm, decide_eq_true rfl] at c
        exact (y0m c).trans rfl) ⟨x12, x13, x14, rfl⟩
      exact ⟨[some (scr ns, 0), some (x09 n f, 9), some (x09 m g, 9), some (x04 n h, 9), c4, c5, c6, c6, c8, c9, some (x04 m (bk n f z g h), 9), some (.int (Int.ofNat i), 9), x12, x13, x14, none, none, none], _, by rw [x3b]; rfl, .inl ((x1y (x2a hm rfl x18)).trans e2), _, _, _, _, rfl⟩) ⟨none, none, none, none, rfl⟩
    exact ⟨x11, x12, x13, x14, e⟩
  obtain ⟨x11, x12, x13, x14, hloop⟩ := loop
  refine (x0j hloop).trans ?_
  refine (x0j (ρ1 := [some (scr ns, 0), some (x09 n f, 9), some (x09 m g, 9), some (x04 n h, 9), c4, c5, c6, c6, c8, c9, some (x04 m (bk n f z g h), 9), x11, x12, x13, x14, some (x09 k u, 9), some (x04 m h', 9), none]) (z58 (x0u (ds := [scr ns, .int 60, x09 m g]) rfl rfl eK) rfl (show 15 < 18 by decide) (show 16 < 18 by decide))).trans ?_
  refine (x0j (ρ1 := [some (scr ns, 0), some (x09 n f, 9), some (x09 m g, 9), some (x04 n h, 9), c4, c5, c6, c6, c8, c9, some (x04 m (bk n f z g h), 9), x11, x12, x13, x14, some (x09 k u, 9), some (x04 m h', 9), some (x04 n (fun i => h' (h i)), 9)]) (x1s (x0u (ds := [x04 n h, x04 m h']) rfl rfl (x7n hn P.lt)) rfl)).trans ?_
  refine (x0j (ρ1 := [some (scr ns, 0), some (x09 n f, 9), some (x09 m g, 9), some (x04 n h, 9), c4, c5, c6, c6, c8, c9, some (x04 m (bk n f z g h), 9), x11, x12, x13, x14, some (x09 k u, 9), some (x04 m h', 9), some (x04 n (fun i => h' (h i)), 9)]) ((y0m (x4l (x6q (x0u (ds := [x09 n f, x09 k u, x04 n fun i => h' (h i)]) rfl rfl im2) (rfl : eC (.bl true) _ = some (.bl true, 9, _)) (rfl : x5w (.bl true) (.bl true) = some (.bl false))))).trans rfl)).trans ?_
  have q : ∀ w, w < k -> bk n f z u (fun i => h' (h i)) w = bk n f z g h (bk m g z' u h' w) := fun w hw => by
    have e1 : bk n f z u (fun i => h' (h i)) w < n := y4w L hz bz
    have e2 : bk m g z' u h' w < m := y4w M hz' bz'
    have e3 : bk n f z g h (bk m g z' u h' w) < n := y4w L hz bz
    have all : ∀ x, x < n -> (f x (bk n f z u (fun i => h' (h i)) w) = bk n f z u (fun i => h' (h i)) w ↔ f x (bk n f z g h (bk m g z' u h' w)) = bk n f z g h (bk m g z' u h' w)) := fun x hx =>
      (y4e L hz bz K PB hx hw).symm.trans ((y4e M hz' bz' K P' (P.lt x hx) hw).trans (y4e L hz bz M P hx e2))
    exact L.le_anti e1 e3 ((all _ e1).mp (L.idem _ e1)) ((all _ e3).mpr (L.idem _ e3))
  have b2 := y00 M hz' bz' K hy by' P'
  have b3 := x7n (r := bk m g z' u h') (s := bk n f z g h) hk (fun w _ => y4w M hz' bz')
  exact x2s (x6q (x0u (ds := [x09 n f, x09 k u, x04 n fun i => h' (h i)]) rfl rfl (x96 L hz bz K hy by' PB)) (x0u (x1a (x0u (ds := [x09 m g, x09 k u, x04 m h']) rfl rfl b2) (x1d (f := x06 10) (q := 9) rfl)) rfl b3) (y82 q))
theorem all_mk {l : PySem.W.OpenLaw} {w : World} {K : PySem.W.Frag} {h : Heap} {mg : Str -> Option Value} {fa : Addr} {f1 : Addr} {od1 an1 : Option Addr} {sl1 : Array (Option Value)} {oc1 kV1 dc1 pm1 cd1 ct1 : Value} {f2 : Addr} {od2 an2 : Option Addr} {sl2 : Array (Option Value)} {oc2 kV2 dc2 pm2 cd2 ct2 : Value} {f3 : Addr} {od3 an3 : Option Addr} {sl3 : Array (Option Value)} {oc3 kV3 dc3 pm3 cd3 ct3 : Value} {f4 : Addr} {od4 an4 : Option Addr} {sl4 : Array (Option Value)} {oc4 kV4 dc4 pm4 cd4 ct4 : Value} {f5 : Addr} {od5 an5 : Option Addr} {sl5 : Array (Option Value)} {oc5 kV5 dc5 pm5 cd5 ct5 : Value} {f6 : Addr} {od6 an6 : Option Addr} {sl6 : Array (Option Value)} {oc6 kV6 dc6 pm6 cd6 ct6 : Value} {f7 : Addr} {od7 an7 : Option Addr} {sl7 : Array (Option Value)} {oc7 kV7 dc7 pm7 cd7 ct7 : Value} {f8 : Addr} {od8 an8 : Option Addr} {sl8 : Array (Option Value)} {oc8 kV8 dc8 pm8 cd8 ct8 : Value} {f9 : Addr} {od9 an9 : Option Addr} {sl9 : Array (Option Value)} {oc9 kV9 dc9 pm9 cd9 ct9 : Value} {f10 : Addr} {od10 an10 : Option Addr} {sl10 : Array (Option Value)} {oc10 kV10 dc10 pm10 cd10 ct10 : Value} {f11 : Addr} {od11 an11 : Option Addr} {sl11 : Array (Option Value)} {oc11 kV11 dc11 pm11 cd11 ct11 : Value} {f12 : Addr} {od12 an12 : Option Addr} {sl12 : Array (Option Value)} {oc12 kV12 dc12 pm12 cd12 ct12 : Value} {f13 : Addr} {od13 an13 : Option Addr} {sl13 : Array (Option Value)} {oc13 kV13 dc13 pm13 cd13 ct13 : Value} {f14 : Addr} {od14 an14 : Option Addr} {sl14 : Array (Option Value)} {oc14 kV14 dc14 pm14 cd14 ct14 : Value} {f15 : Addr} {od15 an15 : Option Addr} {sl15 : Array (Option Value)} {oc15 kV15 dc15 pm15 cd15 ct15 : Value} {f16 : Addr} {od16 an16 : Option Addr} {sl16 : Array (Option Value)} {oc16 kV16 dc16 pm16 cd16 ct16 : Value} {f17 : Addr} {od17 an17 : Option Addr} {sl17 : Array (Option Value)} {oc17 kV17 dc17 pm17 cd17 ct17 : Value} {f18 : Addr} {od18 an18 : Option Addr} {sl18 : Array (Option Value)} {oc18 kV18 dc18 pm18 cd18 ct18 : Value} {f19 : Addr} {od19 an19 : Option Addr} {sl19 : Array (Option Value)} {oc19 kV19 dc19 pm19 cd19 ct19 : Value} {f20 : Addr} {od20 an20 : Option Addr} {sl20 : Array (Option Value)} {oc20 kV20 dc20 pm20 cd20 ct20 : Value} {f21 : Addr} {od21 an21 : Option Addr} {sl21 : Array (Option Value)} {oc21 kV21 dc21 pm21 cd21 ct21 : Value} {f22 : Addr} {od22 an22 : Option Addr} {sl22 : Array (Option Value)} {oc22 kV22 dc22 pm22 cd22 ct22 : Value} {f23 : Addr} {od23 an23 : Option Addr} {sl23 : Array (Option Value)} {oc23 kV23 dc23 pm23 cd23 ct23 : Value} {f24 : Addr} {od24 an24 : Option Addr} {sl24 : Array (Option Value)} {oc24 kV24 dc24 pm24 cd24 ct24 : Value} {f25 : Addr} {od25 an25 : Option Addr} {sl25 : Array (Option Value)} {oc25 kV25 dc25 pm25 cd25 ct25 : Value} {f26 : Addr} {od26 an26 : Option Addr} {sl26 : Array (Option Value)} {oc26 kV26 dc26 pm26 cd26 ct26 : Value} {f27 : Addr} {od27 an27 : Option Addr} {sl27 : Array (Option Value)} {oc27 kV27 dc27 pm27 cd27 ct27 : Value} {f28 : Addr} {od28 an28 : Option Addr} {sl28 : Array (Option Value)} {oc28 kV28 dc28 pm28 cd28 ct28 : Value} {f29 : Addr} {od29 an29 : Option Addr} {sl29 : Array (Option Value)} {oc29 kV29 dc29 pm29 cd29 ct29 : Value} {f30 : Addr} {od30 an30 : Option Addr} {sl30 : Array (Option Value)} {oc30 kV30 dc30 pm30 cd30 ct30 : Value} {f31 : Addr} {od31 an31 : Option Addr} {sl31 : Array (Option Value)} {oc31 kV31 dc31 pm31 cd31 ct31 : Value} {f32 : Addr} {od32 an32 : Option Addr} {sl32 : Array (Option Value)} {oc32 kV32 dc32 pm32 cd32 ct32 : Value} {f33 : Addr} {od33 an33 : Option Addr} {sl33 : Array (Option Value)} {oc33 kV33 dc33 pm33 cd33 ct33 : Value} {f34 : Addr} {od34 an34 : Option Addr} {sl34 : Array (Option Value)} {oc34 kV34 dc34 pm34 cd34 ct34 : Value} {xe xr y0 y1 y2 y3 y4 : Addr} (X : K.In h) (G : h.Ns mainGlobals mg) (hfa : mg "law" = some (.ref fa))
    (a1 : PySem.W.nsIn K mainGlobals "_law_cell" = some (some (.ref f1))) (l1 : K.lookup f1 = some ⟨oc1, od1, .func (PySem.W.fnOf "_law_cell" "_law_cell" (x15 (top 33)) (x0s (top 33)) (x08 (top 33)) .none kV1 dc1 pm1 an1 cd1 ct1), sl1⟩) (c1 : PySem.W.codeIn K cd1 "_law_cell" = true) (k1 : PySem.W.keepIn K (.ref f1) = true)
    (a2 : PySem.W.nsIn K mainGlobals "_law_pick" = some (some (.ref f2))) (l2 : K.lookup f2 = some ⟨oc2, od2, .func (PySem.W.fnOf "_law_pick" "_law_pick" (x15 (top 34)) (x0s (top 34)) (x08 (top 34)) .none kV2 dc2 pm2 an2 cd2 ct2), sl2⟩) (c2 : PySem.W.codeIn K cd2 "_law_pick" = true) (k2 : PySem.W.keepIn K (.ref f2) = true)
    (a3 : PySem.W.nsIn K mainGlobals "_law_chain" = some (some (.ref f3))) (l3 : K.lookup f3 = some ⟨oc3, od3, .func (PySem.W.fnOf "_law_chain" "_law_chain" (x15 (top 35)) (x0s (top 35)) (x08 (top 35)) .none kV3 dc3 pm3 an3 cd3 ct3), sl3⟩) (c3 : PySem.W.codeIn K cd3 "_law_chain" = true) (k3 : PySem.W.keepIn K (.ref f3) = true)
    (a4 : PySem.W.nsIn K mainGlobals "_law_couples" = some (some (.ref f4))) (l4 : K.lookup f4 = some ⟨oc4, od4, .func (PySem.W.fnOf "_law_couples" "_law_couples" (x15 (top 36)) (x0s (top 36)) (x08 (top 36)) .none kV4 dc4 pm4 an4 cd4 ct4), sl4⟩) (c4 : PySem.W.codeIn K cd4 "_law_couples" = true) (k4 : PySem.W.keepIn K (.ref f4) = true)
    (a5 : PySem.W.nsIn K mainGlobals "_law_side_by_side" = some (some (.ref f5))) (l5 : K.lookup f5 = some ⟨oc5, od5, .func (PySem.W.fnOf "_law_side_by_side" "_law_side_by_side" (x15 (top 37)) (x0s (top 37)) (x08 (top 37)) .none kV5 dc5 pm5 an5 cd5 ct5), sl5⟩) (c5 : PySem.W.codeIn K cd5 "_law_side_by_side" = true) (k5 : PySem.W.keepIn K (.ref f5) = true)
    (a6 : PySem.W.nsIn K mainGlobals "_law_base" = some (some (.ref f6))) (l6 : K.lookup f6 = some ⟨oc6, od6, .func (PySem.W.fnOf "_law_base" "_law_base" (x15 (top 38)) (x0s (top 38)) (x08 (top 38)) .none kV6 dc6 pm6 an6 cd6 ct6), sl6⟩) (c6 : PySem.W.codeIn K cd6 "_law_base" = true) (k6 : PySem.W.keepIn K (.ref f6) = true)
    (a7 : PySem.W.nsIn K mainGlobals "_law_ladder" = some (some (.ref f7))) (l7 : K.lookup f7 = some ⟨oc7, od7, .func (PySem.W.fnOf "_law_ladder" "_law_ladder" (x15 (top 39)) (x0s (top 39)) (x08 (top 39)) .none kV7 dc7 pm7 an7 cd7 ct7), sl7⟩) (c7 : PySem.W.codeIn K cd7 "_law_ladder" = true) (k7 : PySem.W.keepIn K (.ref f7) = true)
    (a8 : PySem.W.nsIn K mainGlobals "_law_under" = some (some (.ref f8))) (l8 : K.lookup f8 = some ⟨oc8, od8, .func (PySem.W.fnOf "_law_under" "_law_under" (x15 (top 42)) (x0s (top 42)) (x08 (top 42)) .none kV8 dc8 pm8 an8 cd8 ct8), sl8⟩) (c8 : PySem.W.codeIn K cd8 "_law_under" = true) (k8 : PySem.W.keepIn K (.ref f8) = true)
    (a9 : PySem.W.nsIn K mainGlobals "_law_over" = some (some (.ref f9))) (l9 : K.lookup f9 = some ⟨oc9, od9, .func (PySem.W.fnOf "_law_over" "_law_over" (x15 (top 43)) (x0s (top 43)) (x08 (top 43)) .none kV9 dc9 pm9 an9 cd9 ct9), sl9⟩) (c9 : PySem.W.codeIn K cd9 "_law_over" = true) (k9 : PySem.W.keepIn K (.ref f9) = true)
    (a10 : PySem.W.nsIn K mainGlobals "_law_map" = some (some (.ref f10))) (l10 : K.lookup f10 = some ⟨oc10, od10, .func (PySem.W.fnOf "_law_map" "_law_map" (x15 (top 44)) (x0s (top 44)) (x08 (top 44)) .none kV10 dc10 pm10 an10 cd10 ct10), sl10⟩) (c10 : PySem.W.codeIn K cd10 "_law_map" = true) (k10 : PySem.W.keepIn K (.ref f10) = true)
    (a11 : PySem.W.nsIn K mainGlobals "_law_word" = some (some (.ref f11))) (l11 : K.lookup f11 = some ⟨oc11, od11, .func (PySem.W.fnOf "_law_word" "_law_word" (x15 (top 45)) (x0s (top 45)) (x08 (top 45)) .none kV11 dc11 pm11 an11 cd11 ct11), sl11⟩) (c11 : PySem.W.codeIn K cd11 "_law_word" = true) (k11 : PySem.W.keepIn K (.ref f11) = true)
    (a12 : PySem.W.nsIn K mainGlobals "is_whole" = some (some (.ref f12))) (l12 : K.lookup f12 = some ⟨oc12, od12, .func (PySem.W.fnOf "is_whole" "is_whole" (x15 (top 9)) (x0s (top 9)) (x08 (top 9)) .none kV12 dc12 pm12 an12 cd12 ct12), sl12⟩) (c12 : PySem.W.codeIn K cd12 "is_whole" = true) (k12 : PySem.W.keepIn K (.ref f12) = true)
    (a13 : PySem.W.nsIn K mainGlobals "is_number_of" = some (some (.ref f13))) (l13 : K.lookup f13 = some ⟨oc13, od13, .func (PySem.W.fnOf "is_number_of" "is_number_of" (x15 (top 10)) (x0s (top 10)) (x08 (top 10)) .none kV13 dc13 pm13 an13 cd13 ct13), sl13⟩) (c13 : PySem.W.codeIn K cd13 "is_number_of" = true) (k13 : PySem.W.keepIn K (.ref f13) = true)
    (a14 : PySem.W.nsIn K mainGlobals "is_row_of" = some (some (.ref f14))) (l14 : K.lookup f14 = some ⟨oc14, od14, .func (PySem.W.fnOf "is_row_of" "is_row_of" (x15 (top 11)) (x0s (top 11)) (x08 (top 11)) .none kV14 dc14 pm14 an14 cd14 ct14), sl14⟩) (c14 : PySem.W.codeIn K cd14 "is_row_of" = true) (k14 : PySem.W.keepIn K (.ref f14) = true)
    (a15 : PySem.W.nsIn K mainGlobals "leads_joins_to_joins" = some (some (.ref f15))) (l15 : K.lookup f15 = some ⟨oc15, od15, .func (PySem.W.fnOf "leads_joins_to_joins" "leads_joins_to_joins" (x15 (top 24)) (x0s (top 24)) (x08 (top 24)) .none kV15 dc15 pm15 an15 cd15 ct15), sl15⟩) (c15 : PySem.W.codeIn K cd15 "leads_joins_to_joins" = true) (k15 : PySem.W.keepIn K (.ref f15) = true)
    (a16 : PySem.W.nsIn K mainGlobals "row_of_least" = some (some (.ref f16))) (l16 : K.lookup f16 = some ⟨oc16, od16, .func (PySem.W.fnOf "row_of_least" "row_of_least" (x15 (top 18)) (x0s (top 18)) (x08 (top 18)) .none kV16 dc16 pm16 an16 cd16 ct16), sl16⟩) (c16 : PySem.W.codeIn K cd16 "row_of_least" = true) (k16 : PySem.W.keepIn K (.ref f16) = true)
    (a17 : PySem.W.nsIn K mainGlobals "least_of" = some (some (.ref f17))) (l17 : K.lookup f17 = some ⟨oc17, od17, .func (PySem.W.fnOf "least_of" "least_of" (x15 (top 20)) (x0s (top 20)) (x08 (top 20)) .none kV17 dc17 pm17 an17 cd17 ct17), sl17⟩) (c17 : PySem.W.codeIn K cd17 "least_of" = true) (k17 : PySem.W.keepIn K (.ref f17) = true)
    (a18 : PySem.W.nsIn K mainGlobals "is_map" = some (some (.ref f18))) (l18 : K.lookup f18 = some ⟨oc18, od18, .func (PySem.W.fnOf "is_map" "is_map" (x15 (top 28)) (x0s (top 28)) (x08 (top 28)) .none kV18 dc18 pm18 an18 cd18 ct18), sl18⟩) (c18 : PySem.W.codeIn K cd18 "is_map" = true) (k18 : PySem.W.keepIn K (.ref f18) = true)
    (a19 : PySem.W.nsIn K mainGlobals "refuse_no_map" = some (some (.ref f19))) (l19 : K.lookup f19 = some ⟨oc19, od19, .func (PySem.W.fnOf "refuse_no_map" "refuse_no_map" (x15 (top 29)) (x0s (top 29)) (x08 (top 29)) .none kV19 dc19 pm19 an19 cd19 ct19), sl19⟩) (c19 : PySem.W.codeIn K cd19 "refuse_no_map" = true) (k19 : PySem.W.keepIn K (.ref f19) = true)
    (a20 : PySem.W.nsIn K mainGlobals "joined_all" = some (some (.ref f20))) (l20 : K.lookup f20 = some ⟨oc20, od20, .func (PySem.W.fnOf "joined_all" "joined_all" (x15 (top 22)) (x0s (top 22)) (x08 (top 22)) .none kV20 dc20 pm20 an20 cd20 ct20), sl20⟩) (c20 : PySem.W.codeIn K cd20 "joined_all" = true) (k20 : PySem.W.keepIn K (.ref f20) = true)
    (a21 : PySem.W.nsIn K mainGlobals "is_below" = some (some (.ref f21))) (l21 : K.lookup f21 = some ⟨oc21, od21, .func (PySem.W.fnOf "is_below" "is_below" (x15 (top 21)) (x0s (top 21)) (x08 (top 21)) .none kV21 dc21 pm21 an21 cd21 ct21), sl21⟩) (c21 : PySem.W.codeIn K cd21 "is_below" = true) (k21 : PySem.W.keepIn K (.ref f21) = true)
    (a22 : PySem.W.nsIn K mainGlobals "led_below" = some (some (.ref f22))) (l22 : K.lookup f22 = some ⟨oc22, od22, .func (PySem.W.fnOf "led_below" "led_below" (x15 (top 25)) (x0s (top 25)) (x08 (top 25)) .none kV22 dc22 pm22 an22 cd22 ct22), sl22⟩) (c22 : PySem.W.codeIn K cd22 "led_below" = true) (k22 : PySem.W.keepIn K (.ref f22) = true)
    (a23 : PySem.W.nsIn K mainGlobals "back_of" = some (some (.ref f23))) (l23 : K.lookup f23 = some ⟨oc23, od23, .func (PySem.W.fnOf "back_of" "back_of" (x15 (top 30)) (x0s (top 30)) (x08 (top 30)) .none kV23 dc23 pm23 an23 cd23 ct23), sl23⟩) (c23 : PySem.W.codeIn K cd23 "back_of" = true) (k23 : PySem.W.keepIn K (.ref f23) = true)
    (a24 : PySem.W.nsIn K mainGlobals "_law_back" = some (some (.ref f24))) (l24 : K.lookup f24 = some ⟨oc24, od24, .func (PySem.W.fnOf "_law_back" "_law_back" (x15 (top 47)) (x0s (top 47)) (x08 (top 47)) .none kV24 dc24 pm24 an24 cd24 ct24), sl24⟩) (c24 : PySem.W.codeIn K cd24 "_law_back" = true) (k24 : PySem.W.keepIn K (.ref f24) = true)
    (a25 : PySem.W.nsIn K mainGlobals "after" = some (some (.ref f25))) (l25 : K.lookup f25 = some ⟨oc25, od25, .func (PySem.W.fnOf "after" "after" (x15 (top 26)) (x0s (top 26)) (x08 (top 26)) .none kV25 dc25 pm25 an25 cd25 ct25), sl25⟩) (c25 : PySem.W.codeIn K cd25 "after" = true) (k25 : PySem.W.keepIn K (.ref f25) = true)
    (a26 : PySem.W.nsIn K mainGlobals "after_map" = some (some (.ref f26))) (l26 : K.lookup f26 = some ⟨oc26, od26, .func (PySem.W.fnOf "after_map" "after_map" (x15 (top 31)) (x0s (top 31)) (x08 (top 31)) .none kV26 dc26 pm26 an26 cd26 ct26), sl26⟩) (c26 : PySem.W.codeIn K cd26 "after_map" = true) (k26 : PySem.W.keepIn K (.ref f26) = true)
    (a27 : PySem.W.nsIn K mainGlobals "_law_low" = some (some (.ref f27))) (l27 : K.lookup f27 = some ⟨oc27, od27, .func (PySem.W.fnOf "_law_low" "_law_low" (x15 (top 40)) (x0s (top 40)) (x08 (top 40)) .none kV27 dc27 pm27 an27 cd27 ct27), sl27⟩) (c27 : PySem.W.codeIn K cd27 "_law_low" = true) (k27 : PySem.W.keepIn K (.ref f27) = true)
    (a28 : PySem.W.nsIn K mainGlobals "_law_due" = some (some (.ref f28))) (l28 : K.lookup f28 = some ⟨oc28, od28, .func (PySem.W.fnOf "_law_due" "_law_due" (x15 (top 46)) (x0s (top 46)) (x08 (top 46)) .none kV28 dc28 pm28 an28 cd28 ct28), sl28⟩) (c28 : PySem.W.codeIn K cd28 "_law_due" = true) (k28 : PySem.W.keepIn K (.ref f28) = true)
    (a29 : PySem.W.nsIn K mainGlobals "joins_are_from_either_end" = some (some (.ref f29))) (l29 : K.lookup f29 = some ⟨oc29, od29, .func (PySem.W.fnOf "joins_are_from_either_end" "joins_are_from_either_end" (x15 (top 17)) (x0s (top 17)) (x08 (top 17)) .none kV29 dc29 pm29 an29 cd29 ct29), sl29⟩) (c29 : PySem.W.codeIn K cd29 "joins_are_from_either_end" = true) (k29 : PySem.W.keepIn K (.ref f29) = true)
    (a30 : PySem.W.nsIn K mainGlobals "has_least" = some (some (.ref f30))) (l30 : K.lookup f30 = some ⟨oc30, od30, .func (PySem.W.fnOf "has_least" "has_least" (x15 (top 19)) (x0s (top 19)) (x08 (top 19)) .none kV30 dc30 pm30 an30 cd30 ct30), sl30⟩) (c30 : PySem.W.codeIn K cd30 "has_least" = true) (k30 : PySem.W.keepIn K (.ref f30) = true)
    (a31 : PySem.W.nsIn K mainGlobals "joins_with_itself_stay" = some (some (.ref f31))) (l31 : K.lookup f31 = some ⟨oc31, od31, .func (PySem.W.fnOf "joins_with_itself_stay" "joins_with_itself_stay" (x15 (top 15)) (x0s (top 15)) (x08 (top 15)) .none kV31 dc31 pm31 an31 cd31 ct31), sl31⟩) (c31 : PySem.W.codeIn K cd31 "joins_with_itself_stay" = true) (k31 : PySem.W.keepIn K (.ref f31) = true)
    (a32 : PySem.W.nsIn K mainGlobals "joins_are_either_way" = some (some (.ref f32))) (l32 : K.lookup f32 = some ⟨oc32, od32, .func (PySem.W.fnOf "joins_are_either_way" "joins_are_either_way" (x15 (top 16)) (x0s (top 16)) (x08 (top 16)) .none kV32 dc32 pm32 an32 cd32 ct32), sl32⟩) (c32 : PySem.W.codeIn K cd32 "joins_are_either_way" = true) (k32 : PySem.W.keepIn K (.ref f32) = true)
    (a33 : PySem.W.nsIn K mainGlobals "is_ladder" = some (some (.ref f33))) (l33 : K.lookup f33 = some ⟨oc33, od33, .func (PySem.W.fnOf "is_ladder" "is_ladder" (x15 (top 14)) (x0s (top 14)) (x08 (top 14)) .none kV33 dc33 pm33 an33 cd33 ct33), sl33⟩) (c33 : PySem.W.codeIn K cd33 "is_ladder" = true) (k33 : PySem.W.keepIn K (.ref f33) = true)
    (a34 : PySem.W.nsIn K mainGlobals "law" = some (some (.ref f34))) (l34 : K.lookup f34 = some ⟨oc34, od34, .func (PySem.W.fnOf "law" "law" (x15 (top 48)) (x0s (top 48)) (x08 (top 48)) .none kV34 dc34 pm34 an34 cd34 ct34), sl34⟩) (c34 : PySem.W.codeIn K cd34 "law" = true) (k34 : PySem.W.keepIn K (.ref f34) = true)
    (z1 : PySem.W.nsIn K mainGlobals "ValueError" = some none) (z2 : PySem.W.nsIn K mainGlobals "all" = some none) (z3 : PySem.W.nsIn K mainGlobals "bool" = some none) (z4 : PySem.W.nsIn K mainGlobals "enumerate" = some none) (z5 : PySem.W.nsIn K mainGlobals "int" = some none) (z6 : PySem.W.nsIn K mainGlobals "isinstance" = some none) (z7 : PySem.W.nsIn K mainGlobals "len" = some none) (z8 : PySem.W.nsIn K mainGlobals "list" = some none) (z9 : PySem.W.nsIn K mainGlobals "max" = some none) (z10 : PySem.W.nsIn K mainGlobals "range" = some none) (z11 : PySem.W.nsIn K mainGlobals "tuple" = some none) (z12 : PySem.W.nsIn K mainGlobals "zip" = some none) {tk1 : Tok} (v1 : PySem.W.nsIn K mainGlobals "MOST_WORTHS" = some (some (.int 16 tk1))) (xeN : PySem.W.nsIn K mainGlobals "NoMap" = some (some (.ref xe))) (xrN : PySem.W.nsIn K mainGlobals "RiseError" = some (some (.ref xr))) (xcg : PySem.W.specialIn K (.builtin "object.__class__") "__get__" = some (some (.builtin "getset_descriptor.__get__"))) (xct : PySem.W.takesIn K (.builtin "object.__class__") = some true) (xeg : PySem.W.findIn K (.ref xe) "__getattribute__" = some (some (.builtin "BaseException.__getattribute__"))) (xet : PySem.W.findIn K (.ref xe) "__getattr__" = some none) (xec : PySem.W.findIn K (.ref xe) "__class__" = some (some (.builtin "object.__class__"))) (xeo : PySem.W.mroIn K xe (.type "object") = some true) (xeb : PySem.W.mroIn K xe (.type "BaseException") = some true) (xrg : PySem.W.findIn K (.ref xr) "__getattribute__" = some (some (.builtin "BaseException.__getattribute__"))) (xrt : PySem.W.findIn K (.ref xr) "__getattr__" = some none) (xrc : PySem.W.findIn K (.ref xr) "__class__" = some (some (.builtin "object.__class__"))) (xro : PySem.W.mroIn K xr (.type "object") = some true) (xrb : PySem.W.mroIn K xr (.type "BaseException") = some true) (xeV : PySem.W.mroIn K xe (.type "ValueError") = some true) (xe0 : PySem.W.mroIn K xe (.type "int") = some false) (xe1 : PySem.W.mroIn K xe (.type "bool") = some false) (xe2 : PySem.W.mroIn K xe (.type "tuple") = some false) (xe3 : PySem.W.mroIn K xe (.type "list") = some false) (xe4 : PySem.W.mroIn K xe (.type "str") = some false) (xrT : PySem.W.typeIn K (.ref xr) = some (.type "type")) (xeR : PySem.W.mroIn K xe (.ref xr) = some true) (xeX : PySem.W.excIn K xe L3.bmV "ValueError.__new__" = true) (y0N : PySem.W.nsIn K mainGlobals "NoHouse" = some (some (.ref y0))) (y0T : PySem.W.typeIn K (.ref y0) = some (.type "type")) (y0O : PySem.W.mroIn K y0 (.type "object") = some true) (y0S : PySem.W.mroIn K xe (.ref y0) = some false) (y0D : xe ≠ y0) (y1N : PySem.W.nsIn K mainGlobals "NoPlace" = some (some (.ref y1))) (y1T : PySem.W.typeIn K (.ref y1) = some (.type "type")) (y1O : PySem.W.mroIn K y1 (.type "object") = some true) (y1S : PySem.W.mroIn K xe (.ref y1) = some false) (y1D : xe ≠ y1) (y2N : PySem.W.nsIn K mainGlobals "NoRule" = some (some (.ref y2))) (y2T : PySem.W.typeIn K (.ref y2) = some (.type "type")) (y2O : PySem.W.mroIn K y2 (.type "object") = some true) (y2S : PySem.W.mroIn K xe (.ref y2) = some false) (y2D : xe ≠ y2) (y3N : PySem.W.nsIn K mainGlobals "NoStep" = some (some (.ref y3))) (y3T : PySem.W.typeIn K (.ref y3) = some (.type "type")) (y3O : PySem.W.mroIn K y3 (.type "object") = some true) (y3S : PySem.W.mroIn K xe (.ref y3) = some false) (y3D : xe ≠ y3) (y4N : PySem.W.nsIn K mainGlobals "TooGreat" = some (some (.ref y4))) (y4T : PySem.W.typeIn K (.ref y4) = some (.type "type")) (y4O : PySem.W.mroIn K y4 (.type "object") = some true) (y4S : PySem.W.mroIn K xe (.ref y4) = some false) (y4D : xe ≠ y4) :
    ∃ fd : FuncData, (∀ (s : Shared) (v : Value), BindsTo s fd ⟨[v], []⟩ [("_law_script", v)]) /\ ∀ base : Heap, K.In base -> base.Ns mainGlobals mg -> FnOk l.prog w K mg base CX0 8 fa fd ["_law_script"] (spD K 1 y4s) := by
  have e := hfa.symm.trans (PySem.W.mg_of X G a34)
  cases e
  have B : Bt mg := ⟨PySem.W.mg_none_of X G z1, PySem.W.mg_none_of X G z2, PySem.W.mg_none_of X G z3, PySem.W.mg_none_of X G z4, PySem.W.mg_none_of X G z5, PySem.W.mg_none_of X G z6, PySem.W.mg_none_of X G z7, PySem.W.mg_none_of X G z8, PySem.W.mg_none_of X G z9, PySem.W.mg_none_of X G z10, PySem.W.mg_none_of X G z11, PySem.W.mg_none_of X G z12, ⟨_, PySem.W.mg_of X G v1⟩⟩
  have xk : XKls K "NoMap" xe := XKls.of xeN ⟨L3.z7w xeo, xeg, xet, xec, xcg, xct, xeo, xeb⟩ xeX xeV xe0 xe1 xe2 xe3 xe4
  have T : Xt K mg := ⟨y5a.of xk ⟨L3.z7w xro, xrg, xrt, xrc, xcg, xct, xro, xrb⟩ xrT (PySem.W.mg_of X G xrN) xeR, ⟨xe, ⟨xk, PySem.W.mg_of X G xeN⟩⟩, IsC.other xeN (PySem.W.mg_of X G y0N) (by decide) y0D y0T y0O y0S, IsC.self xeN (PySem.W.mg_of X G xeN), IsC.other xeN (PySem.W.mg_of X G y1N) (by decide) y1D y1T y1O y1S, IsC.other xeN (PySem.W.mg_of X G y2N) (by decide) y2D y2T y2O y2S, IsC.other xeN (PySem.W.mg_of X G y3N) (by decide) y3D y3T y3O y3S, IsC.other xeN (PySem.W.mg_of X G y4N) (by decide) y4D y4T y4O y4S⟩
  have A__law_cell : At K mg "_law_cell" (top 33) ["_law_script", "_law_k"] := ⟨_, _, x0p (st := top 33) l1 c1 k1, PySem.W.mg_of X G a1, (x0p (st := top 33) l1 c1 k1).binds fun _ _ _ _ _ _ us hl => by obtain ⟨_, _, rfl⟩ := L3.z8u hl; rfl⟩
  have A__law_pick : At K mg "_law_pick" (top 34) ["_law_script", "_law_k", "_law_many"] := ⟨_, _, x0p (st := top 34) l2 c2 k2, PySem.W.mg_of X G a2, (x0p (st := top 34) l2 c2 k2).binds fun _ _ _ _ _ _ us hl => by obtain ⟨_, _, _, rfl⟩ := L3.z9n hl; rfl⟩
  have A__law_chain : At K mg "_law_chain" (top 35) ["_law_many"] := ⟨_, _, x0p (st := top 35) l3 c3 k3, PySem.W.mg_of X G a3, (x0p (st := top 35) l3 c3 k3).binds fun _ _ _ _ _ _ us hl => by obtain ⟨_, rfl⟩ := L3.z93 hl; rfl⟩
  have A__law_couples : At K mg "_law_couples" (top 36) ["_law_one", "_law_other"] := ⟨_, _, x0p (st := top 36) l4 c4 k4, PySem.W.mg_of X G a4, (x0p (st := top 36) l4 c4 k4).binds fun _ _ _ _ _ _ us hl => by obtain ⟨_, _, rfl⟩ := L3.z8u hl; rfl⟩
  have A__law_side_by_side : At K mg "_law_side_by_side" (top 37) ["_law_many"] := ⟨_, _, x0p (st := top 37) l5 c5 k5, PySem.W.mg_of X G a5, (x0p (st := top 37) l5 c5 k5).binds fun _ _ _ _ _ _ us hl => by obtain ⟨_, rfl⟩ := L3.z93 hl; rfl⟩
  have A__law_base : At K mg "_law_base" (top 38) ["_law_script", "_law_at"] := ⟨_, _, x0p (st := top 38) l6 c6 k6, PySem.W.mg_of X G a6, (x0p (st := top 38) l6 c6 k6).binds fun _ _ _ _ _ _ us hl => by obtain ⟨_, _, rfl⟩ := L3.z8u hl; rfl⟩
  have A__law_ladder : At K mg "_law_ladder" (top 39) ["_law_script", "_law_at"] := ⟨_, _, x0p (st := top 39) l7 c7 k7, PySem.W.mg_of X G a7, (x0p (st := top 39) l7 c7 k7).binds fun _ _ _ _ _ _ us hl => by obtain ⟨_, _, rfl⟩ := L3.z8u hl; rfl⟩
  have A__law_under : At K mg "_law_under" (top 42) ["_law_ladder_here", "_law_worth"] := ⟨_, _, x0p (st := top 42) l8 c8 k8, PySem.W.mg_of X G a8, (x0p (st := top 42) l8 c8 k8).binds fun _ _ _ _ _ _ us hl => by obtain ⟨_, _, rfl⟩ := L3.z8u hl; rfl⟩
  have A__law_over : At K mg "_law_over" (top 43) ["_law_ladder_here", "_law_worth"] := ⟨_, _, x0p (st := top 43) l9 c9 k9, PySem.W.mg_of X G a9, (x0p (st := top 43) l9 c9 k9).binds fun _ _ _ _ _ _ us hl => by obtain ⟨_, _, rfl⟩ := L3.z8u hl; rfl⟩
  have A__law_map : At K mg "_law_map" (top 44) ["_law_script", "_law_at", "_law_ladder_here"] := ⟨_, _, x0p (st := top 44) l10 c10 k10, PySem.W.mg_of X G a10, (x0p (st := top 44) l10 c10 k10).binds fun _ _ _ _ _ _ us hl => by obtain ⟨_, _, _, rfl⟩ := L3.z9n hl; rfl⟩
  have A__law_word : At K mg "_law_word" (top 45) ["_law_kept"] := ⟨_, _, x0p (st := top 45) l11 c11 k11, PySem.W.mg_of X G a11, (x0p (st := top 45) l11 c11 k11).binds fun _ _ _ _ _ _ us hl => by obtain ⟨_, rfl⟩ := L3.z93 hl; rfl⟩
  have A_is_whole : At K mg "is_whole" (top 9) ["thing"] := ⟨_, _, x0p (st := top 9) l12 c12 k12, PySem.W.mg_of X G a12, (x0p (st := top 9) l12 c12 k12).binds fun _ _ _ _ _ _ us hl => by obtain ⟨_, rfl⟩ := L3.z93 hl; rfl⟩
  have A_is_number_of : At K mg "is_number_of" (top 10) ["thing", "many"] := ⟨_, _, x0p (st := top 10) l13 c13 k13, PySem.W.mg_of X G a13, (x0p (st := top 10) l13 c13 k13).binds fun _ _ _ _ _ _ us hl => by obtain ⟨_, _, rfl⟩ := L3.z8u hl; rfl⟩
  have A_is_row_of : At K mg "is_row_of" (top 11) ["thing", "length", "many"] := ⟨_, _, x0p (st := top 11) l14 c14 k14, PySem.W.mg_of X G a14, (x0p (st := top 11) l14 c14 k14).binds fun _ _ _ _ _ _ us hl => by obtain ⟨_, _, _, rfl⟩ := L3.z9n hl; rfl⟩
  have A_leads_joins_to_joins : At K mg "leads_joins_to_joins" (top 24) ["ladder", "other", "table"] := ⟨_, _, x0p (st := top 24) l15 c15 k15, PySem.W.mg_of X G a15, (x0p (st := top 24) l15 c15 k15).binds fun _ _ _ _ _ _ us hl => by obtain ⟨_, _, _, rfl⟩ := L3.z9n hl; rfl⟩
  have A_row_of_least : At K mg "row_of_least" (top 18) ["many"] := ⟨_, _, x0p (st := top 18) l16 c16 k16, PySem.W.mg_of X G a16, (x0p (st := top 18) l16 c16 k16).binds fun _ _ _ _ _ _ us hl => by obtain ⟨_, rfl⟩ := L3.z93 hl; rfl⟩
  have A_least_of : At K mg "least_of" (top 20) ["ladder"] := ⟨_, _, x0p (st := top 20) l17 c17 k17, PySem.W.mg_of X G a17, (x0p (st := top 20) l17 c17 k17).binds fun _ _ _ _ _ _ us hl => by obtain ⟨_, rfl⟩ := L3.z93 hl; rfl⟩
  have A_is_map : At K mg "is_map" (top 28) ["ladder", "other", "thing"] := ⟨_, _, x0p (st := top 28) l18 c18 k18, PySem.W.mg_of X G a18, (x0p (st := top 28) l18 c18 k18).binds fun _ _ _ _ _ _ us hl => by obtain ⟨_, _, _, rfl⟩ := L3.z9n hl; rfl⟩
  have A_refuse_no_map : At K mg "refuse_no_map" (top 29) ["ladder", "other", "thing"] := ⟨_, _, x0p (st := top 29) l19 c19 k19, PySem.W.mg_of X G a19, (x0p (st := top 29) l19 c19 k19).binds fun _ _ _ _ _ _ us hl => by obtain ⟨_, _, _, rfl⟩ := L3.z9n hl; rfl⟩
  have A_joined_all : At K mg "joined_all" (top 22) ["ladder", "worths"] := ⟨_, _, x0p (st := top 22) l20 c20 k20, PySem.W.mg_of X G a20, (x0p (st := top 22) l20 c20 k20).binds fun _ _ _ _ _ _ us hl => by obtain ⟨_, _, rfl⟩ := L3.z8u hl; rfl⟩
  have A_is_below : At K mg "is_below" (top 21) ["ladder", "one", "other"] := ⟨_, _, x0p (st := top 21) l21 c21 k21, PySem.W.mg_of X G a21, (x0p (st := top 21) l21 c21 k21).binds fun _ _ _ _ _ _ us hl => by obtain ⟨_, _, _, rfl⟩ := L3.z9n hl; rfl⟩
  have A_led_below : At K mg "led_below" (top 25) ["ladder", "table", "worth"] := ⟨_, _, x0p (st := top 25) l22 c22 k22, PySem.W.mg_of X G a22, (x0p (st := top 25) l22 c22 k22).binds fun _ _ _ _ _ _ us hl => by obtain ⟨_, _, _, rfl⟩ := L3.z9n hl; rfl⟩
  have A_back_of : At K mg "back_of" (top 30) ["ladder", "other", "mapping"] := ⟨_, _, x0p (st := top 30) l23 c23 k23, PySem.W.mg_of X G a23, (x0p (st := top 30) l23 c23 k23).binds fun _ _ _ _ _ _ us hl => by obtain ⟨_, _, _, rfl⟩ := L3.z9n hl; rfl⟩
  have A__law_back : At K mg "_law_back" (top 47) ["_law_ladder_here", "_law_other", "_law_mapping"] := ⟨_, _, x0p (st := top 47) l24 c24 k24, PySem.W.mg_of X G a24, (x0p (st := top 47) l24 c24 k24).binds fun _ _ _ _ _ _ us hl => by obtain ⟨_, _, _, rfl⟩ := L3.z9n hl; rfl⟩
  have A_after : At K mg "after" (top 26) ["first", "then"] := ⟨_, _, x0p (st := top 26) l25 c25 k25, PySem.W.mg_of X G a25, (x0p (st := top 26) l25 c25 k25).binds fun _ _ _ _ _ _ us hl => by obtain ⟨_, _, rfl⟩ := L3.z8u hl; rfl⟩
  have A_after_map : At K mg "after_map" (top 31) ["mapping", "then"] := ⟨_, _, x0p (st := top 31) l26 c26 k26, PySem.W.mg_of X G a26, (x0p (st := top 31) l26 c26 k26).binds fun _ _ _ _ _ _ us hl => by obtain ⟨_, _, rfl⟩ := L3.z8u hl; rfl⟩
  have A__law_low : At K mg "_law_low" (top 40) ["_law_ladder_here"] := ⟨_, _, x0p (st := top 40) l27 c27 k27, PySem.W.mg_of X G a27, (x0p (st := top 40) l27 c27 k27).binds fun _ _ _ _ _ _ us hl => by obtain ⟨_, rfl⟩ := L3.z93 hl; rfl⟩
  have A__law_due : At K mg "_law_due" (top 46) ["_law_ladder_here", "_law_other", "_law_thing"] := ⟨_, _, x0p (st := top 46) l28 c28 k28, PySem.W.mg_of X G a28, (x0p (st := top 46) l28 c28 k28).binds fun _ _ _ _ _ _ us hl => by obtain ⟨_, _, _, rfl⟩ := L3.z9n hl; rfl⟩
  have A_joins_are_from_either_end : At K mg "joins_are_from_either_end" (top 17) ["table"] := ⟨_, _, x0p (st := top 17) l29 c29 k29, PySem.W.mg_of X G a29, (x0p (st := top 17) l29 c29 k29).binds fun _ _ _ _ _ _ us hl => by obtain ⟨_, rfl⟩ := L3.z93 hl; rfl⟩
  have A_has_least : At K mg "has_least" (top 19) ["table"] := ⟨_, _, x0p (st := top 19) l30 c30 k30, PySem.W.mg_of X G a30, (x0p (st := top 19) l30 c30 k30).binds fun _ _ _ _ _ _ us hl => by obtain ⟨_, rfl⟩ := L3.z93 hl; rfl⟩
  have A_joins_with_itself_stay : At K mg "joins_with_itself_stay" (top 15) ["table"] := ⟨_, _, x0p (st := top 15) l31 c31 k31, PySem.W.mg_of X G a31, (x0p (st := top 15) l31 c31 k31).binds fun _ _ _ _ _ _ us hl => by obtain ⟨_, rfl⟩ := L3.z93 hl; rfl⟩
  have A_joins_are_either_way : At K mg "joins_are_either_way" (top 16) ["table"] := ⟨_, _, x0p (st := top 16) l32 c32 k32, PySem.W.mg_of X G a32, (x0p (st := top 16) l32 c32 k32).binds fun _ _ _ _ _ _ us hl => by obtain ⟨_, rfl⟩ := L3.z93 hl; rfl⟩
  have A_is_ladder : At K mg "is_ladder" (top 14) ["thing"] := ⟨_, _, x0p (st := top 14) l33 c33 k33, PySem.W.mg_of X G a33, (x0p (st := top 14) l33 c33 k33).binds fun _ _ _ _ _ _ us hl => by obtain ⟨_, rfl⟩ := L3.z93 hl; rfl⟩
  refine ⟨PySem.W.fnOf "law" "law" (x15 (top 48)) (x0s (top 48)) (x08 (top 48)) .none kV34 dc34 pm34 an34 cd34 ct34, fun s v => .of_eq rfl, fun base _ _ => ?_⟩
  have D__law_cell := y2n (P := l.prog) (w := w) (base := base) B  A__law_cell
  have D__law_pick := y3c (P := l.prog) (w := w) (base := base) B D__law_cell A__law_pick
  have D__law_chain := y24 (P := l.prog) (w := w) (base := base) B  A__law_chain
  have D__law_couples := x9b (P := l.prog) (w := w) (base := base) B  A__law_couples
  have D__law_side_by_side := x6j (P := l.prog) (w := w) (base := base) B  A__law_side_by_side
  have D__law_base := y3o (P := l.prog) (w := w) (base := base) B D__law_pick D__law_chain D__law_couples D__law_side_by_side A__law_base
  have D__law_ladder := y0l (P := l.prog) (w := w) (base := base) B D__law_base D__law_pick A__law_ladder
  have D__law_under := y1p (P := l.prog) (w := w) (base := base) B  A__law_under
  have D__law_over := y2l (P := l.prog) (w := w) (base := base) B D__law_under A__law_over
  have D__law_map := y4x (P := l.prog) (w := w) (base := base) B D__law_pick D__law_over D__law_couples A__law_map
  have D__law_word := y2m (P := l.prog) (w := w) (base := base) B T  A__law_word
  have D_is_whole := y4r (P := l.prog) (w := w) (base := base) B  A_is_whole
  have D_is_number_of := x9c (P := l.prog) (w := w) (base := base) B D_is_whole A_is_number_of
  have D_is_row_of := y36 (P := l.prog) (w := w) (base := base) B D_is_number_of A_is_row_of
  have D_leads_joins_to_joins := x5i (P := l.prog) (w := w) (base := base) B  A_leads_joins_to_joins
  have D_row_of_least := x9k (P := l.prog) (w := w) (base := base) B  A_row_of_least
  have D_least_of := y52 (P := l.prog) (w := w) (base := base) B D_row_of_least A_least_of
  have D_is_map := y9w (P := l.prog) (w := w) (base := base) B D_is_row_of D_leads_joins_to_joins D_least_of A_is_map
  have D_refuse_no_map := x92 (P := l.prog) (w := w) (base := base) B D_is_map A_refuse_no_map
  have DX_refuse_no_map := x86 (P := l.prog) (w := w) (base := base) B T D_is_map A_refuse_no_map
  have D_joined_all := y1s (P := l.prog) (w := w) (base := base) B D_least_of A_joined_all
  have D_is_below := y4p (P := l.prog) (w := w) (base := base) B  A_is_below
  have D_led_below := y2y (P := l.prog) (w := w) (base := base) B D_is_below A_led_below
  have D_back_of := y61 (P := l.prog) (w := w) (base := base) B D_refuse_no_map D_joined_all D_led_below A_back_of
  have DX_back_of := y4o (P := l.prog) (w := w) (base := base) B T  DX_refuse_no_map A_back_of
  have D__law_back := y37 (P := l.prog) (w := w) (base := base) B T D_back_of D__law_word DX_back_of A__law_back
  have D_after := z2g (P := l.prog) (w := w) (base := base) B  A_after
  have D_after_map := y2j (P := l.prog) (w := w) (base := base) B D_after A_after_map
  have D__law_low := y5b (P := l.prog) (w := w) (base := base) B  A__law_low
  have D__law_due := y4n (P := l.prog) (w := w) (base := base) B D__law_low A__law_due
  have D_joins_are_from_either_end := x48 (P := l.prog) (w := w) (base := base) B  A_joins_are_from_either_end
  have D_has_least := y3p (P := l.prog) (w := w) (base := base) B D_row_of_least A_has_least
  have D_joins_with_itself_stay := x4q (P := l.prog) (w := w) (base := base) B  A_joins_with_itself_stay
  have D_joins_are_either_way := x5h (P := l.prog) (w := w) (base := base) B  A_joins_are_either_way
  have D_is_ladder := y2v (P := l.prog) (w := w) (base := base) B D_is_row_of D_joins_with_itself_stay D_joins_are_either_way D_joins_are_from_either_end D_has_least A_is_ladder
  exact z3f B D__law_ladder D__law_map D_is_ladder D_is_map D__law_pick D__law_due D__law_back D_after_map D_back_of (x0p (st := top 48) l34 c34 k34)
theorem walk {l : PySem.W.OpenLaw} {q : Program} {loose : List Str} {XP : (Str -> Option Value) -> Heap -> Prop} {YP : World -> Heap -> Prop} {d : DefRec} {K : Params -> PySem.W.Frag} (hn : l.most = some 63) (hdf : d.params.defaults = [])
    (hY : ∀ (w : World) (h : Heap), YP w h -> (K w.params).In h)
    (F : ∀ (w : World) (mg : Str -> Option Value) (fa : Addr) (h : Heap), (K w.params).In h -> h.Ns mainGlobals mg -> mg d.name = some (.ref fa) ->
      ∃ fd : FuncData, (∀ (s : Shared) (u : Value), BindsTo s fd ⟨[u], []⟩ [("_law_script", u)]) /\ ∀ base : Heap, (K w.params).In base -> base.Ns mainGlobals mg -> FnOk l.prog w (K w.params) mg base CX0 8 fa fd ["_law_script"] (spD (K w.params) 1 y4s)) :
    PySem.W.WalkO q loose XP YP l.row.toRowW d [] (fun f vs => PySem.call f vs) :=
  L2.z86 (n := 63) (k := 8) (x := "_law_script") (CX := fun _ => CX0) (sp := fun w => spD (K w.params) 1 y4s) hn (by decide) hdf ⟨rfl, by decide, by decide⟩ hY F (fun _ _ a ns hl _ hS => z5o law_true hl hS) fun _ _ _ _ _ z => z
end My
namespace PySem.W.Fast
def tw10040348483458893248 := 0
def tw10062644113276367224 := 0
def tw10193341397568810938 := 0
def tw10198634966354316049 := 0
def tw10218136965685600863 := 0
def tw10283164128775756069 := 0
def tw10335036339771443520 := 0
def tw10416840606312930744 := 0
def tw10426555495077030987 := 0
def tw1053296774676185972 := 0
def tw10556943071696861225 := 0
def tw10568280390841530996 := 0
def tw10629250794844890428 := 0
def tw10760015991807762083 := 0
def tw10845164009865532649 := 0
def tw109811612968589173 := 0
def tw11018357796756034917 := 0
def tw11194278010463272949 := 0
def tw11204016557648478631 := 0
def tw11285453188042586110 := 0
def tw11294043024697790315 := 0
def tw11297822402291465315 := 0
def tw11361412368799078229 := 0
def tw11450488885499773868 := 0
def tw11520885483223138515 := 0
def tw11752106003145624328 := 0
def tw11771724887168410643 := 0
def tw11854953974744424874 := 0
def tw12035428753673461302 := 0
def tw12246388769124882095 := 0
def tw12278654232433335939 := 0
def tw1230017010541108000 := 0
def tw12304346287139912048 := 0
def tw12363546482923578250 := 0
def tw12422039148387149407 := 0
def tw12514982863405503097 := 0
def tw12533798129802627907 := 0
def tw12624236201938060277 := 0
def tw12721597079439599788 := 0
def tw12738401513991620841 := 0
def tw12805894287659949022 := 0
def tw12848028043420612493 := 0
def tw12872554746469865639 := 0
def tw12934435457899361964 := 0
def tw13086504838079649742 := 0
def tw13121999742361810775 := 0
def tw13177074332973346946 := 0
def tw13213734146483265401 := 0
def tw13403306133019309643 := 0
def tw13426533911207015273 := 0
def tw13431732271784145572 := 0
def tw13492059479289404322 := 0
def tw13505931406978856522 := 0
def tw13674042897652359085 := 0
def tw13675247619814026084 := 0
def tw13778326339932080756 := 0
def tw13845916004413722169 := 0
def tw13849276302986411068 := 0
def tw13902567048410852266 := 0
def tw13928265370957512405 := 0
def tw13934755737477144579 := 0
def tw14067727818913736064 := 0
def tw14087025354472043191 := 0
def tw14194101199104843122 := 0
def tw14219905118773858196 := 0
def tw14330006532518419680 := 0
def tw1440062557817468006 := 0
def tw144686990130328332 := 0
def tw14702101386531550076 := 0
def tw14703435153934988332 := 0
def tw14731395291292294927 := 0
def tw14739914906878373743 := 0
def tw14753392484741613142 := 0
def tw14826751424988945888 := 0
def tw1483669661209103802 := 0
def tw14837236920643511728 := 0
def tw14843967131959297685 := 0
def tw14929299676029399128 := 0
def tw14988490498756692468 := 0
def tw150050433529303027 := 0
def tw15013147949792583276 := 0
def tw15045368503738718998 := 0
def tw15051638469370673016 := 0
def tw15112853157701639574 := 0
def tw15123408747413520747 := 0
def tw15126599202854214107 := 0
def tw15214004533351440301 := 0
def tw15235595862662141795 := 0
def tw15239516053596669955 := 0
def tw15335045594509824309 := 0
def tw15370525723535323625 := 0
def tw15388514881076061385 := 0
def tw15403509886949530230 := 0
def tw15431352665709723085 := 0
def tw15472795651452703898 := 0
def tw15559380556429779068 := 0
def tw15575100413233970960 := 0
def tw15591970586011339071 := 0
def tw15622315138905941767 := 0
def tw15708524300437631261 := 0
def tw15779298538141311069 := 0
def tw15790243865640801167 := 0
def tw15845279163000855739 := 0
def tw15870462120774403863 := 0
def tw15883786232750958051 := 0
def tw15884882884983436043 := 0
def tw15897748443512691808 := 0
def tw1590065067951902883 := 0
def tw16070671532908858504 := 0
def tw16082382609755950694 := 0
def tw16090823136870745666 := 0
def tw16091457970087280873 := 0
def tw16158704130731262953 := 0
def tw16223165715497119420 := 0
def tw16308343885650622173 := 0
def tw16314544894050661775 := 0
def tw16315792219277921452 := 0
def tw16323105247737473898 := 0
def tw16324268024496311735 := 0
def tw16357635475470447907 := 0
def tw16393619309661529204 := 0
def tw16393801019761478655 := 0
def tw16409027004327902494 := 0
def tw16588978834760657474 := 0
def tw16636164102838347789 := 0
def tw1677457610919951172 := 0
def tw16840123443045761022 := 0
def tw1688764111432616548 := 0
def tw16943481995735243504 := 0
def tw17027310549493758042 := 0
def tw17057227246309007080 := 0
def tw17166119838867773381 := 0
def tw17268605799469436324 := 0
def tw17332568645681570261 := 0
def tw17418700891023438246 := 0
def tw17519774690616658237 := 0
def tw176798011545057653 := 0
def tw1768088335569966829 := 0
def tw17811277999519847853 := 0
def tw17821401952000727651 := 0
def tw17849499195339869939 := 0
def tw1786614551420354913 := 0
def tw17872021538178051151 := 0
def tw1796652026325906622 := 0
def tw18015982835615881198 := 0
def tw18186641196189123998 := 0
def tw18228840196782744714 := 0
def tw18238975883287115646 := 0
def tw18266416405485533100 := 0
def tw1900726256792956462 := 0
def tw193542518663654638 := 0
def tw1940339585964191100 := 0
def tw1957549983951975767 := 0
def tw2003267598557749630 := 0
def tw2027764137089043584 := 0
def tw2143525110754809904 := 0
def tw216295953977160708 := 0
def tw2214580016247673970 := 0
def tw2283398852905305735 := 0
def tw2285859188690850306 := 0
def tw2294267263619012151 := 0
def tw2708091229689981324 := 0
def tw2795109274632029013 := 0
def tw2908548879979817477 := 0
def tw2927521208300400679 := 0
def tw2945746469085889792 := 0
def tw2982408741478713315 := 0
def tw2990259422310461650 := 0
def tw309932300882550876 := 0
def tw3184669090936736459 := 0
def tw3194591660609409786 := 0
def tw3622832598481070369 := 0
def tw3673561968478708302 := 0
def tw3896287438327557315 := 0
def tw3928510329342327926 := 0
def tw393936650509032346 := 0
def tw3972320770241334148 := 0
def tw3979587776280587323 := 0
def tw4148640356814570843 := 0
def tw416941319269467038 := 0
def tw4280693373883075887 := 0
def tw4299722585416408755 := 0
def tw439918503328635060 := 0
def tw4434830395166918197 := 0
def tw4443140397659417471 := 0
def tw4469710897656433469 := 0
def tw454324789568794284 := 0
def tw4570894381576006336 := 0
def tw4580965690455942444 := 0
def tw4678989723475266686 := 0
def tw4690124465228336734 := 0
def tw4783805366344542845 := 0
def tw4794930877162731642 := 0
def tw4926741753546897344 := 0
def tw4949927622475111847 := 0
def tw4985093364942398177 := 0
def tw4985657194724951541 := 0
def tw5026813689795824061 := 0
def tw5053753093991190014 := 0
def tw5074225072174171644 := 0
def tw5091640554973658296 := 0
def tw5101770205205355045 := 0
def tw5115359062811198317 := 0
def tw5119732535768089223 := 0
def tw5259178817876036008 := 0
def tw5294485465149553684 := 0
def tw5372729615815976230 := 0
def tw5387117236733676597 := 0
def tw5434902859696214945 := 0
def tw5445450691654823822 := 0
def tw5488772547999724802 := 0
def tw5514642276601946544 := 0
def tw5676674004196406160 := 0
def tw5687851337051050667 := 0
def tw5698313532413769475 := 0
def tw5726407653183010795 := 0
def tw5750464848445880164 := 0
def tw578142365589047767 := 0
def tw5843268745729892372 := 0
def tw587511089876276475 := 0
def tw599706400210621414 := 0
def tw6024886771645873673 := 0
def tw6065537602811967209 := 0
def tw6109108105577686568 := 0
def tw6212264294598861009 := 0
def tw6274510184297228792 := 0
def tw6325452246160511380 := 0
def tw6379505358903571157 := 0
def tw6387261422452085003 := 0
def tw6466608548764723974 := 0
def tw6519929651070121606 := 0
def tw6631433187990761180 := 0
def tw6661974819775615749 := 0
def tw6774726859781296845 := 0
def tw6906390816916408564 := 0
def tw693094571051803243 := 0
def tw6933938849730498517 := 0
def tw6954231329250295171 := 0
def tw6977937166854156835 := 0
def tw701275147587070199 := 0
def tw7027248216856144455 := 0
def tw7259139535357633310 := 0
def tw72592609529452380 := 0
def tw730294527588726856 := 0
def tw7359977412809548835 := 0
def tw7434612494173482444 := 0
def tw7470893605948193733 := 0
def tw751529815879528816 := 0
def tw7674057428320068621 := 0
def tw7677991045474931812 := 0
def tw7834387401585995234 := 0
def tw7881489575188279497 := 0
def tw7939617639797155626 := 0
def tw7956190487216719457 := 0
def tw7961760184432951988 := 0
def tw7969599372654626414 := 0
def tw8093135303032989949 := 0
def tw811578964656575602 := 0
def tw8219432696568630350 := 0
def tw827435478731441666 := 0
def tw8291214415092908915 := 0
def tw8306790925632477473 := 0
def tw8310530968032096258 := 0
def tw8313128562555884709 := 0
def tw8333614312366454739 := 0
def tw834120522951634056 := 0
def tw8388564166843984816 := 0
def tw8409676275388208144 := 0
def tw8478345327066667462 := 0
def tw8495113588130919191 := 0
def tw8599559107697305997 := 0
def tw8632480752579697013 := 0
def tw8734627384643392042 := 0
def tw8735806946876260684 := 0
def tw877205736897619225 := 0
def tw8797258694495378001 := 0
def tw8800390974625919558 := 0
def tw8801133366841054692 := 0
def tw8811915804258333295 := 0
def tw8838102216652958973 := 0
def tw8902398141926840108 := 0
def tw9013242058298765744 := 0
def tw9047434261066889661 := 0
def tw9139497241635916409 := 0
def tw9154364174885908158 := 0
def tw9190442378626629396 := 0
def tw9234912882697719789 := 0
def tw9323742554520026448 := 0
def tw9463276384648241517 := 0
def tw9555624031593671779 := 0
def tw9582060569999542537 := 0
def tw9583410739509929792 := 0
def tw9592936551782164181 := 0
def tw966080980088985653 := 0
def tw9665312876651264200 := 0
def tw970343977031848855 := 0
def tw9705902332259635501 := 0
def tw9731218853724789382 := 0
def tw9737123627587014085 := 0
def tw9773017444410924107 := 0
def tw9783490863030363426 := 0
def tw9794270935076073170 := 0
def tw9830315191912789173 := 0
def tw9870514117536286325 := 0
def tw9881470560629612347 := 0
def tw9936233426530521827 := 0
def tw9989090631472522012 := 0
end PySem.W.Fast
open PySem PySem.W PyProof.Rows
set_option maxRecDepth 100000 in
set_option maxHeartbeats 0 in
theorem PySem.Challenge.cw_ladderhall_k90_maps_holds : PySem.Challenge.rw_ladderhall_k90_maps.Holds := by
  w_on; o_law; k_head; (case hw => w_witness2)
  k_fill
  refine My.walk (l := PySem.Challenge.rw_ladderhall_k90_maps) rfl rfl (fun w h Y => PySem.W.kIn_of Y) ?F
  case F =>
    intro w mg fa h KX G hmg
    refine' My.all_mk KX G hmg ?a1 ?l1 ?c1 ?k1 ?a2 ?l2 ?c2 ?k2 ?a3 ?l3 ?c3 ?k3 ?a4 ?l4 ?c4 ?k4 ?a5 ?l5 ?c5 ?k5 ?a6 ?l6 ?c6 ?k6 ?a7 ?l7 ?c7 ?k7 ?a8 ?l8 ?c8 ?k8 ?a9 ?l9 ?c9 ?k9 ?a10 ?l10 ?c10 ?k10 ?a11 ?l11 ?c11 ?k11 ?a12 ?l12 ?c12 ?k12 ?a13 ?l13 ?c13 ?k13 ?a14 ?l14 ?c14 ?k14 ?a15 ?l15 ?c15 ?k15 ?a16 ?l16 ?c16 ?k16 ?a17 ?l17 ?c17 ?k17 ?a18 ?l18 ?c18 ?k18 ?a19 ?l19 ?c19 ?k19 ?a20 ?l20 ?c20 ?k20 ?a21 ?l21 ?c21 ?k21 ?a22 ?l22 ?c22 ?k22 ?a23 ?l23 ?c23 ?k23 ?a24 ?l24 ?c24 ?k24 ?a25 ?l25 ?c25 ?k25 ?a26 ?l26 ?c26 ?k26 ?a27 ?l27 ?c27 ?k27 ?a28 ?l28 ?c28 ?k28 ?a29 ?l29 ?c29 ?k29 ?a30 ?l30 ?c30 ?k30 ?a31 ?l31 ?c31 ?k31 ?a32 ?l32 ?c32 ?k32 ?a33 ?l33 ?c33 ?k33 ?a34 ?l34 ?c34 ?k34 ?z1 ?z2 ?z3 ?z4 ?z5 ?z6 ?z7 ?z8 ?z9 ?z10 ?z11 ?z12 ?v1 ?xeN ?xrN ?xcg ?xct ?xeg ?xet ?xec ?xeo ?xeb ?xrg ?xrt ?xrc ?xro ?xrb ?xeV ?xe0 ?xe1 ?xe2 ?xe3 ?xe4 ?xrT ?xeR ?xeX ?y0N ?y0T ?y0O ?y0S ?y0D ?y1N ?y1T ?y1O ?y1S ?y1D ?y2N ?y2T ?y2O ?y2S ?y2D ?y3N ?y3T ?y3O ?y3S ?y3D ?y4N ?y4T ?y4O ?y4S ?y4D
    (case a1 => k_is)
    (case l1 => k_is)
    (case c1 => k_is)
    (case k1 => k_is)
    (case a2 => k_is)
    (case l2 => k_is)
    (case c2 => k_is)
    (case k2 => k_is)
    (case a3 => k_is)
    (case l3 => k_is)
    (case c3 => k_is)
    (case k3 => k_is)
    (case a4 => k_is)
    (case l4 => k_is)
    (case c4 => k_is)
    (case k4 => k_is)
    (case a5 => k_is)
    (case l5 => k_is)
    (case c5 => k_is)
    (case k5 => k_is)
    (case a6 => k_is)
    (case l6 => k_is)
    (case c6 => k_is)
    (case k6 => k_is)
    (case a7 => k_is)
    (case l7 => k_is)
    (case c7 => k_is)
    (case k7 => k_is)
    (case a8 => k_is)
    (case l8 => k_is)
    (case c8 => k_is)
    (case k8 => k_is)
    (case a9 => k_is)
    (case l9 => k_is)
    (case c9 => k_is)
    (case k9 => k_is)
    (case a10 => k_is)
    (case l10 => k_is)
    (case c10 => k_is)
    (case k10 => k_is)
    (case a11 => k_is)
    (case l11 => k_is)
    (case c11 => k_is)
    (case k11 => k_is)
    (case a12 => k_is)
    (case l12 => k_is)
    (case c12 => k_is)
    (case k12 => k_is)
    (case a13 => k_is)
    (case l13 => k_is)
    (case c13 => k_is)
    (case k13 => k_is)
    (case a14 => k_is)
    (case l14 => k_is)
    (case c14 => k_is)
    (case k14 => k_is)
    (case a15 => k_is)
    (case l15 => k_is)
    (case c15 => k_is)
    (case k15 => k_is)
    (case a16 => k_is)
    (case l16 => k_is)
    (case c16 => k_is)
    (case k16 => k_is)
    (case a17 => k_is)
    (case l17 => k_is)
    (case c17 => k_is)
    (case k17 => k_is)
    (case a18 => k_is)
    (case l18 => k_is)
    (case c18 => k_is)
    (case k18 => k_is)
    (case a19 => k_is)
    (case l19 => k_is)
    (case c19 => k_is)
    (case k19 => k_is)
    (case a20 => k_is)
    (case l20 => k_is)
    (case c20 => k_is)
    (case k20 => k_is)
    (case a21 => k_is)
    (case l21 => k_is)
    (case c21 => k_is)
    (case k21 => k_is)
    (case a22 => k_is)
    (case l22 => k_is)
    (case c22 => k_is)
    (case k22 => k_is)
    (case a23 => k_is)
    (case l23 => k_is)
    (case c23 => k_is)
    (case k23 => k_is)
    (case a24 => k_is)
    (case l24 => k_is)
    (case c24 => k_is)
    (case k24 => k_is)
    (case a25 => k_is)
    (case l25 => k_is)
    (case c25 => k_is)
    (case k25 => k_is)
    (case a26 => k_is)
    (case l26 => k_is)
    (case c26 => k_is)
    (case k26 => k_is)
    (case a27 => k_is)
    (case l27 => k_is)
    (case c27 => k_is)
    (case k27 => k_is)
    (case a28 => k_is)
    (case l28 => k_is)
    (case c28 => k_is)
    (case k28 => k_is)
    (case a29 => k_is)
    (case l29 => k_is)
    (case c29 => k_is)
    (case k29 => k_is)
    (case a30 => k_is)
    (case l30 => k_is)
    (case c30 => k_is)
    (case k30 => k_is)
    (case a31 => k_is)
    (case l31 => k_is)
    (case c31 => k_is)
    (case k31 => k_is)
    (case a32 => k_is)
    (case l32 => k_is)
    (case c32 => k_is)
    (case k32 => k_is)
    (case a33 => k_is)
    (case l33 => k_is)
    (case c33 => k_is)
    (case k33 => k_is)
    (case a34 => k_is)
    (case l34 => k_is)
    (case c34 => k_is)
    (case k34 => k_is)
    (case z1 => k_is)
    (case z2 => k_is)
    (case z3 => k_is)
    (case z4 => k_is)
    (case z5 => k_is)
    (case z6 => k_is)
    (case z7 => k_is)
    (case z8 => k_is)
    (case z9 => k_is)
    (case z10 => k_is)
    (case z11 => k_is)
    (case z12 => k_is)
    (case v1 => k_is)
    (case xeN => k_is)
    (case xrN => k_is)
    (case xcg => k_is)
    (case xct => k_is)
    (case xeg => k_is)
    (case xet => k_is)
    (case xec => k_is)
    (case xeo => k_is)
    (case xeb => k_is)
    (case xrg => k_is)
    (case xrt => k_is)
    (case xrc => k_is)
    (case xro => k_is)
    (case xrb => k_is)
    (case xeV => k_is)
    (case xe0 => k_is)
    (case xe1 => k_is)
    (case xe2 => k_is)
    (case xe3 => k_is)
    (case xe4 => k_is)
    (case xrT => k_is)
    (case xeR => k_is)
    (case xeX => k_exc)
    (case y0N => k_is)
    (case y0T => k_is)
    (case y0O => k_is)
    (case y0S => k_is)
    (case y0D => decide)
    (case y1N => k_is)
    (case y1T => k_is)
    (case y1O => k_is)
    (case y1S => k_is)
    (case y1D => decide)
    (case y2N => k_is)
    (case y2T => k_is)
    (case y2O => k_is)
    (case y2S => k_is)
    (case y2D => decide)
    (case y3N => k_is)
    (case y3T => k_is)
    (case y3O => k_is)
    (case y3S => k_is)
    (case y3D => decide)
    (case y4N => k_is)
    (case y4T => k_is)
    (case y4O => k_is)
    (case y4S => k_is)
    (case y4D => decide)
